import PyProof.Rows.All
import Wide.All
import OpenK.AllK
import Wide.FinOn
import HandS.TupMul
import HandS.RaiseMore
import HandS.SortInts
import HandS.Conv
import HandS.SetKeys
import HandS.ForMost
import HandS.ForExc
import HandS.Deep
import HandS.Flow
import HandS.TupAny
import HandS.Strs
import HandS.IsInst
import HandS.ExcIs
import HandS.DictComp
import KE.GoesEnum
import KE.DataMinMax
import PyProof.Rows.SeqMore
import PySem.Challenge.RW_scarp_k16_values_of_logs
set_option Elab.async false
set_option linter.all false
set_option maxRecDepth 100000
set_option maxHeartbeats 4000000

namespace DL
open PySem PySem.Spec PyProof.Rows L2
/-! ### tuples whose object is known: none of them has a dict of its own -/
def TupX (K : PySem.W.Frag) (H : Hp) (a : Addr) (xs : List V) : Prop :=
  (∃ o : Obj, H a = some (.frz o (.tup xs)) ∧ o.dict = none) ∨
    ∃ (o : Obj) (its : Array Value) (n : Nat), K.lookup a = some o ∧ o.cls = .type "tuple" ∧ o.dict = none ∧ o.data = .seq its n ∧ its.size ≤ sizeLine ∧ Vals xs its.toList
theorem TupX.old {K : PySem.W.Frag} {H : Hp} {a : Addr} {xs : List V} (h : TupX K H a xs) : SqT K H a xs := by
  rcases h with ⟨o, e, _⟩ | ⟨o, its, n, h1, h2, _, h3⟩
  · exact .inl (.inr ⟨o, e⟩)
  · exact .inr ⟨o, its, n, h1, h2, h3⟩
def tupO (its : List Value) : Obj := { cls := .type "tuple", data := .seq its.toArray }
def NewT (H : Hp) (Q : VK) (xs : List V) : Prop := ∀ (p : Addr) (o : Obj), H p = none → o.dict = none → Q (.ref p) (upd H p (.frz o (.tup xs)))
section
variable {X : Cx} {pins : List (Addr × Obj)} {σ : L2.St} {H : Hp} {s : Shared}
theorem Inv.laidT {xs : List V} {its : List Value} (I : L2.Inv X pins σ H s) (r : Vals xs its) (hz : xs.length ≤ sizeLine) :
    L2.Inv X pins σ (upd H s.heap.objs.size (.frz (tupO its) (.tup xs))) { s with heap := s.heap.push (tupO its) } :=
  I.laid (t' := s.toks) (o := .frz (tupO its) (.tup xs)) (fun _ _ e => Heap.get?_push_of_some _ e) (Nat.le_refl _) ⟨Heap.get?_push_size _ rfl, hz, its, r, IsTup.new _ _⟩
theorem Inv.laidE {Q : VK} {xs : List V} {its : List Value} (I : L2.Inv X pins σ H s) (r : Vals xs its) (hz : xs.length ≤ sizeLine) (q : NewT H Q xs) :
    EP X pins σ Q (.ref s.heap.objs.size) { s with heap := s.heap.push (tupO its) } :=
  ⟨.ref s.heap.objs.size, _, Inv.laidT I r hz, rfl, q _ _ (I.hok.fresh (Nat.le_refl _)) rfl⟩
end
/-- (a, b) -/
def tTupX (t : TA) : TE := fun σ H Q => t σ H fun xs H1 => xs.length ≤ sizeLine ∧ NewT H1 Q xs
theorem pe_tupX {X : Cx} {es : List Expr} {t : TA} {pos : Pos} {c} (h : PA X es t) : PE X (.Tuple es c pos) (tTupX t) := by
  constructor
  intro pins s σ H Q I hq
  apply wpAny_Tuple_spliced
  refine thn (h.run pos pins s σ H _ I hq) ?_
  rintro us s1 ⟨xs, H1, J, r, z, q⟩
  exact ⟨r.length ▸ z, Inv.laidE J r z q⟩
/-- tuple(x) -/
def rTupleX (K : PySem.W.Frag) : List V → Hp → VK → Prop := fun vs H Q => ∃ p xs, vs = [.ref p] ∧ ((SqL K H p xs ∧ NewT H Q xs) ∨ (SqT K H p xs ∧ Q (.ref p) H))
theorem cr_tupleX {X : Cx} : CallR X (.type "tuple") (rTupleX X.K) := by
  rintro pins s σ H vs us Q I r ⟨p, xs, rfl, h⟩
  rw [Vals.ref1 r]
  rcases h with ⟨hl, q⟩ | ⟨ht, q⟩
  · obtain ⟨its, rv, il, hz⟩ := I.list hl
    have le : xs.length ≤ sizeLine := by
      have := rv.length
      omega
    refine call_tuple_list il.isList (fun h' keep => ?_) (by rw [List.size_toArray, ← rv.length]; exact le)
    exact Inv.laidE (Q := Q) (I.kept (t' := s.toks) keep) rv le q
  · obtain ⟨its, _, it, _⟩ := I.tuple ht
    exact call_tuple_same it ⟨.ref p, H, I, rfl, q⟩
/-- t + u -/
def rCatX (K : PySem.W.Frag) : R2 := fun x y H Q => ∃ a b xs ys, x = .ref a ∧ y = .ref b ∧ SqT K H a xs ∧ SqT K H b ys ∧ xs.length + ys.length ≤ sizeLine ∧
  (xs = [] → Q (.ref b) H) ∧ (xs ≠ [] → ys = [] → Q (.ref a) H) ∧ (xs ≠ [] → ys ≠ [] → NewT H Q (xs ++ ys))
theorem op_catX {X : Cx} : OpR X (binaryOp .Add) (rCatX X.K) := by
  rintro pins s σ H x y v u Q I rx ry ⟨a, b, xs, ys, rfl, rfl, ha, hb, hz, q0, q1, q2⟩
  cases rx
  cases ry
  obtain ⟨i1, r1, p1, _⟩ := I.tuple ha
  obtain ⟨i2, r2, p2, _⟩ := I.tuple hb
  by_cases hx : xs = []
  · subst hx
    cases r1
    exact cat_tup0 p1 p2 ⟨.ref b, H, I, rfl, q0 rfl⟩
  · refine HT.cat_tup p1 p2 (fun e => hx (r1.nil_iff.mp e)) (fun e => ⟨.ref a, H, I, rfl, q1 hx (r2.nil_iff.mp e)⟩) (fun e => ?_) (by rw [← r1.length, ← r2.length]; exact hz)
    exact Inv.laidE (Q := Q) I (r1.append r2) (by rw [List.length_append]; exact hz) (q2 hx fun w => e (r2.nil_iff.mpr w))
/-- t[lo:hi] -/
def rSlX (K : PySem.W.Frag) : V → Option Int → Option Int → Hp → VK → Prop := fun x lo hi H Q => ∃ a xs, x = .ref a ∧ SqT K H a xs ∧
  (HT.sIx xs.length 0 lo = 0 ∧ HT.sIx xs.length xs.length hi = xs.length → Q (.ref a) H) ∧ (¬ (HT.sIx xs.length 0 lo = 0 ∧ HT.sIx xs.length xs.length hi = xs.length) → NewT H Q (cutV xs lo hi))
theorem sl_tupX {X : Cx} : SlR X (rSlX X.K) := by
  rintro pins s σ H x v vl vu lo hi sl Q I rx hs pl pu ⟨a, xs, rfl, hx, q1, q2⟩
  cases rx
  obtain ⟨its, r, ht, hz⟩ := I.tuple hx
  have len : its.toArray.size = xs.length := by rw [List.size_toArray]; exact r.length.symm
  refine ⟨"tuple", _, PyProof.Rows.slot_tuple_getitem.lookup, ht.typeIs, ?_⟩
  by_cases hw : HT.sIx xs.length 0 lo = 0 ∧ HT.sIx xs.length xs.length hi = xs.length
  · exact getItem_tuple_whole ht hs pl pu (by rw [len]; exact hw) ⟨.ref a, H, I, rfl, q1 hw⟩
  · refine HT.getItem_tuple_cut ht hs pl pu (by rw [len]; exact hw) ?_ (by rw [len]; exact hz)
    rw [len]
    exact Inv.laidE (Q := Q) I ((r.drop (HT.sIx xs.length 0 lo)).take (HT.sIx xs.length xs.length hi - HT.sIx xs.length 0 lo)) (Nat.le_trans (cutV_length xs lo hi) hz) (q2 hw)
/-- t.index(x) and the like -/
def tBMX (K : PySem.W.Frag) (r : V → List V → Hp → VK → Prop) (to : TE) (t : TA) : TE := fun σ H Q => to σ H fun x H1 => (∃ p xs, x = .ref p ∧ TupX K H1 p xs) ∧ t σ H1 fun vs H2 => r x vs H2 Q
theorem TupX.is {X : Cx} {pins : List (Addr × Obj)} {σ : L2.St} {H : Hp} {s : Shared} {p : Addr} {xs : List V} (I : L2.Inv X pins σ H s) (h : TupX X.K H p xs) : s.TypeIs (.ref p) "tuple" ∧ ∃ ob, s.heap.get? p = some ob ∧ ob.dict = none := by
  obtain ⟨its, _, it, _⟩ := I.tuple h.old
  refine ⟨it.typeIs, ?_⟩
  rcases h with ⟨o, e, d⟩ | ⟨o, its, n, h1, _, d, _⟩
  · exact ⟨o, (I.hok p _ e).1, d⟩
  · exact ⟨o, I.kIn p o h1, d⟩
theorem pe_bmX {X : Cx} {id : String} {name : Str} {r : V → List V → Hp → VK → Prop} {o e : Expr} {es : List Expr} {to : TE} {t : TA} {apos cpos : Pos} (pa : PlainAttrs "tuple") (slot : Slot "tuple" name id) (hty : typeOf (.builtin id) = pure (.type "method_descriptor")) (hm : MtR X id r) (ho : PE X o to) (ha : PA X (e :: es) t)
    (h1 : attributeBase o name X.env (eval o X.env) = eval o X.env := by rfl)
    (h2 : ((backTo cpos (starEach (e :: es) X.env)).all (fun x => !x.1) && (backToKw cpos (keywordEach [] X.env)).all (fun x => x.1.isSome)
      && decide ((e :: es).length + ([] : List Keyword).length + (if ([] : List Keyword).isEmpty then 0 else 1) < 30)) = true := by rfl)
    (h3 : (apos.endLine == cpos.line) = true := by rfl) (h4 : starEach (e :: es) X.env = (false, eval e X.env) :: starEach es X.env := by rfl) (h5 : (backTo cpos (starEach es X.env)).any (·.1) = false := by rfl) :
    PE X (.Call (.Attribute o name apos) (e :: es) [] cpos) (tBMX X.K r to t) := by
  constructor
  intro pins s σ H Q I h
  refine wpAny_Call_method_late h1 h2 h3 rfl (thn (ho.run pins s σ H _ I h) ?_)
  rintro v s1 ⟨x, H1, J, rx, ⟨p, xs, rfl, tx⟩, q1⟩
  cases rx
  obtain ⟨ty, ob, g, d⟩ := TupX.is J tx
  refine ⟨"tuple", id, pa, slot, hty, ty, fun a z => by cases z; exact ⟨ob, g, d⟩, ?_⟩
  have A := ha.run cpos pins s1 σ H1 _ J q1
  rw [h4] at A ⊢
  refine Calls.callWith_builtin (by show (false || (backTo cpos (starEach es X.env)).any (·.1)) = false; rw [h5]; rfl) (Calls.evalArgs_plain (thn A ?_))
  rintro us s2 ⟨vs, H2, J2, r2, q2⟩
  exact hm pins s2 σ H2 (.ref p) vs (.ref p) us Q J2 rfl r2 q2
abbrev D := PyData
mutual
/-- data; its tuples have no dict of their own -/
inductive Dx (K : PySem.W.Frag) (H : Hp) : V → D → Prop
  | non : Dx K H .non .none
  | bl (b : Bool) : Dx K H (.bl b) (.bool b)
  | int (i : Int) : Dx K H (.int i) (.int i)
  | str (x : Str) : Dx K H (.str x) (.str x)
  | lst {a : Addr} {xs : List V} {ds : List D} : SqL K H a xs → DxAll K H xs ds → Dx K H (.ref a) (.list ds)
  | tup {a : Addr} {xs : List V} {ds : List D} : TupX K H a xs → DxAll K H xs ds → Dx K H (.ref a) (.tuple ds)
inductive DxAll (K : PySem.W.Frag) (H : Hp) : List V → List D → Prop
  | nil : DxAll K H [] []
  | cons {v : V} {vs : List V} {d : D} {ds : List D} : Dx K H v d → DxAll K H vs ds → DxAll K H (v :: vs) (d :: ds)
end
mutual
theorem Dx.old {K : PySem.W.Frag} {H : Hp} : ∀ {v : V} {d : D}, Dx K H v d → L2.Dp K H v d
  | _, _, .non => .non
  | _, _, .bl b => .bl b
  | _, _, .int i => .int i
  | _, _, .str x => .str x
  | _, _, .lst h a => .lst h a.old
  | _, _, .tup h a => .tup h.old a.old
theorem DxAll.old {K : PySem.W.Frag} {H : Hp} : ∀ {vs : List V} {ds : List D}, DxAll K H vs ds → L2.DpAll K H vs ds
  | _, _, .nil => .nil
  | _, _, .cons h t => .cons h.old t.old
end
end DL

/-! data, environments: what a def's body does told over plain data -/
namespace DL
open PySem PySem.Spec PyProof.Rows L2

variable {K : PySem.W.Frag}

/-! ### frozen data -/
theorem rdUp {F F' : Hp} {a : Addr} {u : HO} (e : Same F F') (h : Rd F a u) : Rd F' a u := by
  rcases h with h | ⟨o, h⟩
  · exact .inl (e _ _ h)
  · exact .inr ⟨o, e _ _ h⟩
theorem slUp {F F' : Hp} {a : Addr} {xs : List V} (e : Same F F') (h : SqL K F a xs) : SqL K F' a xs := h.elim (fun h => .inl (rdUp e h)) .inr
theorem stUp {F F' : Hp} {a : Addr} {xs : List V} (e : Same F F') (h : SqT K F a xs) : SqT K F' a xs := h.elim (fun h => .inl (rdUp e h)) .inr
theorem txUp {F F' : Hp} {a : Addr} {xs : List V} (e : Same F F') (h : TupX K F a xs) : TupX K F' a xs := h.elim (fun ⟨o, h, d⟩ => .inl ⟨o, e _ _ h, d⟩) .inr
mutual
theorem dpUp {F F' : Hp} (e : Same F F') : ∀ {v : V} {d : D}, Dx K F v d → Dx K F' v d
  | _, _, .non => .non
  | _, _, .bl b => .bl b
  | _, _, .int i => .int i
  | _, _, .str x => .str x
  | _, _, .lst h a => .lst (slUp e h) (dpAllUp e a)
  | _, _, .tup h a => .tup (txUp e h) (dpAllUp e a)
theorem dpAllUp {F F' : Hp} (e : Same F F') : ∀ {vs : List V} {ds : List D}, DxAll K F vs ds → DxAll K F' vs ds
  | _, _, .nil => .nil
  | _, _, .cons h t => .cons (dpUp e h) (dpAllUp e t)
end
theorem dpAllLen {F : Hp} : ∀ {vs : List V} {ds : List D}, DxAll K F vs ds → vs.length = ds.length
  | _, _, .nil => rfl
  | _, _, .cons _ t => by simp [dpAllLen t]
theorem dpAllGet {F : Hp} : ∀ {vs : List V} {ds : List D} {i : Nat} {d : D}, DxAll K F vs ds → ds[i]? = some d → ∃ v, vs[i]? = some v ∧ Dx K F v d
  | _, _, _, _, .nil, e => by simp at e
  | _, _, 0, _, .cons h _, e => by simp at e; subst e; exact ⟨_, rfl, h⟩
  | _, _, i + 1, _, .cons _ t, e => by
    obtain ⟨v, h1, h2⟩ := dpAllGet (i := i) t (by simpa using e)
    exact ⟨v, by simpa using h1, h2⟩
theorem dpAllGetV {F : Hp} : ∀ {vs : List V} {ds : List D} {i : Nat} {v : V}, DxAll K F vs ds → vs[i]? = some v → ∃ d, ds[i]? = some d ∧ Dx K F v d
  | _, _, _, _, .nil, e => by simp at e
  | _, _, 0, _, .cons h _, e => by simp at e; subst e; exact ⟨_, rfl, h⟩
  | _, _, i + 1, _, .cons _ t, e => by
    obtain ⟨v, h1, h2⟩ := dpAllGetV (i := i) t (by simpa using e)
    exact ⟨v, by simpa using h1, h2⟩
theorem dpAllApp {F : Hp} : ∀ {vs ws : List V} {ds es : List D}, DxAll K F vs ds → DxAll K F ws es → DxAll K F (vs ++ ws) (ds ++ es)
  | _, _, _, _, .nil, h => h
  | _, _, _, _, .cons a t, h => .cons a (dpAllApp t h)
theorem dpAllTake {F : Hp} : ∀ {vs : List V} {ds : List D} (n : Nat), DxAll K F vs ds → DxAll K F (vs.take n) (ds.take n)
  | _, _, 0, _ => .nil
  | _, _, _ + 1, .nil => .nil
  | _, _, n + 1, .cons a t => .cons a (dpAllTake n t)
theorem dpAllDrop {F : Hp} : ∀ {vs : List V} {ds : List D} (n : Nat), DxAll K F vs ds → DxAll K F (vs.drop n) (ds.drop n)
  | _, _, 0, h => h
  | _, _, _ + 1, .nil => .nil
  | _, _, n + 1, .cons _ t => dpAllDrop n t
theorem dpAllSet {F : Hp} {v : V} {d : D} (hv : Dx K F v d) : ∀ {vs : List V} {ds : List D} (i : Nat), DxAll K F vs ds → DxAll K F (vs.set i v) (ds.set i d)
  | _, _, _, .nil => .nil
  | _, _, 0, .cons _ t => .cons hv t
  | _, _, i + 1, .cons a t => .cons a (dpAllSet hv i t)
theorem dpAllErase {F : Hp} : ∀ {vs : List V} {ds : List D} (i : Nat), DxAll K F vs ds → DxAll K F (vs.eraseIdx i) (ds.eraseIdx i)
  | _, _, _, .nil => .nil
  | _, _, 0, .cons _ t => t
  | _, _, i + 1, .cons a t => .cons a (dpAllErase i t)

/-! ### environments -/
inductive Ow where
  | lst (ds : List D)
  | lls (dss : List (List D))
  | dK (kvs : List (Key × D))
inductive Ent where
  | no
  | dat (d : D)
  | own (w : Ow)
abbrev Rho := List Ent

def KD (K : PySem.W.Frag) (F : Hp) : List (Key × V) → List (Key × D) → Prop := Paired fun p q => p.1 = q.1 ∧ Dx K F p.2 q.2
def OwRep (K : PySem.W.Frag) (F H : Hp) (a : Addr) (fp : List Addr) : Ow → Prop
  | .lst ds => fp = [a] ∧ ∃ vs, H a = some (.lst vs) ∧ DxAll K F vs ds
  | .lls dss => ∃ bs : List Addr, fp = a :: bs ∧ fp.Nodup ∧ H a = some (.lst (bs.map V.ref)) ∧ Paired (fun b ds => ∃ vs, H b = some (.lst vs) ∧ DxAll K F vs ds) bs dss
  | .dK kvs => fp = [a] ∧ ∃ xs, H a = some (.dK xs) ∧ KD K F xs kvs
theorem pairedMap {α β : Type} {R S : α → β → Prop} : ∀ {xs : List α} {ys : List β}, Paired R xs ys → (∀ x y, x ∈ xs → R x y → S x y) → Paired S xs ys
  | _, _, .nil, _ => .nil
  | _, _, .cons r t, f => .cons (f _ _ (List.mem_cons_self) r) (pairedMap t fun x y m => f x y (List.mem_cons_of_mem _ m))
theorem OwRep.up {F F' H H' : Hp} {a : Addr} {fp : List Addr} {w : Ow} (h : OwRep K F H a fp w) (e : Same F F') (k : ∀ b ∈ fp, H' b = H b) : OwRep K F' H' a fp w := by
  cases w with
  | lst ds =>
    obtain ⟨rfl, vs, h1, h2⟩ := h
    exact ⟨rfl, vs, (k a (by simp)).trans h1, dpAllUp e h2⟩
  | lls dss =>
    obtain ⟨bs, rfl, nd, h1, h2⟩ := h
    refine ⟨bs, rfl, nd, (k a (by simp)).trans h1, pairedMap h2 fun b ds m ⟨vs, q1, q2⟩ => ⟨vs, (k b (by simp [m])).trans q1, dpAllUp e q2⟩⟩
  | dK kvs =>
    obtain ⟨rfl, xs, h1, h2⟩ := h
    exact ⟨rfl, xs, (k a (by simp)).trans h1, pairedMap h2 fun p q _ r => ⟨r.1, dpUp e r.2⟩⟩

structure Cc where
  K : PySem.W.Frag
  P : List (Nat × Addr)
  W : Addr → Prop
  F0 : Hp
  B : Hp
structure SimF (c : Cc) (F H : Hp) (σ : L2.St) (ρ : Rho) (fp : Nat → List Addr) : Prop where
  f0 : Same c.F0 F
  fh : Same F H
  keep : ∀ a o, c.B a = some o → ¬ c.W a → H a = some o
  dom : ∀ a, c.B a ≠ none → H a ≠ none
  av : ∀ a, c.B a ≠ none → c.F0 a = none → F a = none
  par : ∀ (i : Nat) (a : Addr), (i, a) ∈ c.P → σ[i]? = some (some (.ref a))
  dat : ∀ (i : Nat) (d : D), ρ[i]? = some (.dat d) → ∃ v, σ[i]? = some (some v) ∧ Dx c.K F v d
  own : ∀ (i : Nat) (w : Ow), ρ[i]? = some (.own w) → ∃ a, σ[i]? = some (some (.ref a)) ∧ OwRep c.K F H a (fp i) w
  ownF : ∀ (i : Nat) (w : Ow) (b : Addr), ρ[i]? = some (.own w) → b ∈ fp i → F b = none ∧ H b ≠ none ∧ (c.B b = none ∨ c.W b)
  sep : ∀ (i j : Nat) (w w' : Ow) (b : Addr), ρ[i]? = some (.own w) → ρ[j]? = some (.own w') → b ∈ fp i → b ∈ fp j → i = j
  len : σ.length = ρ.length
  wp : ∀ (i : Nat) (w : Ow) (b : Addr), ρ[i]? = some (.own w) → b ∈ fp i → ∀ j, (j, b) ∈ c.P → j = i
  pb : ∀ j b, (j, b) ∈ c.P → c.B b ≠ none
def Sim (c : Cc) (F H : Hp) (σ : L2.St) (ρ : Rho) : Prop := ∃ fp, SimF c F H σ ρ fp

section
variable {c : Cc} {F F' H H' : Hp} {σ σ' : L2.St} {ρ ρ' : Rho} {fp : Nat → List Addr} {p : Addr} {o : HO}
theorem Sim.fh (h : Sim c F H σ ρ) : Same F H := let ⟨_, s⟩ := h; s.fh
theorem Sim.f0 (h : Sim c F H σ ρ) : Same c.F0 F := let ⟨_, s⟩ := h; s.f0
theorem Sim.len (h : Sim c F H σ ρ) : σ.length = ρ.length := let ⟨_, s⟩ := h; s.len
theorem Sim.dat (h : Sim c F H σ ρ) {i : Nat} {d : D} (e : ρ[i]? = some (.dat d)) : ∃ v, σ[i]? = some (some v) ∧ Dx c.K F v d := let ⟨_, s⟩ := h; s.dat i d e
theorem sameNew (h : H p = none) : Same H (upd H p o) := fun a u e => by
  rw [upd_ne (ne_of_none e h)]
  exact e
theorem sameUpd (e : Same F H) (h : F p = none) : Same F (upd H p o) := fun a u q => by
  rw [upd_ne (ne_of_none q h)]
  exact e a u q
theorem sameUpd2 (e : Same F H) (h : H p = some o) : Same (upd F p o) H := fun a u q => by
  by_cases z : a = p
  · subst z
    rw [upd_same] at q
    rw [h]
    exact q
  · rw [upd_ne z] at q
    exact e a u q
theorem freeF (e : Same F H) (h : H p = none) : F p = none := Same.free e h
/-- a new object that nobody knows -/
theorem Sim.heap (h : Sim c F H σ ρ) (hp : H p = none) : Sim c F (upd H p o) σ ρ := by
  obtain ⟨fp, s⟩ := h
  have np : ∀ a, H a ≠ none → a ≠ p := fun a ha z => ha (z ▸ hp)
  refine ⟨fp, s.f0, s.fh.trans (sameNew hp), fun a u q w => ?_, fun a q => ?_, s.av, s.par, s.dat, fun i w q => ?_, fun i w b q m => ?_, s.sep, s.len, s.wp, s.pb⟩
  · have := s.keep a u q w
    rw [upd_ne (np a (by simp [this]))]
    exact this
  · rw [upd_ne (np a (s.dom a q))]
    exact s.dom a q
  · obtain ⟨a, e1, e2⟩ := s.own i w q
    exact ⟨a, e1, e2.up (Same.refl _) fun b m => upd_ne (np b (s.ownF i w b q m).2.1)⟩
  · obtain ⟨e1, e2, e3⟩ := s.ownF i w b q m
    exact ⟨e1, by rw [upd_ne (np b e2)]; exact e2, e3⟩
/-- an object that is nobody's own becomes frozen -/
theorem SimF.freeze (s : SimF c F H σ ρ fp) (hp : H p = some o) (hB : c.B p = none) (no : ∀ (i : Nat) (w : Ow), ρ[i]? = some (.own w) → p ∉ fp i) (hf : F p = none) : SimF c (upd F p o) H σ ρ fp := by
  have e1 : Same F (upd F p o) := sameNew hf
  refine ⟨s.f0.trans e1, sameUpd2 s.fh hp, s.keep, s.dom, fun a q q2 => ?_, s.par, fun i d q => ?_, fun i w q => ?_, fun i w b q m => ?_, s.sep, s.len, s.wp, s.pb⟩
  · have : a ≠ p := fun z => by rw [z] at q; exact q hB
    rw [upd_ne this]
    exact s.av a q q2
  · obtain ⟨v, h1, h2⟩ := s.dat i d q
    exact ⟨v, h1, dpUp e1 h2⟩
  · obtain ⟨a, h1, h2⟩ := s.own i w q
    exact ⟨a, h1, h2.up e1 fun _ _ => rfl⟩
  · obtain ⟨h1, h2, h3⟩ := s.ownF i w b q m
    have : b ≠ p := fun z => no i w q (z ▸ m)
    exact ⟨by rw [upd_ne this]; exact h1, h2, h3⟩
/-- a new frozen object -/
theorem Sim.grow (h : Sim c F H σ ρ) (hp : H p = none) : Sim c (upd F p o) (upd H p o) σ ρ := by
  obtain ⟨fp, s⟩ := h
  obtain ⟨fp', s'⟩ := Sim.heap (o := o) ⟨fp, s⟩ hp
  -- the footprints are the old ones
  have np : ∀ a, H a ≠ none → a ≠ p := fun a ha z => ha (z ▸ hp)
  have s2 : SimF c F (upd H p o) σ ρ fp := by
    refine ⟨s.f0, s.fh.trans (sameNew hp), s'.keep, s'.dom, s.av, s.par, s.dat, fun i w q => ?_, fun i w b q m => ?_, s.sep, s.len, s.wp, s.pb⟩
    · obtain ⟨a, e1, e2⟩ := s.own i w q
      exact ⟨a, e1, e2.up (Same.refl _) fun b m => upd_ne (np b (s.ownF i w b q m).2.1)⟩
    · obtain ⟨e1, e2, e3⟩ := s.ownF i w b q m
      exact ⟨e1, by rw [upd_ne (np b e2)]; exact e2, e3⟩
  refine ⟨fp, s2.freeze upd_same ?_ (fun i w q m => (s.ownF i w p q m).2.1 hp) (freeF s.fh hp)⟩
  cases q : c.B p with
  | none => rfl
  | some u => exact absurd hp (s.dom p (by simp [q]))
/-- a slot gets data -/
theorem Sim.setDat (h : Sim c F H σ ρ) {i : Nat} {v : V} {d : D} (hv : Dx c.K F v d) (hi : i < ρ.length) (hP : ∀ a, (i, a) ∉ c.P) : Sim c F H (σ.set i (some v)) (ρ.set i (.dat d)) := by
  obtain ⟨fp, s⟩ := h
  have hi' : i < σ.length := by rw [s.len]; exact hi
  have own' : ∀ (j : Nat) (w : Ow), (ρ.set i (.dat d))[j]? = some (.own w) → j ≠ i ∧ ρ[j]? = some (.own w) := fun j w q => by
    by_cases z : j = i
    · subst z
      rw [List.getElem?_set_self hi] at q
      cases q
    · rw [List.getElem?_set_ne (Ne.symm z)] at q
      exact ⟨z, q⟩
  refine ⟨fp, s.f0, s.fh, s.keep, s.dom, s.av, fun j a m => ?_, fun j e q => ?_, fun j w q => ?_, fun j w b q m => s.ownF j w b (own' j w q).2 m, fun j k w w' b q q' => s.sep j k w w' b (own' j w q).2 (own' k w' q').2, by simpa using s.len, fun j w b q m => s.wp j w b (own' j w q).2 m, s.pb⟩
  · have z : j ≠ i := fun z => hP a (z ▸ m)
    rw [List.getElem?_set_ne (Ne.symm z)]
    exact s.par j a m
  · by_cases z : j = i
    · subst z
      rw [List.getElem?_set_self hi] at q
      cases q
      exact ⟨v, List.getElem?_set_self hi', hv⟩
    · rw [List.getElem?_set_ne (Ne.symm z)] at q ⊢
      exact s.dat j e q
  · obtain ⟨z, q'⟩ := own' j w q
    rw [List.getElem?_set_ne (Ne.symm z)]
    exact s.own j w q'
/-- forget entries -/
theorem Sim.weak (h : Sim c F H σ ρ) (hl : ρ'.length = ρ.length) (hw : ∀ i : Nat, ρ'[i]? = ρ[i]? ∨ ∀ e : Ent, ρ'[i]? = some e → e = .no) : Sim c F H σ ρ' := by
  obtain ⟨fp, s⟩ := h
  have o' : ∀ (j : Nat) (w : Ow), ρ'[j]? = some (.own w) → ρ[j]? = some (.own w) := fun j w q => (hw j).elim (fun z => z ▸ q) fun z => by cases z _ q
  have d' : ∀ (j : Nat) (d : D), ρ'[j]? = some (.dat d) → ρ[j]? = some (.dat d) := fun j d q => (hw j).elim (fun z => z ▸ q) fun z => by cases z _ q
  exact ⟨fp, s.f0, s.fh, s.keep, s.dom, s.av, s.par, fun i d q => s.dat i d (d' i d q), fun i w q => s.own i w (o' i w q), fun i w b q => s.ownF i w b (o' i w q), fun i j w w' b q q' => s.sep i j w w' b (o' i w q) (o' j w' q'), by rw [hl]; exact s.len, fun i w b q => s.wp i w b (o' i w q), s.pb⟩
end

/-! ### judgements -/
structure Gm where
  K : PySem.W.Frag
  ps : List Nat
  xe : XK
/-- no exception leaves -/
abbrev gm (K : PySem.W.Frag) (ps : List Nat) : Gm := ⟨K, ps, E0⟩
def Cc.ok (c : Cc) (g : Gm) : Prop := c.K = g.K ∧ c.P.map (·.1) = g.ps
variable {g : Gm}
/-- an operand: frozen data, or a list of one's own -/
inductive Arg where
  | d (x : D)
  | o (i : Nat)
def Arg.den (ρ : Rho) : Arg → Option D
  | .d x => some x
  | .o i => match ρ[i]? with
    | some (.own (.lst ds)) => some (.list ds)
    | _ => none
inductive ArgAt (K : PySem.W.Frag) (F : Hp) (σ : L2.St) (v : V) : Arg → Prop
  | d {x : D} : Dx K F v x → ArgAt K F σ v (.d x)
  | o {i : Nat} : σ[i]? = some (some v) → ArgAt K F σ v (.o i)
/-- an operand as the operations see it -/
def Opd (K : PySem.W.Frag) (F H : Hp) (v : V) (d : D) : Prop := Dx K F v d ∨ ∃ a vs ds, v = .ref a ∧ d = .list ds ∧ SqL K H a vs ∧ DxAll K F vs ds
inductive OpdAll (K : PySem.W.Frag) (F H : Hp) : List V → List D → Prop
  | nil : OpdAll K F H [] []
  | cons {v : V} {vs : List V} {d : D} {ds : List D} : Opd K F H v d → OpdAll K F H vs ds → OpdAll K F H (v :: vs) (d :: ds)
theorem Opd.dp {F H : Hp} {v : V} {d : D} (e : Same F H) (h : Opd K F H v d) : Dx K H v d := by
  rcases h with h | ⟨a, vs, ds, rfl, rfl, h1, h2⟩
  · exact dpUp e h
  · exact .lst h1 (dpAllUp e h2)
theorem Opd.list {F H : Hp} {v : V} {ds : List D} (e : Same F H) (h : Opd K F H v (.list ds)) : ∃ a vs, v = .ref a ∧ SqL K H a vs ∧ DxAll K F vs ds := by
  rcases h with h | ⟨a, vs, ds', rfl, q, h1, h2⟩
  · cases h with
    | lst h1 h2 => exact ⟨_, _, rfl, slUp e h1, h2⟩
  · cases q
    exact ⟨a, vs, rfl, h1, h2⟩
theorem Opd.tupX {F H : Hp} {v : V} {ds : List D} (e : Same F H) (h : Opd K F H v (.tuple ds)) : ∃ a vs, v = .ref a ∧ TupX K H a vs ∧ DxAll K F vs ds := by
  rcases h with h | ⟨a, vs, ds', rfl, q, h1, h2⟩
  · cases h with
    | tup h1 h2 => exact ⟨_, _, rfl, txUp e h1, h2⟩
  · cases q
theorem Opd.tup {F H : Hp} {v : V} {ds : List D} (e : Same F H) (h : Opd K F H v (.tuple ds)) : ∃ a vs, v = .ref a ∧ SqT K H a vs ∧ DxAll K F vs ds := by
  obtain ⟨a, vs, h1, h2, h3⟩ := Opd.tupX e h
  exact ⟨a, vs, h1, h2.old, h3⟩
theorem Opd.int {F H : Hp} {v : V} {i : Int} (h : Opd K F H v (.int i)) : v = .int i := by
  rcases h with h | ⟨a, vs, ds', rfl, q, h1, h2⟩
  · cases h; rfl
  · cases q
theorem Opd.bl {F H : Hp} {v : V} {i : Bool} (h : Opd K F H v (.bool i)) : v = .bl i := by
  rcases h with h | ⟨a, vs, ds', rfl, q, h1, h2⟩
  · cases h; rfl
  · cases q
theorem Opd.str {F H : Hp} {v : V} {i : Str} (h : Opd K F H v (.str i)) : v = .str i := by
  rcases h with h | ⟨a, vs, ds', rfl, q, h1, h2⟩
  · cases h; rfl
  · cases q
theorem Opd.non {F H : Hp} {v : V} (h : Opd K F H v .none) : v = .non := by
  rcases h with h | ⟨a, vs, ds', rfl, q, h1, h2⟩
  · cases h; rfl
  · cases q
theorem Arg.opd {c : Cc} {F H : Hp} {σ : L2.St} {ρ : Rho} {v : V} {d : D} {A : Arg} (h : Sim c F H σ ρ) (ha : ArgAt c.K F σ v A) (hd : A.den ρ = some d) : Opd c.K F H v d := by
  cases A with
  | d x =>
    have e : x = d := Option.some.inj hd
    subst e
    cases ha with
    | d ha => exact .inl ha
  | o i =>
    replace ha : σ[i]? = some (some v) := by
      cases ha with
      | o ha => exact ha
    obtain ⟨fp, s⟩ := h
    simp only [Arg.den] at hd
    split at hd
    · rename_i ds q
      cases hd
      obtain ⟨a, e1, _, vs, e2, e3⟩ := s.own i _ q
      have e : v = .ref a := by
        have : some (some v) = some (some (V.ref a)) := ha.symm.trans e1
        simpa using this
      exact .inr ⟨a, vs, ds, e, rfl, .inl (.inl e2), e3⟩
    · cases hd
theorem ArgAt.up {K : PySem.W.Frag} {F F' : Hp} {σ : L2.St} {v : V} {A : Arg} (ha : ArgAt K F σ v A) (e : Same F F') : ArgAt K F' σ v A := by
  cases ha with
  | d h => exact .d (dpUp e h)
  | o h => exact .o h

def EvD (g : Gm) (te : TE) (ρ : Rho) (d : D) (ρ' : Rho) : Prop := ∀ (c : Cc) (F H : Hp) (σ : L2.St), c.ok g → Sim c F H σ ρ → ∀ Q : VK, (∀ v F' H', Sim c F' H' σ ρ' → Same F F' → Dx c.K F' v d → Q v H') → te σ H Q
def EvO (g : Gm) (te : TE) (ρ : Rho) (A : Arg) (ρ' : Rho) : Prop := ∀ (c : Cc) (F H : Hp) (σ : L2.St), c.ok g → Sim c F H σ ρ → ∀ Q : VK, (∀ v F' H', Sim c F' H' σ ρ' → Same F F' → ArgAt c.K F' σ v A → Q v H') → te σ H Q
/-- a new list -/
def EvN (g : Gm) (te : TE) (ρ : Rho) (ds : List D) (ρ' : Rho) : Prop := ∀ (c : Cc) (F H : Hp) (σ : L2.St), c.ok g → Sim c F H σ ρ → ∀ Q : VK,
  (∀ p vs F' H', Sim c F' H' σ ρ' → Same F F' → H' p = none → DxAll c.K F' vs ds → Q (.ref p) (upd H' p (.lst vs))) → te σ H Q
def EvT (g : Gm) (tt : TT) (ρ : Rho) (b : Bool) (ρ' : Rho) : Prop := ∀ (c : Cc) (F H : Hp) (σ : L2.St), c.ok g → Sim c F H σ ρ → ∀ Q : Bool → Hp → Prop, (∀ F' H', Sim c F' H' σ ρ' → Same F F' → Q b H') → tt σ H Q
inductive ArgsAt (K : PySem.W.Frag) (F : Hp) (σ : L2.St) : List V → List Arg → Prop
  | nil : ArgsAt K F σ [] []
  | cons {v : V} {vs : List V} {A : Arg} {As : List Arg} : ArgAt K F σ v A → ArgsAt K F σ vs As → ArgsAt K F σ (v :: vs) (A :: As)
def EvA (g : Gm) (ta : TA) (ρ : Rho) (As : List Arg) (ρ' : Rho) : Prop := ∀ (c : Cc) (F H : Hp) (σ : L2.St), c.ok g → Sim c F H σ ρ → ∀ Q : List V → Hp → Prop, (∀ vs F' H', Sim c F' H' σ ρ' → Same F F' → ArgsAt c.K F' σ vs As → Q vs H') → ta σ H Q
def dens (ρ : Rho) : List Arg → Option (List D)
  | [] => some []
  | A :: As => match A.den ρ, dens ρ As with
    | some d, some ds => some (d :: ds)
    | _, _ => none
theorem ArgsAt.opds {c : Cc} {F H : Hp} {σ : L2.St} {ρ : Rho} (h : Sim c F H σ ρ) : ∀ {vs : List V} {As : List Arg} {ds : List D}, ArgsAt c.K F σ vs As → dens ρ As = some ds → OpdAll c.K F H vs ds
  | _, _, _, .nil, e => by cases e; exact .nil
  | _, _, _, .cons a t, e => by
    unfold dens at e
    split at e
    · rename_i d ds e1 e2
      cases e
      exact .cons (Arg.opd h a e1) (ArgsAt.opds h t e2)
    · cases e
theorem ArgsAt.up {c : Cc} {F F' : Hp} {σ : L2.St} (e : Same F F') : ∀ {vs : List V} {As : List Arg}, ArgsAt c.K F σ vs As → ArgsAt c.K F' σ vs As
  | _, _, .nil => .nil
  | _, _, .cons a t => .cons (a.up e) (ArgsAt.up e t)

/-- what an operation's value may be: it stood already, or a new tuple -/
inductive Res (K : PySem.W.Frag) (F H : Hp) : V → D → Hp → Hp → Prop
  | at {v : V} {d : D} : Dx K F v d → Res K F H v d F H
  | new {p : Addr} {o : Obj} {vs : List V} {ds : List D} : H p = none → o.dict = none → DxAll K F vs ds → Res K F H (.ref p) (.tuple ds) (upd F p (.frz o (.tup vs))) (upd H p (.frz o (.tup vs)))
theorem Res.sim {c : Cc} {F H F' H' : Hp} {σ : L2.St} {ρ : Rho} {v : V} {d : D} (h : Sim c F H σ ρ) (r : Res c.K F H v d F' H') : Sim c F' H' σ ρ ∧ Same F F' ∧ Dx c.K F' v d := by
  cases r with
  | «at» q => exact ⟨h, Same.refl _, q⟩
  | new hp ho ha =>
    rename_i p o vs ds
    have e : Same F (upd F p (.frz o (.tup vs))) := sameNew (freeF h.fh hp)
    exact ⟨h.grow hp, e, .tup (.inl ⟨o, upd_same, ho⟩) (dpAllUp e ha)⟩
def R2D (K : PySem.W.Frag) (r : R2) (d e z : D) : Prop := ∀ F H x y (Q : VK), Same F H → Opd K F H x d → Opd K F H y e → (∀ v F' H', Res K F H v z F' H' → Q v H') → r x y H Q
def R1D (K : PySem.W.Frag) (r : V → Hp → VK → Prop) (d z : D) : Prop := ∀ F H x (Q : VK), Same F H → Opd K F H x d → (∀ v F' H', Res K F H v z F' H' → Q v H') → r x H Q
def RCD (K : PySem.W.Frag) (r : List V → Hp → VK → Prop) (ds : List D) (z : D) : Prop := ∀ F H xs (Q : VK), Same F H → OpdAll K F H xs ds → (∀ v F' H', Res K F H v z F' H' → Q v H') → r xs H Q
def RMD (K : PySem.W.Frag) (r : V → List V → Hp → VK → Prop) (d : D) (ds : List D) (z : D) : Prop := ∀ F H x xs (Q : VK), Same F H → Opd K F H x d → OpdAll K F H xs ds → (∀ v F' H', Res K F H v z F' H' → Q v H') → r x xs H Q
/-- .. a new list -/
def R2N (K : PySem.W.Frag) (r : R2) (d e : D) (zs : List D) : Prop := ∀ F H x y (Q : VK), Same F H → Opd K F H x d → Opd K F H y e → (∀ p vs, H p = none → DxAll K F vs zs → Q (.ref p) (upd H p (.lst vs))) → r x y H Q
def RCN (K : PySem.W.Frag) (r : List V → Hp → VK → Prop) (ds : List D) (zs : List D) : Prop := ∀ F H xs (Q : VK), Same F H → OpdAll K F H xs ds → (∀ p vs, H p = none → DxAll K F vs zs → Q (.ref p) (upd H p (.lst vs))) → r xs H Q
def RMN (K : PySem.W.Frag) (r : V → List V → Hp → VK → Prop) (d : D) (ds : List D) (zs : List D) : Prop := ∀ F H x xs (Q : VK), Same F H → Opd K F H x d → OpdAll K F H xs ds → (∀ p vs, H p = none → DxAll K F vs zs → Q (.ref p) (upd H p (.lst vs))) → r x xs H Q

section
variable {ta tb tc te : TE} {ρ ρ1 ρ2 ρ3 : Rho} {A B : Arg} {d e z : D} {r : R2} {t u : TT} {i : Nat}
theorem eo_of (h : EvD g te ρ d ρ1) : EvO g te ρ (.d d) ρ1 := fun c F H σ k s Q q => h c F H σ k s Q fun v F' H' s' e x => q v F' H' s' e (.d x)
theorem eo_own {ds : List D} (h : ρ[i]? = some (.own (.lst ds))) : EvO g (tVar i) ρ (.o i) ρ := fun c F H σ k s Q q => by
  obtain ⟨fp, sf⟩ := id s
  obtain ⟨a, e1, _⟩ := sf.own i _ h
  exact ⟨_, e1, q _ F H s (Same.refl _) (.o e1)⟩
theorem ed_var (h : ρ[i]? = some (.dat d)) : EvD g (tVar i) ρ d ρ := fun c F H σ k s Q q => by
  obtain ⟨v, e1, e2⟩ := s.dat h
  exact ⟨v, e1, q v F H s (Same.refl _) e2⟩
theorem ed_int {i : Int} : EvD g (tC (.int i)) ρ (.int i) ρ := fun c F H σ k s Q q => q _ F H s (Same.refl _) (.int i)
theorem ed_bl {i : Bool} : EvD g (tC (.bl i)) ρ (.bool i) ρ := fun c F H σ k s Q q => q _ F H s (Same.refl _) (.bl i)
theorem ed_str {i : Str} : EvD g (tC (.str i)) ρ (.str i) ρ := fun c F H σ k s Q q => q _ F H s (Same.refl _) (.str i)
theorem ed_non : EvD g (tC .non) ρ .none ρ := fun c F H σ k s Q q => q _ F H s (Same.refl _) .non
/-- a new list becomes data -/
theorem ed_ofN {ds : List D} (h : EvN g te ρ ds ρ1) : EvD g te ρ (.list ds) ρ1 := fun c F H σ k s Q q => h c F H σ k s Q fun p vs F' H' s' e hp ha => by
  have e2 := sameNew (o := .lst vs) (freeF s'.fh hp)
  exact q _ _ _ (s'.grow hp) (e.trans e2) (.lst (.inl (.inl upd_same)) (dpAllUp e2 ha))
theorem ed_op (ha : EvO g ta ρ A ρ1) (hb : EvO g tb ρ1 B ρ2) (hr : R2D g.K r d e z) (dA : A.den ρ2 = some d := by rfl) (dB : B.den ρ2 = some e := by rfl) : EvD g (tOp r ta tb) ρ z ρ2 := fun c F H σ k s Q q => by
  refine ha c F H σ k s _ fun x F1 H1 s1 e1 h1 => hb c F1 H1 σ k s1 _ fun y F2 H2 s2 e2 h2 => ?_
  have kk : c.K = g.K := k.1
  have o1 := Arg.opd s2 (h1.up e2) dA
  have o2 := Arg.opd s2 h2 dB
  rw [kk] at o1 o2
  refine hr F2 H2 x y Q s2.fh o1 o2 fun v F3 H3 rs => ?_
  rw [← kk] at rs
  obtain ⟨s3, e3, q3⟩ := rs.sim s2
  exact q v F3 H3 s3 ((e1.trans e2).trans e3) q3
theorem en_op {zs : List D} (ha : EvO g ta ρ A ρ1) (hb : EvO g tb ρ1 B ρ2) (hr : R2N g.K r d e zs) (dA : A.den ρ2 = some d := by rfl) (dB : B.den ρ2 = some e := by rfl) : EvN g (tOp r ta tb) ρ zs ρ2 := fun c F H σ k s Q q => by
  refine ha c F H σ k s _ fun x F1 H1 s1 e1 h1 => hb c F1 H1 σ k s1 _ fun y F2 H2 s2 e2 h2 => ?_
  have kk : c.K = g.K := k.1
  have o1 := Arg.opd s2 (h1.up e2) dA
  have o2 := Arg.opd s2 h2 dB
  rw [kk] at o1 o2
  refine hr F2 H2 x y Q s2.fh o1 o2 fun p vs hp ha => ?_
  exact q p vs F2 H2 s2 (e1.trans e2) hp (by rw [kk]; exact ha)
theorem ed_un {r : V → Hp → VK → Prop} (ha : EvO g ta ρ A ρ1) (hr : R1D g.K r d z) (dA : A.den ρ1 = some d := by rfl) : EvD g (tUn r ta) ρ z ρ1 := fun c F H σ k s Q q => by
  refine ha c F H σ k s _ fun x F1 H1 s1 e1 h1 => ?_
  have kk : c.K = g.K := k.1
  have o1 := Arg.opd s1 h1 dA
  rw [kk] at o1
  refine hr F1 H1 x Q s1.fh o1 fun v F3 H3 rs => ?_
  rw [← kk] at rs
  obtain ⟨s3, e3, q3⟩ := rs.sim s1
  exact q v F3 H3 s3 (e1.trans e3) q3
theorem ea_nil : EvA g tNil ρ [] ρ := fun c F H σ k s Q q => q [] F H s (Same.refl _) .nil
theorem ea_cons {tr : TA} {As : List Arg} (h : EvO g te ρ A ρ1) (hr : EvA g tr ρ1 As ρ2) : EvA g (tCons te tr) ρ (A :: As) ρ2 := fun c F H σ k s Q q =>
  h c F H σ k s _ fun v F1 H1 s1 e1 h1 => hr c F1 H1 σ k s1 _ fun vs F2 H2 s2 e2 h2 => q _ F2 H2 s2 (e1.trans e2) (.cons (h1.up e2) h2)
theorem ed_cb {r : List V → Hp → VK → Prop} {tr : TA} {As : List Arg} {ds : List D} (ha : EvA g tr ρ As ρ1) (hr : RCD g.K r ds z) (dA : dens ρ1 As = some ds := by rfl) : EvD g (tCB r tr) ρ z ρ1 := fun c F H σ k s Q q => by
  refine ha c F H σ k s _ fun xs F1 H1 s1 e1 h1 => ?_
  have kk : c.K = g.K := k.1
  have o1 := ArgsAt.opds s1 h1 dA
  rw [kk] at o1
  refine hr F1 H1 xs Q s1.fh o1 fun v F3 H3 rs => ?_
  rw [← kk] at rs
  obtain ⟨s3, e3, q3⟩ := rs.sim s1
  exact q v F3 H3 s3 (e1.trans e3) q3
theorem en_cb {r : List V → Hp → VK → Prop} {tr : TA} {As : List Arg} {ds zs : List D} (ha : EvA g tr ρ As ρ1) (hr : RCN g.K r ds zs) (dA : dens ρ1 As = some ds := by rfl) : EvN g (tCB r tr) ρ zs ρ1 := fun c F H σ k s Q q => by
  refine ha c F H σ k s _ fun xs F1 H1 s1 e1 h1 => ?_
  have kk : c.K = g.K := k.1
  have o1 := ArgsAt.opds s1 h1 dA
  rw [kk] at o1
  refine hr F1 H1 xs Q s1.fh o1 fun p vs hp ha => ?_
  exact q p vs F1 H1 s1 e1 hp (by rw [kk]; exact ha)
/-- a method of a built-in type; ty: what the receiver is -/
def TyD (T : String) : D → Prop
  | .list _ => T = "list"
  | .str _ => T = "str"
  | _ => False
theorem tyD_v {F H : Hp} {x : V} {d : D} {T : String} (e : Same F H) (h : Opd K F H x d) (ht : TyD T d) : tyV K T x H := by
  cases d with
  | list ds =>
    obtain ⟨a, vs, rfl, h1, _⟩ := h.list e
    cases (show T = "list" from ht)
    exact .inl ⟨rfl, vs, h1⟩
  | tuple ds =>
    obtain ⟨a, vs, rfl, h1, _⟩ := h.tup e
    exact ht.elim
  | str z =>
    cases h.str
    exact ht
  | none => exact ht.elim
  | bool b => exact ht.elim
  | int b => exact ht.elim
  | dict b => exact ht.elim
end
end DL

namespace DL
open PySem PySem.Spec PyProof.Rows L2
variable {K : PySem.W.Frag} {g : Gm}

/-! ### statements -/
inductive RetV where
  | dat (d : D)
  | new (w : Ow)
inductive Out where
  | nx (ρ : Rho)
  | rt (ρ : Rho) (r : RetV)
  | bk (ρ : Rho)
  | ct (ρ : Rho)
  | ex (C : Addr) (ρ : Rho)
def RetOk (c : Cc) (F H : Hp) (v : V) : RetV → Prop
  | .dat d => Dx c.K F v d
  | .new w => ∃ a fp, v = .ref a ∧ OwRep c.K F H a fp w ∧ ∀ b ∈ fp, F b = none ∧ H b ≠ none ∧ c.B b = none
structure Cc.okS (c : Cc) (g : Gm) : Prop where
  ok : c.ok g
  wp : ∀ a, c.W a → ∃ j, (j, a) ∈ c.P
structure Post (g : Gm) (c : Cc) (E : Ends) (F : Hp) (P : Out → Prop) : Prop where
  nx : ∀ ρ F' H' σ, P (.nx ρ) → Sim c F' H' σ ρ → Same F F' → E.nx σ H'
  rt : ∀ ρ F' H' σ v r, P (.rt ρ r) → Sim c F' H' σ ρ → Same F F' → RetOk c F' H' v r → E.rt v H'
  bk : ∀ ρ F' H' σ, P (.bk ρ) → Sim c F' H' σ ρ → Same F F' → E.bk σ H'
  ct : ∀ ρ F' H' σ, P (.ct ρ) → Sim c F' H' σ ρ → Same F F' → E.ct σ H'
  ex : ∀ ρ F' H' σ C, P (.ex C ρ) → Sim c F' H' σ ρ → Same F F' → g.xe (.ref C) none H'
def Sv (g : Gm) (ts : TS) (ρ : Rho) (P : Out → Prop) : Prop := ∀ (c : Cc) (F H : Hp) (σ : L2.St) (E : Ends), c.okS g → Sim c F H σ ρ → Post g c E F P → ts E σ H
theorem Post.up {c : Cc} {E : Ends} {F F' : Hp} {P : Out → Prop} (p : Post g c E F P) (e : Same F F') : Post g c E F' P :=
  ⟨fun ρ G H σ a b d => p.nx ρ G H σ a b (e.trans d), fun ρ G H σ v r a b d x => p.rt ρ G H σ v r a b (e.trans d) x, fun ρ G H σ a b d => p.bk ρ G H σ a b (e.trans d), fun ρ G H σ a b d => p.ct ρ G H σ a b (e.trans d), fun ρ G H σ C a b d => p.ex ρ G H σ C a b (e.trans d)⟩
theorem Sv.mono {ts : TS} {ρ : Rho} {P P' : Out → Prop} (h : Sv g ts ρ P) (i : ∀ o, P o → P' o) : Sv g ts ρ P' := fun c F H σ E k s p =>
  h c F H σ E k s ⟨fun ρ G H σ a => p.nx ρ G H σ (i _ a), fun ρ G H σ v r a => p.rt ρ G H σ v r (i _ a), fun ρ G H σ a => p.bk ρ G H σ (i _ a), fun ρ G H σ a => p.ct ρ G H σ (i _ a), fun ρ G H σ C a => p.ex ρ G H σ C (i _ a)⟩

/-- weaker environments: entries forgotten -/
inductive Wk : Rho → Rho → Prop
  | nil : Wk [] []
  | eq {e : Ent} {r r' : Rho} : Wk r r' → Wk (e :: r) (e :: r')
  | no {e : Ent} {r r' : Rho} : Wk r r' → Wk (e :: r) (.no :: r')
theorem Wk.refl : ∀ ρ : Rho, Wk ρ ρ
  | [] => .nil
  | _ :: r => .eq (Wk.refl r)
theorem Wk.len : ∀ {ρ ρ' : Rho}, Wk ρ ρ' → ρ'.length = ρ.length
  | _, _, .nil => rfl
  | _, _, .eq h => by simp [h.len]
  | _, _, .no h => by simp [h.len]
theorem Wk.at : ∀ {ρ ρ' : Rho}, Wk ρ ρ' → ∀ i : Nat, ρ'[i]? = ρ[i]? ∨ ∀ e : Ent, ρ'[i]? = some e → e = .no
  | _, _, .nil, i => .inl rfl
  | _, _, .eq h, 0 => .inl rfl
  | _, _, .eq h, i + 1 => by simpa using h.at i
  | _, _, .no h, 0 => .inr fun e q => by simpa using q.symm
  | _, _, .no h, i + 1 => by simpa using h.at i
theorem Sim.wk {c : Cc} {F H : Hp} {σ : L2.St} {ρ ρ' : Rho} (h : Sim c F H σ ρ) (w : Wk ρ ρ') : Sim c F H σ ρ' := h.weak w.len w.at
theorem Sv.wk {ts : TS} {ρ ρ' : Rho} {P : Out → Prop} (w : Wk ρ ρ') (h : Sv g ts ρ' P) : Sv g ts ρ P := fun c F H σ E k s p => h c F H σ E k (s.wk w) p

/-- the block's next statement -/
def Sq (g : Gm) (u : TS) (P : Out → Prop) : Out → Prop
  | .nx ρ => Sv g u ρ P
  | o => P o
theorem sv_seq {t u : TS} {ρ : Rho} {P : Out → Prop} (h : Sv g t ρ (Sq g u P)) : Sv g (tSeq t u) ρ P := fun c F H σ E k s p => by
  refine h c F H σ { E with nx := u E } k s ⟨fun ρ' F' H' σ' q s' e => ?_, fun ρ' F' H' σ' v r q s' e x => p.rt _ _ _ _ _ _ q s' e x, fun ρ' F' H' σ' q s' e => p.bk _ _ _ _ q s' e, fun ρ' F' H' σ' q s' e => p.ct _ _ _ _ q s' e, fun ρ' F' H' σ' C q s' e => p.ex _ _ _ _ _ q s' e⟩
  exact q c F' H' σ' E k s' (p.up e)
theorem sv_next {ρ : Rho} {P : Out → Prop} (h : P (.nx ρ)) : Sv g tNext ρ P := fun c F H σ E k s p => p.nx _ _ _ _ h s (Same.refl _)
theorem sv_break {ρ : Rho} {P : Out → Prop} (h : P (.bk ρ)) : Sv g tBreak ρ P := fun c F H σ E k s p => p.bk _ _ _ _ h s (Same.refl _)
theorem sv_cont {ρ : Rho} {P : Out → Prop} (h : P (.ct ρ)) : Sv g tCont ρ P := fun c F H σ E k s p => p.ct _ _ _ _ h s (Same.refl _)

/-- what ahead of a point is own is nobody else's -/
theorem notP {c : Cc} {g : Gm} (k : c.okS g) {i : Nat} (h : i ∉ g.ps) : ∀ a, (i, a) ∉ c.P := fun a m => by
  refine h ?_
  rw [← k.ok.2]
  exact List.mem_map.mpr ⟨(i, a), m, rfl⟩

/-- x = e, data -/
theorem sv_set {te : TE} {ρ ρ1 : Rho} {d : D} {i : Nat} {P : Out → Prop} (he : EvD g te ρ d ρ1) (h : P (.nx (ρ1.set i (.dat d)))) (hi : i < ρ1.length := by simp) (hp : i ∉ g.ps := by simp) : Sv g (tAsg te (gName i)) ρ P := fun c F H σ E k s p =>
  he c F H σ k.ok s _ fun v F' H' s' e x => p.nx _ _ _ _ h (s'.setDat x hi (notP k hp)) e
theorem DxAll.nilOf {F : Hp} {vs : List V} (h : DxAll K F vs []) : vs = [] := by cases h; rfl
/-- an own thing at a new place gets a name -/
theorem Sim.setOwn {c : Cc} {F H : Hp} {σ : L2.St} {ρ : Rho} (h : Sim c F H σ ρ) {i : Nat} {a : Addr} {f : List Addr} {w : Ow} (hr : OwRep c.K F H a f w) (hf : ∀ b ∈ f, F b = none ∧ H b ≠ none ∧ c.B b = none)
    (hn : ∀ fp, SimF c F H σ ρ fp → ∀ (j : Nat) (w' : Ow) b, ρ[j]? = some (.own w') → b ∈ f → b ∉ fp j) (hi : i < ρ.length) (hP : ∀ a, (i, a) ∉ c.P) : Sim c F H (σ.set i (some (.ref a))) (ρ.set i (.own w)) := by
  obtain ⟨fp, s⟩ := h
  have no := hn fp s
  have hi' : i < σ.length := by rw [s.len]; exact hi
  have own' : ∀ (j : Nat) (w' : Ow), (ρ.set i (.own w))[j]? = some (.own w') → (j = i ∧ w' = w) ∨ (j ≠ i ∧ ρ[j]? = some (.own w')) := fun j w' q => by
    by_cases z : j = i
    · subst z
      rw [List.getElem?_set_self hi] at q
      cases q
      exact .inl ⟨rfl, rfl⟩
    · rw [List.getElem?_set_ne (Ne.symm z)] at q
      exact .inr ⟨z, q⟩
  refine ⟨fun j => if j = i then f else fp j, s.f0, s.fh, s.keep, s.dom, s.av, fun j b m => ?_, fun j d q => ?_, fun j w' q => ?_, fun j w' b q m => ?_, fun j k w' w'' b q q' m m' => ?_, by simpa using s.len, fun j w' b q m k hk => ?_, s.pb⟩
  · have z : j ≠ i := fun z => hP b (z ▸ m)
    rw [List.getElem?_set_ne (Ne.symm z)]
    exact s.par j b m
  · by_cases z : j = i
    · subst z
      rw [List.getElem?_set_self hi] at q
      cases q
    · rw [List.getElem?_set_ne (Ne.symm z)] at q ⊢
      exact s.dat j d q
  · rcases own' j w' q with ⟨rfl, rfl⟩ | ⟨z, q'⟩
    · exact ⟨a, List.getElem?_set_self hi', by simpa using hr⟩
    · rw [List.getElem?_set_ne (Ne.symm z)]
      simpa [z] using s.own j w' q'
  · rcases own' j w' q with ⟨rfl, rfl⟩ | ⟨z, q'⟩
    · have m' : b ∈ f := by simpa using m
      exact ⟨(hf b m').1, (hf b m').2.1, .inl (hf b m').2.2⟩
    · exact s.ownF j w' b q' (by simpa [z] using m)
  · rcases own' j w' q with ⟨rfl, rfl⟩ | ⟨z, q1⟩
    · rcases own' k w'' q' with ⟨rfl, rfl⟩ | ⟨z', q2⟩
      · rfl
      · exact absurd (by simpa [z'] using m') (no k w'' b q2 (by simpa using m))
    · rcases own' k w'' q' with ⟨rfl, rfl⟩ | ⟨z', q2⟩
      · exact absurd (by simpa [z] using m) (no j w' b q1 (by simpa using m'))
      · exact s.sep j k w' w'' b q1 q2 (by simpa [z] using m) (by simpa [z'] using m')
  · rcases own' j w' q with ⟨rfl, rfl⟩ | ⟨z, q1⟩
    · exact absurd (hf b (by simpa using m)).2.2 (s.pb k b hk)
    · exact s.wp j w' b q1 (by simpa [z] using m) k hk
/-- x = e, a new list of one's own -/
theorem Sim.newList {c : Cc} {F H : Hp} {σ : L2.St} {ρ : Rho} (s : Sim c F H σ ρ) {p : Addr} {vs : List V} {ds : List D} {i : Nat} (hp : H p = none) (ha : DxAll c.K F vs ds) (hi : i < ρ.length) (hP : ∀ a, (i, a) ∉ c.P) :
    Sim c F (upd H p (.lst vs)) (σ.set i (some (.ref p))) (ρ.set i (.own (.lst ds))) := by
  obtain ⟨fp, sf⟩ := id s
  have np : ∀ a, H a ≠ none → a ≠ p := fun a ha z => ha (z ▸ hp)
  have hB : c.B p = none := by
    cases q : c.B p with
    | none => rfl
    | some u => exact absurd hp (sf.dom p (by simp [q]))
  have s2 : SimF c F (upd H p (.lst vs)) σ ρ fp := by
    refine ⟨sf.f0, sf.fh.trans (sameNew hp), fun a u q w => ?_, fun a q => ?_, sf.av, sf.par, sf.dat, fun i w q => ?_, fun i w b q m => ?_, sf.sep, sf.len, sf.wp, sf.pb⟩
    · have := sf.keep a u q w
      rw [upd_ne (np a (by simp [this]))]
      exact this
    · rw [upd_ne (np a (sf.dom a q))]
      exact sf.dom a q
    · obtain ⟨a, e1, e2⟩ := sf.own i w q
      exact ⟨a, e1, e2.up (Same.refl _) fun b m => upd_ne (np b (sf.ownF i w b q m).2.1)⟩
    · obtain ⟨e1, e2, e3⟩ := sf.ownF i w b q m
      exact ⟨e1, by rw [upd_ne (np b e2)]; exact e2, e3⟩
  -- the same footprints serve: argue by hand
  have hi' : i < σ.length := by rw [sf.len]; exact hi
  have own' : ∀ (j : Nat) (w' : Ow), (ρ.set i (.own (.lst ds)))[j]? = some (.own w') → (j = i ∧ w' = .lst ds) ∨ (j ≠ i ∧ ρ[j]? = some (.own w')) := fun j w' q => by
    by_cases z : j = i
    · subst z
      rw [List.getElem?_set_self hi] at q
      cases q
      exact .inl ⟨rfl, rfl⟩
    · rw [List.getElem?_set_ne (Ne.symm z)] at q
      exact .inr ⟨z, q⟩
  have no : ∀ (j : Nat) (w' : Ow), ρ[j]? = some (.own w') → p ∉ fp j := fun j w' q m => (sf.ownF j w' p q m).2.1 hp
  refine ⟨fun j => if j = i then [p] else fp j, s2.f0, s2.fh, s2.keep, s2.dom, s2.av, fun j b m => ?_, fun j d q => ?_, fun j w' q => ?_, fun j w' b q m => ?_, fun j k w' w'' b q q' m m' => ?_, by simpa using sf.len, fun j w' b q m k hk => ?_, sf.pb⟩
  · have z : j ≠ i := fun z => hP b (z ▸ m)
    rw [List.getElem?_set_ne (Ne.symm z)]
    exact s2.par j b m
  · by_cases z : j = i
    · subst z
      rw [List.getElem?_set_self hi] at q
      cases q
    · rw [List.getElem?_set_ne (Ne.symm z)] at q ⊢
      exact s2.dat j d q
  · rcases own' j w' q with ⟨rfl, rfl⟩ | ⟨z, q'⟩
    · refine ⟨p, List.getElem?_set_self hi', ?_⟩
      rw [if_pos rfl]
      exact ⟨rfl, vs, upd_same, ha⟩
    · rw [List.getElem?_set_ne (Ne.symm z)]
      simpa [z] using s2.own j w' q'
  · rcases own' j w' q with ⟨rfl, rfl⟩ | ⟨z, q'⟩
    · have m' : b = p := by simpa using m
      subst m'
      exact ⟨freeF sf.fh hp, by rw [upd_same]; simp, .inl hB⟩
    · exact s2.ownF j w' b q' (by simpa [z] using m)
  · rcases own' j w' q with ⟨rfl, rfl⟩ | ⟨z, q1⟩
    · rcases own' k w'' q' with ⟨rfl, rfl⟩ | ⟨z', q2⟩
      · rfl
      · have e : b = p := by simpa using m
        subst e
        exact absurd (by simpa [z'] using m') (no k w'' q2)
    · rcases own' k w'' q' with ⟨rfl, rfl⟩ | ⟨z', q2⟩
      · have e : b = p := by simpa using m'
        subst e
        exact absurd (by simpa [z] using m) (no j w' q1)
      · exact s2.sep j k w' w'' b q1 q2 (by simpa [z] using m) (by simpa [z'] using m')
  · rcases own' j w' q with ⟨rfl, rfl⟩ | ⟨z, q1⟩
    · have e : b = p := by simpa using m
      subst e
      exact absurd hB (sf.pb k b hk)
    · exact sf.wp j w' b q1 (by simpa [z] using m) k hk
theorem sv_setN {te : TE} {ρ ρ1 : Rho} {ds : List D} {i : Nat} {P : Out → Prop} (he : EvN g te ρ ds ρ1) (h : P (.nx (ρ1.set i (.own (.lst ds))))) (hi : i < ρ1.length := by simp) (hp : i ∉ g.ps := by simp) : Sv g (tAsg te (gName i)) ρ P := fun c F H σ E k s p =>
  he c F H σ k.ok s _ fun q vs F' H' s' e hq x => p.nx _ _ _ _ h (s'.newList hq x hi (notP k hp)) e
/-- if -/
theorem sv_if {tc : TT} {t u : TS} {ρ ρ1 : Rho} {b : Bool} {P : Out → Prop} (hc : EvT g tc ρ b ρ1) (h1 : b = true → Sv g t ρ1 P) (h2 : b = false → Sv g u ρ1 P) : Sv g (tIfS tc t u) ρ P := fun c F H σ E k s p =>
  hc c F H σ k.ok s _ fun F' H' s' e => by
    cases b with
    | true => exact h1 rfl c F' H' σ E k s' (p.up e)
    | false => exact h2 rfl c F' H' σ E k s' (p.up e)
/-- return data -/
theorem sv_ret {te : TE} {ρ ρ1 : Rho} {d : D} {P : Out → Prop} (he : EvD g te ρ d ρ1) (h : P (.rt ρ1 (.dat d))) : Sv g (tRet te) ρ P := fun c F H σ E k s p =>
  he c F H σ k.ok s _ fun v F' H' s' e x => p.rt _ _ _ _ _ _ h s' e x
theorem sv_retNone {ρ : Rho} {P : Out → Prop} (h : P (.rt ρ (.dat .none))) : Sv g tRetN ρ P := fun c F H σ E k s p => p.rt _ _ _ _ _ _ h s (Same.refl _) .non
/-- return a new list -/
theorem sv_retN {te : TE} {ρ ρ1 : Rho} {ds : List D} {P : Out → Prop} (he : EvN g te ρ ds ρ1) (h : P (.rt ρ1 (.new (.lst ds)))) : Sv g (tRet te) ρ P := fun c F H σ E k s p =>
  he c F H σ k.ok s _ fun q vs F' H' s' e hq x => p.rt _ _ _ _ _ _ h (s'.heap hq) e ⟨q, [q], rfl, ⟨rfl, vs, upd_same, x⟩, fun b m => by
    have z : b = q := by simpa using m
    subst z
    refine ⟨freeF s'.fh hq, by rw [upd_same]; simp, ?_⟩
    obtain ⟨fp, sf⟩ := s'
    cases q : c.B b with
    | none => rfl
    | some u => exact absurd hq (sf.dom b (by simp [q]))⟩
/-- return a name that holds a thing of one's own -/
theorem sv_retOwn {ρ : Rho} {w : Ow} {i : Nat} {P : Out → Prop} (he : ρ[i]? = some (.own w)) (h : P (.rt (ρ.set i .no) (.new w))) (hj : i ∉ g.ps := by simp) : Sv g (tRet (tVar i)) ρ P := fun c F H σ E k s p => by
  obtain ⟨fp, sf⟩ := id s
  obtain ⟨a, e1, e2⟩ := sf.own i w he
  refine ⟨.ref a, e1, p.rt _ F H σ _ _ h (s.weak (by simp) fun j => ?_) (Same.refl _) ⟨a, fp i, rfl, e2, fun b m => ?_⟩⟩
  · by_cases z : j = i
    · subst z
      refine .inr fun e q => ?_
      by_cases hl : j < ρ.length
      · rw [List.getElem?_set_self hl] at q
        exact (Option.some.inj q).symm
      · rw [List.getElem?_eq_none (by simpa using hl)] at q
        cases q
    · rw [List.getElem?_set_ne (Ne.symm z)]
      exact .inl rfl
  · obtain ⟨q1, q2, q3⟩ := sf.ownF i w b he m
    refine ⟨q1, q2, q3.resolve_right fun z => ?_⟩
    obtain ⟨j, hj'⟩ := k.wp b z
    have := sf.wp i w b he m j hj'
    subst this
    exact notP k hj b hj'
/-- an expression for what it does -/
theorem sv_drop {te : TE} {ρ ρ1 : Rho} {d : D} {P : Out → Prop} (he : EvD g te ρ d ρ1) (h : P (.nx ρ1)) : Sv g (tDrop te) ρ P := fun c F H σ E k s p =>
  he c F H σ k.ok s _ fun v F' H' s' e x => p.nx _ _ _ _ h s' e
end DL

namespace DL
open PySem PySem.Spec PyProof.Rows L2
variable {K : PySem.W.Frag} {g : Gm}

/-! ### tests -/
section
variable {ta tb te : TE} {t u : TT} {ρ ρ1 ρ2 : Rho} {a b : Bool} {d : D}
theorem et_test (h : EvD g te ρ (.bool b) ρ1) : EvT g (tTest te) ρ b ρ1 := fun c F H σ k s Q q => h c F H σ k s _ fun v F' H' s' e x => by
  cases x
  exact ⟨b, rfl, q F' H' s' e⟩
theorem et_B (h : EvD g te ρ (.bool b) ρ1) : EvT g (tB te) ρ b ρ1 := fun c F H σ k s Q q => h c F H σ k s _ fun v F' H' s' e x => by
  cases x
  exact ⟨b, rfl, q F' H' s' e⟩
theorem et_and (h1 : EvT g t ρ a ρ1) (h2 : a = true → EvT g u ρ1 b ρ1) : EvT g (tAnd t u) ρ (a && b) ρ1 := fun c F H σ k s Q q => h1 c F H σ k s _ fun F1 H1 s1 e1 => by
  cases a with
  | true => exact h2 rfl c F1 H1 σ k s1 Q fun F2 H2 s2 e2 => q F2 H2 s2 (e1.trans e2)
  | false => exact q F1 H1 s1 e1
theorem et_or (h1 : EvT g t ρ a ρ1) (h2 : a = false → EvT g u ρ1 b ρ1) : EvT g (tOr t u) ρ (a || b) ρ1 := fun c F H σ k s Q q => h1 c F H σ k s _ fun F1 H1 s1 e1 => by
  cases a with
  | true => exact q F1 H1 s1 e1
  | false => exact h2 rfl c F1 H1 σ k s1 Q fun F2 H2 s2 e2 => q F2 H2 s2 (e1.trans e2)
theorem et_not (h1 : EvT g t ρ a ρ1) : EvT g (tNot t) ρ (!a) ρ1 := fun c F H σ k s Q q => h1 c F H σ k s _ fun F1 H1 s1 e1 => q F1 H1 s1 e1
theorem ed_and (h1 : EvD g ta ρ (.bool a) ρ1) (h2 : a = true → EvD g tb ρ1 (.bool b) ρ1) : EvD g (tAndV ta tb) ρ (.bool (a && b)) ρ1 := fun c F H σ k s Q q => h1 c F H σ k s _ fun v F1 H1 s1 e1 x => by
  cases x
  refine ⟨a, rfl, ?_⟩
  cases a with
  | true => exact h2 rfl c F1 H1 σ k s1 Q fun v F2 H2 s2 e2 y => q v F2 H2 s2 (e1.trans e2) y
  | false => exact q _ F1 H1 s1 e1 (.bl _)
theorem ed_or (h1 : EvD g ta ρ (.bool a) ρ1) (h2 : a = false → EvD g tb ρ1 (.bool b) ρ1) : EvD g (tOrV ta tb) ρ (.bool (a || b)) ρ1 := fun c F H σ k s Q q => h1 c F H σ k s _ fun v F1 H1 s1 e1 x => by
  cases x
  refine ⟨a, rfl, ?_⟩
  cases a with
  | true => exact q _ F1 H1 s1 e1 (.bl _)
  | false => exact h2 rfl c F1 H1 σ k s1 Q fun v F2 H2 s2 e2 y => q v F2 H2 s2 (e1.trans e2) y
theorem ed_not (h1 : EvD g ta ρ (.bool a) ρ1) : EvD g (tNotV ta) ρ (.bool (!a)) ρ1 := fun c F H σ k s Q q => h1 c F H σ k s _ fun v F1 H1 s1 e1 x => by
  cases x
  exact ⟨a, rfl, q _ F1 H1 s1 e1 (.bl _)⟩
theorem ed_if (h : EvT g t ρ b ρ1) (h1 : b = true → EvD g ta ρ1 d ρ2) (h2 : b = false → EvD g tb ρ1 d ρ2) : EvD g (tIf t ta tb) ρ d ρ2 := fun c F H σ k s Q q => h c F H σ k s _ fun F1 H1 s1 e1 => by
  cases b with
  | true => exact h1 rfl c F1 H1 σ k s1 Q fun v F2 H2 s2 e2 y => q v F2 H2 s2 (e1.trans e2) y
  | false => exact h2 rfl c F1 H1 σ k s1 Q fun v F2 H2 s2 e2 y => q v F2 H2 s2 (e1.trans e2) y
theorem ed_eq {e : D} (h : EvD g te ρ d ρ1) (q : d = e) : EvD g te ρ e ρ1 := q ▸ h
theorem et_eq {e : Bool} (h : EvT g t ρ a ρ1) (q : a = e) : EvT g t ρ e ρ1 := q ▸ h
/-- is None, is not None -/
def notNone : D → Bool
  | .none => false
  | _ => true
theorem dp_non {F : Hp} {v : V} (h : Dx K F v d) : decide (v = .non) = !notNone d := by
  cases h <;> rfl
theorem ed_isN (h : EvD g ta ρ d ρ1) : EvD g (tIsN ta) ρ (.bool (!notNone d)) ρ1 := fun c F H σ k s Q q => h c F H σ k s _ fun v F1 H1 s1 e1 x => by
  rw [dp_non x]
  exact q _ F1 H1 s1 e1 (.bl _)
theorem ed_notN (h : EvD g ta ρ d ρ1) : EvD g (tNotN ta) ρ (.bool (notNone d)) ρ1 := fun c F H σ k s Q q => h c F H σ k s _ fun v F1 H1 s1 e1 x => by
  rw [dp_non x, Bool.not_not]
  exact q _ F1 H1 s1 e1 (.bl _)
/-- a < b < c -/
theorem ed_chain {tc : TE} {r r' : R2} {d e f : D} {A B C : Arg} (ha : EvO g ta ρ A ρ1) (hb : EvO g tb ρ1 B ρ2) (hr : R2D g.K r d e (.bool a)) (hc : a = true → EvO g tc ρ2 C ρ2) (hr' : a = true → R2D g.K r' e f (.bool b))
    (dA : A.den ρ2 = some d := by rfl) (dB : B.den ρ2 = some e := by rfl) (dC : C.den ρ2 = some f := by rfl) : EvD g (tChain r r' ta tb tc) ρ (.bool (a && b)) ρ2 := fun c F H σ k s Q q => by
  refine ha c F H σ k s _ fun x F1 H1 s1 e1 h1 => hb c F1 H1 σ k s1 _ fun y F2 H2 s2 e2 h2 => ?_
  have kk : c.K = g.K := k.1
  have o1 := Arg.opd s2 (h1.up e2) dA
  have o2 := Arg.opd s2 h2 dB
  rw [kk] at o1 o2
  refine hr F2 H2 x y _ s2.fh o1 o2 fun v F3 H3 rs => ?_
  rw [← kk] at rs
  obtain ⟨s3, e3, q3⟩ := rs.sim s2
  cases q3
  refine ⟨a, rfl, ?_⟩
  cases a with
  | false => exact q _ F3 H3 s3 ((e1.trans e2).trans e3) (.bl _)
  | true =>
    refine hc rfl c F3 H3 σ k s3 _ fun z F4 H4 s4 e4 h4 => ?_
    have o2' := Arg.opd s4 (h2.up (e3.trans e4)) dB
    have o3 := Arg.opd s4 h4 dC
    rw [kk] at o2' o3
    refine hr' rfl F4 H4 y z Q s4.fh o2' o3 fun v F5 H5 rs => ?_
    rw [← kk] at rs
    obtain ⟨s5, e5, q5⟩ := rs.sim s4
    exact q v F5 H5 s5 ((((e1.trans e2).trans e3).trans e4).trans e5) q5
end

/-! ### operations on data -/
section
variable {i j : Int} {d e z : D} {r r' : R2} {xs ys ds : List D}
theorem r2_or1 (h : R2D K r d e z) : R2D K (fun x y H Q => r x y H Q ∨ r' x y H Q) d e z := fun F H x y Q f a b q => .inl (h F H x y Q f a b q)
theorem r2_or2 (h : R2D K r' d e z) : R2D K (fun x y H Q => r x y H Q ∨ r' x y H Q) d e z := fun F H x y Q f a b q => .inr (h F H x y Q f a b q)
theorem r2_int {f : Int → Int → Int} : R2D K (rI0 fun i j => .int (f i j)) (.int i) (.int j) (.int (f i j)) := fun F H x y Q _ a b q => ⟨i, j, a.int, b.int, q _ F H (.at (.int _))⟩
theorem r2_intC {C : Int → Int → Prop} {f : Int → Int → Int} (hc : C i j) : R2D K (rI C fun i j => .int (f i j)) (.int i) (.int j) (.int (f i j)) := fun F H x y Q _ a b q => ⟨i, j, a.int, b.int, hc, q _ F H (.at (.int _))⟩
theorem r2_bl {f : Int → Int → Bool} : R2D K (rI0 fun i j => .bl (f i j)) (.int i) (.int j) (.bool (f i j)) := fun F H x y Q _ a b q => ⟨i, j, a.int, b.int, q _ F H (.at (.bl _))⟩
theorem r2_eqD (h1 : SeqAt.shaped d = true) (h2 : SeqAt.shaped e = true) : R2D K (rEqD K) d e (.bool (PyData.eqv d e)) := fun F H x y Q f a b q => ⟨d, e, (a.dp f).old, (b.dp f).old, h1, h2, q _ F H (.at (.bl _))⟩
theorem r2_neD (h1 : SeqAt.shaped d = true) (h2 : SeqAt.shaped e = true) : R2D K (rNeD K) d e (.bool (!PyData.eqv d e)) := fun F H x y Q f a b q => ⟨d, e, (a.dp f).old, (b.dp f).old, h1, h2, q _ F H (.at (.bl _))⟩
theorem r2_inD (h1 : SeqAt.shaped d = true) (h2 : SeqAt.shaped (.list ds) = true) : R2D K (rInD K) d (.list ds) (.bool (ds.any fun z => PyData.eqv z d)) := fun F H x y Q f a b q => ⟨d, ds, (a.dp f).old, (b.dp f).old, h1, h2, q _ F H (.at (.bl _))⟩
theorem r2_notInD (h1 : SeqAt.shaped d = true) (h2 : SeqAt.shaped (.list ds) = true) : R2D K (rNotInD K) d (.list ds) (.bool (!ds.any fun z => PyData.eqv z d)) := fun F H x y Q f a b q => ⟨d, ds, (a.dp f).old, (b.dp f).old, h1, h2, q _ F H (.at (.bl _))⟩
theorem r2_catT (hz : xs.length + ys.length ≤ sizeLine) : R2D K (rCatX K) (.tuple xs) (.tuple ys) (.tuple (xs ++ ys)) := fun F H x y Q f a b q => by
  obtain ⟨p1, v1, rfl, h1, k1⟩ := a.tup f
  obtain ⟨p2, v2, rfl, h2, k2⟩ := b.tup f
  have l1 := dpAllLen k1
  have l2 := dpAllLen k2
  refine ⟨p1, p2, v1, v2, rfl, rfl, h1, h2, by omega, fun e1 => ?_, fun _ e2 => ?_, fun _ _ p o hp ho => q _ _ _ (.new hp ho (dpAllApp k1 k2))⟩
  · subst e1
    cases k1
    exact q _ F H (.at (b.elim id fun ⟨_, _, _, _, z, _⟩ => by cases z))
  · subst e2
    cases k2
    rw [List.append_nil] at q
    exact q _ F H (.at (a.elim id fun ⟨_, _, _, _, z, _⟩ => by cases z))
theorem atI_dp {F : Hp} {vs : List V} (h : DxAll K F vs ds) (hd : atI ds i = some d) : ∃ v, atI vs i = some v ∧ Dx K F v d := by
  unfold atI at hd ⊢
  rw [dpAllLen h]
  cases q : ixN ds.length i with
  | none => rw [q] at hd; cases hd
  | some j =>
    rw [q] at hd
    exact dpAllGet h hd
theorem r2_ixL (hd : atI ds i = some d) : R2D K (rIxL K) (.list ds) (.int i) d := fun F H x y Q f a b q => by
  obtain ⟨p, vs, rfl, h1, k1⟩ := a.list f
  obtain ⟨v, e1, e2⟩ := atI_dp k1 hd
  exact ⟨p, vs, i, v, rfl, b.int, h1, e1, q _ F H (.at e2)⟩
theorem r2_ixT (hd : atI ds i = some d) : R2D K (rIxT K) (.tuple ds) (.int i) d := fun F H x y Q f a b q => by
  obtain ⟨p, vs, rfl, h1, k1⟩ := a.tup f
  obtain ⟨v, e1, e2⟩ := atI_dp k1 hd
  exact ⟨p, vs, i, v, rfl, b.int, h1, e1, q _ F H (.at e2)⟩
theorem r2_ixS {z : Str} {cp : Nat} (hl : z.length ≤ sizeLine) (hd : atI z.cps.toList i = some cp) : R2D K rIxS (.str z) (.int i) (.str ⟨#[cp]⟩) := fun F H x y Q f a b q => ⟨z, i, cp, a.str, b.int, hl, hd, q _ F H (.at (.str _))⟩
theorem rx_L (hd : atI ds i = some d) : R2D K (rIx K) (.list ds) (.int i) d := r2_or1 (r2_ixL hd)
theorem rx_T (hd : atI ds i = some d) : R2D K (rIx K) (.tuple ds) (.int i) d := r2_or2 (r2_or1 (r2_ixT hd))
theorem rx_S {z : Str} {cp : Nat} (hl : z.length ≤ sizeLine) (hd : atI z.cps.toList i = some cp) : R2D K (rIx K) (.str z) (.int i) (.str ⟨#[cp]⟩) := r2_or2 (r2_or2 (r2_ixS hl hd))
theorem ru_neg : R1D K (rU fun i => .int (-i)) (.int i) (.int (-i)) := fun F H x Q f a q => ⟨i, a.int, q _ F H (.at (.int _))⟩
theorem OpdAll.one {F H : Hp} {vs : List V} (h : OpdAll K F H vs [d]) : ∃ v, vs = [v] ∧ Opd K F H v d := by
  cases h with
  | cons a t => cases t; exact ⟨_, rfl, a⟩
theorem OpdAll.two {F H : Hp} {vs : List V} (h : OpdAll K F H vs [d, e]) : ∃ v w, vs = [v, w] ∧ Opd K F H v d ∧ Opd K F H w e := by
  cases h with
  | cons a t =>
    cases t with
    | cons b t => cases t; exact ⟨_, _, rfl, a, b⟩
def rLen (K : PySem.W.Frag) : List V → Hp → VK → Prop := fun xs H Q => ∃ p ys, xs = [.ref p] ∧ (SqL K H p ys ∨ SqT K H p ys) ∧ Q (.int ys.length) H
theorem cr_len {X : Cx} : CallR X (.builtin "len") (rLen X.K) := call_len_seq
theorem rc_lenL : RCD K (rLen K) [.list ds] (.int ds.length) := fun F H xs Q f a q => by
  obtain ⟨v, rfl, a1⟩ := a.one
  clear a
  have a := a1
  obtain ⟨p, vs, rfl, h1, k1⟩ := a.list f
  exact ⟨p, vs, rfl, .inl h1, by rw [dpAllLen k1]; exact q _ F H (.at (.int _))⟩
theorem rc_lenT : RCD K (rLen K) [.tuple ds] (.int ds.length) := fun F H xs Q f a q => by
  obtain ⟨v, rfl, a1⟩ := a.one
  clear a
  have a := a1
  obtain ⟨p, vs, rfl, h1, k1⟩ := a.tup f
  exact ⟨p, vs, rfl, .inr h1, by rw [dpAllLen k1]; exact q _ F H (.at (.int _))⟩
def rAbs : List V → Hp → VK → Prop := fun xs H Q => ∃ i, xs = [.int i] ∧ Q (.int (if i < 0 then -i else i)) H
theorem cr_abs {X : Cx} : CallR X (.builtin "abs") rAbs := call_abs
theorem rc_abs : RCD K rAbs [.int i] (.int (if i < 0 then -i else i)) := fun F H xs Q f a q => by
  obtain ⟨v, rfl, a1⟩ := a.one
  clear a
  have a := a1
  exact ⟨i, by rw [a.int], q _ F H (.at (.int _))⟩
def rInt1 : List V → Hp → VK → Prop := fun xs H Q => (∃ i, xs = [.int i] ∧ Q (.int i) H) ∨ ∃ k, xs = [.bl k] ∧ Q (.int (if k then 1 else 0)) H
theorem cr_int {X : Cx} : CallR X (.type "int") rInt1 := call_int1
theorem rc_int : RCD K rInt1 [.int i] (.int i) := fun F H xs Q f a q => by
  obtain ⟨v, rfl, a1⟩ := a.one
  clear a
  have a := a1
  exact .inl ⟨i, by rw [a.int], q _ F H (.at (.int _))⟩
theorem rc_intB {b : Bool} : RCD K rInt1 [.bool b] (.int (if b then 1 else 0)) := fun F H xs Q f a q => by
  obtain ⟨v, rfl, a1⟩ := a.one
  clear a
  have a := a1
  exact .inr ⟨b, by rw [a.bl], q _ F H (.at (.int _))⟩
abbrev rTuple := rTupleX
theorem cr_tuple {X : Cx} : CallR X (.type "tuple") (rTuple X.K) := cr_tupleX
theorem rc_tupL : RCD K (rTuple K) [.list ds] (.tuple ds) := fun F H xs Q f a q => by
  obtain ⟨v, rfl, a1⟩ := a.one
  clear a
  have a := a1
  obtain ⟨p, vs, rfl, h1, k1⟩ := a.list f
  exact ⟨p, vs, rfl, .inl ⟨h1, fun l o hl ho => q _ _ _ (.new hl ho k1)⟩⟩
def rList (K : PySem.W.Frag) : List V → Hp → VK → Prop := fun xs H Q => ∃ p ys, xs = [.ref p] ∧ (SqL K H p ys ∨ SqT K H p ys) ∧ ∀ l, H l = none → Q (.ref l) (upd H l (.lst ys))
theorem cr_list {X : Cx} : CallR X (.type "list") (rList X.K) := call_list_of
theorem rc_listL : RCN K (rList K) [.list ds] ds := fun F H xs Q f a q => by
  obtain ⟨v, rfl, a1⟩ := a.one
  clear a
  have a := a1
  obtain ⟨p, vs, rfl, h1, k1⟩ := a.list f
  exact ⟨p, vs, rfl, .inl h1, fun l hl => q l vs hl k1⟩
theorem rc_listT : RCN K (rList K) [.tuple ds] ds := fun F H xs Q f a q => by
  obtain ⟨v, rfl, a1⟩ := a.one
  clear a
  have a := a1
  obtain ⟨p, vs, rfl, h1, k1⟩ := a.tup f
  exact ⟨p, vs, rfl, .inr h1, fun l hl => q l vs hl k1⟩
theorem dp_bools {F : Hp} : ∀ {vs : List V} {bs : List Bool}, DxAll K F vs (bs.map .bool) → vs = bs.map .bl
  | _, [], .nil => rfl
  | _, b :: bs, .cons h t => by
    cases h
    rw [dp_bools t]
    rfl
theorem dp_ints {F : Hp} : ∀ {vs : List V} {ns : List Int}, DxAll K F vs (ns.map .int) → vs = ns.map .int
  | _, [], .nil => rfl
  | _, b :: bs, .cons h t => by
    cases h
    rw [dp_ints t]
    rfl
theorem dp_strs {F : Hp} : ∀ {vs : List V} {ns : List Str}, DxAll K F vs (ns.map .str) → vs = ns.map .str
  | _, [], .nil => rfl
  | _, b :: bs, .cons h t => by
    cases h
    rw [dp_strs t]
    rfl
theorem dpInts {F : Hp} : ∀ ns : List Int, DxAll K F (ns.map .int) (ns.map .int)
  | [] => .nil
  | n :: ns => .cons (.int n) (dpInts ns)
theorem rc_all {bs : List Bool} : RCD K (rAll K) [.list (bs.map .bool)] (.bool (bs.all id)) := fun F H xs Q f a q => by
  obtain ⟨v, rfl, a1⟩ := a.one
  clear a
  have a := a1
  obtain ⟨p, vs, rfl, h1, k1⟩ := a.list f
  rw [dp_bools k1] at h1
  exact ⟨p, bs, rfl, h1, q _ F H (.at (.bl _))⟩
theorem rc_any {bs : List Bool} : RCD K (rAny K) [.list (bs.map .bool)] (.bool (bs.any id)) := fun F H xs Q f a q => by
  obtain ⟨v, rfl, a1⟩ := a.one
  clear a
  have a := a1
  obtain ⟨p, vs, rfl, h1, k1⟩ := a.list f
  rw [dp_bools k1] at h1
  exact ⟨p, bs, rfl, h1, q _ F H (.at (.bl _))⟩
end

/-! ### displays -/
section
variable {ta : TA} {ρ ρ1 : Rho}
/-- the arguments are frozen data -/
def datas : List Arg → Option (List D)
  | [] => some []
  | .d x :: As => match datas As with
    | some ds => some (x :: ds)
    | none => none
  | .o _ :: _ => none
theorem ArgsAt.datas {F : Hp} {σ : L2.St} : ∀ {vs : List V} {As : List Arg} {ds : List D}, ArgsAt K F σ vs As → DL.datas As = some ds → DxAll K F vs ds
  | _, _, _, .nil, e => by cases e; exact .nil
  | _, .d x :: As, _, .cons (.d a) t, e => by
    unfold DL.datas at e
    split at e
    · rename_i ds e2
      cases e
      exact .cons a (ArgsAt.datas t e2)
    · cases e
  | _, .o _ :: _, _, .cons (.o a) t, e => by cases e
theorem argsLen {F : Hp} {σ : L2.St} : ∀ {vs : List V} {As : List Arg}, ArgsAt K F σ vs As → vs.length = As.length
  | _, _, .nil => rfl
  | _, _, .cons _ t => by simp [argsLen t]
theorem ed_tup {As : List Arg} {ds : List D} (h : EvA g ta ρ As ρ1) (hd : datas As = some ds := by rfl) (hz : ds.length ≤ sizeLine := by decide) : EvD g (tTupX ta) ρ (.tuple ds) ρ1 := fun c F H σ k s Q q =>
  h c F H σ k s _ fun vs F1 H1 s1 e1 h1 => by
    have a := h1.datas hd
    refine ⟨by rw [dpAllLen a]; exact hz, fun p o hp ho => ?_⟩
    have e2 : Same F1 (upd F1 p (.frz o (.tup vs))) := sameNew (freeF s1.fh hp)
    exact q _ _ _ (s1.grow hp) (e1.trans e2) (.tup (.inl ⟨o, upd_same, ho⟩) (dpAllUp e2 a))
theorem en_lst {As : List Arg} {ds : List D} (h : EvA g ta ρ As ρ1) (hd : datas As = some ds := by rfl) (hz : ds.length ≤ sizeLine := by decide) : EvN g (tLst ta) ρ ds ρ1 := fun c F H σ k s Q q =>
  h c F H σ k s _ fun vs F1 H1 s1 e1 h1 => by
    have a := h1.datas hd
    exact ⟨by rw [dpAllLen a]; exact hz, fun p hp => q p vs F1 H1 s1 e1 hp a⟩
end

/-! ### slices -/
def EvP (g : Gm) (to : TO) (ρ : Rho) (o : Option Int) (ρ' : Rho) : Prop := ∀ (c : Cc) (F H : Hp) (σ : L2.St), c.ok g → Sim c F H σ ρ → ∀ Q : Option Int → Hp → Prop, (∀ F' H', Sim c F' H' σ ρ' → Same F F' → Q o H') → to σ H Q
theorem ep_no {ρ : Rho} : EvP g tNoPart ρ none ρ := fun c F H σ k s Q q => q F H s (Same.refl _)
theorem ep_some {te : TE} {ρ ρ1 : Rho} {i : Int} (h : EvD g te ρ (.int i) ρ1) : EvP g (tPart te) ρ (some i) ρ1 := fun c F H σ k s Q q => h c F H σ k s _ fun v F1 H1 s1 e1 x => by
  cases x
  exact ⟨i, rfl, q F1 H1 s1 e1⟩
def RSD (K : PySem.W.Frag) (r : V → Option Int → Option Int → Hp → VK → Prop) (d : D) (lo hi : Option Int) (z : D) : Prop := ∀ F H x (Q : VK), Same F H → Opd K F H x d → (∀ v F' H', Res K F H v z F' H' → Q v H') → r x lo hi H Q
def RSN (K : PySem.W.Frag) (r : V → Option Int → Option Int → Hp → VK → Prop) (d : D) (lo hi : Option Int) (zs : List D) : Prop := ∀ F H x (Q : VK), Same F H → Opd K F H x d → (∀ p vs, H p = none → DxAll K F vs zs → Q (.ref p) (upd H p (.lst vs))) → r x lo hi H Q
section
variable {te : TE} {tl th : TO} {ρ ρ1 ρ2 ρ3 : Rho} {lo hi : Option Int} {d z : D} {A : Arg} {r : V → Option Int → Option Int → Hp → VK → Prop}
theorem ed_sl (ha : EvO g te ρ A ρ1) (hl : EvP g tl ρ1 lo ρ2) (hh : EvP g th ρ2 hi ρ3) (hr : RSD g.K r d lo hi z) (dA : A.den ρ3 = some d := by rfl) : EvD g (tSl r te tl th) ρ z ρ3 := fun c F H σ k s Q q =>
  ha c F H σ k s _ fun x F1 H1 s1 e1 h1 => hl c F1 H1 σ k s1 _ fun F2 H2 s2 e2 => hh c F2 H2 σ k s2 _ fun F3 H3 s3 e3 => by
    have kk : c.K = g.K := k.1
    have o := Arg.opd s3 (h1.up (e2.trans e3)) dA
    rw [kk] at o
    refine hr F3 H3 x Q s3.fh o fun v F4 H4 rs => ?_
    rw [← kk] at rs
    obtain ⟨s4, e4, q4⟩ := rs.sim s3
    exact q v F4 H4 s4 (((e1.trans e2).trans e3).trans e4) q4
theorem en_sl {zs : List D} (ha : EvO g te ρ A ρ1) (hl : EvP g tl ρ1 lo ρ2) (hh : EvP g th ρ2 hi ρ3) (hr : RSN g.K r d lo hi zs) (dA : A.den ρ3 = some d := by rfl) : EvN g (tSl r te tl th) ρ zs ρ3 := fun c F H σ k s Q q =>
  ha c F H σ k s _ fun x F1 H1 s1 e1 h1 => hl c F1 H1 σ k s1 _ fun F2 H2 s2 e2 => hh c F2 H2 σ k s2 _ fun F3 H3 s3 e3 => by
    have kk : c.K = g.K := k.1
    have o := Arg.opd s3 (h1.up (e2.trans e3)) dA
    rw [kk] at o
    exact hr F3 H3 x Q s3.fh o fun p vs hp a => q p vs F3 H3 s3 ((e1.trans e2).trans e3) hp (by rw [kk]; exact a)
end
def cutD (xs : List D) (lo hi : Option Int) : List D := (xs.drop (HT.sIx xs.length 0 lo)).take (HT.sIx xs.length xs.length hi - HT.sIx xs.length 0 lo)
theorem dp_cut {F : Hp} {vs : List V} {ds : List D} (h : DxAll K F vs ds) (lo hi : Option Int) : DxAll K F (cutV vs lo hi) (cutD ds lo hi) := by
  unfold cutV cutD
  rw [dpAllLen h]
  exact dpAllTake _ (dpAllDrop _ h)
theorem rs_tup {ds : List D} {lo hi : Option Int} : RSD K (rSlX K) (.tuple ds) lo hi (.tuple (cutD ds lo hi)) := fun F H x Q f a q => by
  obtain ⟨p, vs, rfl, h1, k1⟩ := a.tup f
  have hl := dpAllLen k1
  refine ⟨p, vs, rfl, h1, fun ⟨e1, e2⟩ => ?_, fun _ l o hl ho => q _ _ _ (.new hl ho (dp_cut k1 lo hi))⟩
  rw [hl] at e1 e2
  have e : cutD ds lo hi = ds := by
    unfold cutD
    rw [e1, e2]
    simp
  rw [e] at q
  exact q _ F H (.at (a.elim id fun ⟨_, _, _, _, z, _⟩ => by cases z))
theorem rs_list {ds : List D} {lo hi : Option Int} : RSN K (rSlL K) (.list ds) lo hi (cutD ds lo hi) := fun F H x Q f a q => by
  obtain ⟨p, vs, rfl, h1, k1⟩ := a.list f
  exact ⟨p, vs, rfl, h1, fun l hl => q l _ hl (dp_cut k1 lo hi)⟩
end DL

namespace DL
open PySem PySem.Spec PyProof.Rows L2
variable {K : PySem.W.Frag} {g : Gm}

/-! ### own lists changed -/
/-- the object of an own list is another list now -/
theorem Sim.setLst {c : Cc} {F H : Hp} {σ : L2.St} {ρ : Rho} (s : Sim c F H σ ρ) {i : Nat} {ds ds' : List D} {a : Addr} {vs' : List V} (he : ρ[i]? = some (.own (.lst ds))) (hσ : σ[i]? = some (some (.ref a))) (ha : DxAll c.K F vs' ds') :
    Sim c F (upd H a (.lst vs')) σ (ρ.set i (.own (.lst ds'))) := by
  obtain ⟨fp, s⟩ := s
  obtain ⟨a', e1, e2, vs, e3, e4⟩ := s.own i _ he
  have ea : a' = a := by
    rw [hσ] at e1
    cases e1
    rfl
  subst ea
  have m0 : a' ∈ fp i := by rw [e2]; simp
  have hi : i < ρ.length := (List.getElem?_eq_some_iff.mp he).1
  obtain ⟨q1, q2, q3⟩ := s.ownF i _ a' he m0
  have own' : ∀ (j : Nat) (w' : Ow), (ρ.set i (.own (.lst ds')))[j]? = some (.own w') → (j = i ∧ w' = .lst ds') ∨ (j ≠ i ∧ ρ[j]? = some (.own w')) := fun j w' q => by
    by_cases z : j = i
    · subst z
      rw [List.getElem?_set_self hi] at q
      cases q
      exact .inl ⟨rfl, rfl⟩
    · rw [List.getElem?_set_ne (Ne.symm z)] at q
      exact .inr ⟨z, q⟩
  have old : ∀ (j : Nat) (w' : Ow), (ρ.set i (.own (.lst ds')))[j]? = some (.own w') → ∃ w0, ρ[j]? = some (.own w0) := fun j w' q => by
    rcases own' j w' q with ⟨rfl, _⟩ | ⟨_, q⟩
    · exact ⟨_, he⟩
    · exact ⟨_, q⟩
  refine ⟨fp, s.f0, sameUpd s.fh q1, fun b u q w => ?_, fun b q => ?_, s.av, s.par, fun j d q => ?_, fun j w q => ?_, fun j w b q m => ?_, fun j k w w' b q q' m m' => ?_, by simpa using s.len, fun j w b q m k hk => ?_, s.pb⟩
  · have z : b ≠ a' := fun z => by
      subst z
      rcases q3 with q3 | q3
      · rw [q3] at q; cases q
      · exact w q3
    rw [upd_ne z]
    exact s.keep b u q w
  · by_cases z : b = a'
    · rw [z, upd_same]; simp
    · rw [upd_ne z]; exact s.dom b q
  · by_cases z : j = i
    · subst z
      rw [List.getElem?_set_self hi] at q
      cases q
    · rw [List.getElem?_set_ne (Ne.symm z)] at q
      exact s.dat j d q
  · rcases own' j w q with ⟨rfl, rfl⟩ | ⟨z, q⟩
    · exact ⟨a', e1, e2, vs', upd_same, ha⟩
    · obtain ⟨b, k1, k2⟩ := s.own j w q
      refine ⟨b, k1, k2.up (Same.refl _) fun x m => upd_ne fun e => ?_⟩
      subst e
      exact z (s.sep j i w _ x q he m m0)
  · obtain ⟨w0, q0⟩ := old j w q
    obtain ⟨k1, k2, k3⟩ := s.ownF j w0 b q0 m
    refine ⟨k1, ?_, k3⟩
    by_cases z : b = a'
    · rw [z, upd_same]; simp
    · rw [upd_ne z]; exact k2
  · obtain ⟨w0, q0⟩ := old j w q
    obtain ⟨w1, q1⟩ := old k w' q'
    exact s.sep j k w0 w1 b q0 q1 m m'
  · obtain ⟨w0, q0⟩ := old j w q
    exact s.wp j w0 b q0 m k hk
theorem Sim.lstAt {c : Cc} {F H : Hp} {σ : L2.St} {ρ : Rho} (s : Sim c F H σ ρ) {i : Nat} {ds : List D} (he : ρ[i]? = some (.own (.lst ds))) : ∃ a vs, σ[i]? = some (some (.ref a)) ∧ H a = some (.lst vs) ∧ F a = none ∧ DxAll c.K F vs ds := by
  obtain ⟨fp, s⟩ := s
  obtain ⟨a, e1, e2, vs, e3, e4⟩ := s.own i _ he
  exact ⟨a, vs, e1, e3, (s.ownF i _ a he (by rw [e2]; simp)).1, e4⟩
theorem some_inj2 {σ : L2.St} {i : Nat} {a b : Addr} (h1 : σ[i]? = some (some (.ref a))) (h2 : σ[i]? = some (some (.ref b))) : a = b := by
  rw [h1] at h2
  cases h2
  rfl
section
variable {te ti : TE} {ρ ρ1 ρ2 : Rho} {d : D} {ds ds0 : List D} {i : Nat} {P : Out → Prop}
/-- x.append(e) -/
theorem sv_append (h0 : ρ[i]? = some (.own (.lst ds0))) (he : EvD g te ρ d ρ1) (h1 : ρ1[i]? = some (.own (.lst ds))) (hz : ds.length < sizeLine) (h : P (.nx (ρ1.set i (.own (.lst (ds ++ [d])))))) :
    Sv g (tDrop (tBM g.K "list" rAppend (tVar i) (tCons te tNil))) ρ P := fun c F H σ E k s p => by
  obtain ⟨a, vs, e1, e2, e3, e4⟩ := s.lstAt h0
  refine ⟨.ref a, e1, .inl ⟨rfl, vs, .inl (.inl e2)⟩, he c F H σ k.ok s _ fun v F1 H1 s1 q1 x => ?_⟩
  obtain ⟨b, ws, f1, f2, f3, f4⟩ := s1.lstAt h1
  have := some_inj2 e1 f1
  subst this
  refine ⟨a, ws, v, rfl, rfl, f2, by rw [dpAllLen f4]; exact hz, ?_⟩
  exact p.nx _ _ _ _ h (s1.setLst h1 f1 (dpAllApp f4 (.cons x .nil))) q1
/-- x[e] = e' -/
theorem sv_setItem {j : Nat} {n : Int} (he : EvD g te ρ d ρ1) (hi : EvD g ti ρ1 (.int n) ρ2) (h0 : ρ1[i]? = some (.own (.lst ds0))) (h1 : ρ2[i]? = some (.own (.lst ds))) (hj : ixN ds.length n = some j) (h : P (.nx (ρ2.set i (.own (.lst (ds.set j d)))))) :
    Sv g (tAsg te (gSub (tVar i) ti rSetL)) ρ P := fun c F H σ E k s p => by
  refine he c F H σ k.ok s _ fun v F1 H1 s1 q1 x => ?_
  obtain ⟨a, vs, e1, e2, e3, e4⟩ := s1.lstAt h0
  refine ⟨.ref a, e1, hi c F1 H1 σ k.ok s1 _ fun w F2 H2 s2 q2 y => ?_⟩
  cases y
  obtain ⟨b, ws, f1, f2, f3, f4⟩ := s2.lstAt h1
  have := some_inj2 e1 f1
  subst this
  refine ⟨a, ws, n, j, rfl, rfl, f2, by rw [dpAllLen f4]; exact hj, ?_⟩
  exact p.nx _ _ _ _ h (s2.setLst h1 f1 (dpAllSet (dpUp q2 x) j f4)) (q1.trans q2)
/-- an own list is looked at as data from here on -/
theorem Sim.frz {c : Cc} {F H : Hp} {σ : L2.St} (s : Sim c F H σ ρ) (h0 : ρ[i]? = some (.own (.lst ds))) (hP : ∀ (a : Addr), (i, a) ∉ c.P) (hW : ∀ a, c.W a → ∃ j, (j, a) ∈ c.P) : ∃ F', Same F F' ∧ Sim c F' H σ (ρ.set i (.dat (.list ds))) := by
  obtain ⟨a, vs, e1, e2, e3, e4⟩ := s.lstAt h0
  obtain ⟨fp, sf⟩ := id s
  obtain ⟨b, e1', e2', _⟩ := sf.own i _ h0
  have := some_inj2 e1 e1'
  subst this
  have m : a ∈ fp i := by rw [e2']; simp
  have hi : i < ρ.length := (List.getElem?_eq_some_iff.mp h0).1
  have hB : c.B a = none := by
    rcases (sf.ownF i _ a h0 m).2.2 with q | q
    · exact q
    · obtain ⟨j, hj⟩ := hW a q
      have := sf.wp i _ a h0 m j hj
      subst this
      exact absurd hj (hP a)
  have s1 : SimF c F H σ (ρ.set i .no) fp := by
    have o' : ∀ (j : Nat) (w : Ow), (ρ.set i .no)[j]? = some (.own w) → j ≠ i ∧ ρ[j]? = some (.own w) := fun j w q => by
      by_cases z : j = i
      · subst z; rw [List.getElem?_set_self hi] at q; cases q
      · rw [List.getElem?_set_ne (Ne.symm z)] at q; exact ⟨z, q⟩
    have d' : ∀ (j : Nat) (d : D), (ρ.set i .no)[j]? = some (.dat d) → ρ[j]? = some (.dat d) := fun j w q => by
      by_cases z : j = i
      · subst z; rw [List.getElem?_set_self hi] at q; cases q
      · rw [List.getElem?_set_ne (Ne.symm z)] at q; exact q
    exact ⟨sf.f0, sf.fh, sf.keep, sf.dom, sf.av, sf.par, fun j d q => sf.dat j d (d' j d q), fun j w q => sf.own j w (o' j w q).2, fun j w b q => sf.ownF j w b (o' j w q).2, fun j k w w' b q q' => sf.sep j k w w' b (o' j w q).2 (o' k w' q').2, by simpa using sf.len, fun j w b q => sf.wp j w b (o' j w q).2, sf.pb⟩
  have s2 := s1.freeze e2 hB (fun j w q m' => by
    by_cases z : j = i
    · subst z; rw [List.getElem?_set_self hi] at q; cases q
    · rw [List.getElem?_set_ne (Ne.symm z)] at q
      exact z (sf.sep j i w _ a q h0 m' m)) e3
  have e5 : Same F (upd F a (.lst vs)) := sameNew e3
  refine ⟨_, e5, ?_⟩
  have s3 : Sim c (upd F a (.lst vs)) H σ (ρ.set i .no) := ⟨fp, s2⟩
  have s4 := s3.setDat (i := i) (v := .ref a) (d := .list ds) (.lst (.inl (.inl upd_same)) (dpAllUp e5 e4)) (by simpa using hi) hP
  have e6 : σ.set i (some (.ref a)) = σ := by
    apply List.ext_getElem?
    intro n
    by_cases z : n = i
    · subst z
      rw [List.getElem?_set_self (by rw [sf.len]; exact hi), e1]
    · rw [List.getElem?_set_ne (Ne.symm z)]
  rw [e6, List.set_set] at s4
  exact s4
theorem sv_frz {ts : TS} (h0 : ρ[i]? = some (.own (.lst ds))) (h : Sv g ts (ρ.set i (.dat (.list ds))) P) (hp : i ∉ g.ps := by simp) : Sv g ts ρ P := fun c F H σ E k s p => by
  obtain ⟨F', e, s'⟩ := s.frz h0 (notP k hp) k.wp
  exact h c F' H σ E k s' (p.up e)
end

/-! ### what is walked -/
def WalkD (K : PySem.W.Frag) (F : Hp) (J : It) (n : Nat) (xs : Nat → D) : Prop := ∀ F2 H2, Same F F2 → Same F2 H2 →
  (∀ i, i < n → J.go i H2) ∧ J.stop n H2 ∧ ∀ i x H', i < n → J.yld i H2 x H' → ∃ F', Res K F2 H2 x (xs i) F' H'
def EvI (g : Gm) (wi : TI) (ρ : Rho) (n : Nat) (xs : Nat → D) (ρ' : Rho) : Prop := ∀ (c : Cc) (F H : Hp) (σ : L2.St), c.ok g → Sim c F H σ ρ → ∀ R : It → Hp → Prop, (∀ J F' H', Sim c F' H' σ ρ' → Same F F' → WalkD c.K F' J n xs → R J H') → wi σ H R
def nthD (ds : List D) (i : Nat) : D := ds.getD i .none
theorem nthD_at {ds : List D} {i : Nat} (h : i < ds.length) : ds[i]? = some (nthD ds i) := by
  unfold nthD
  rw [List.getD_eq_getElem?_getD, List.getElem?_eq_getElem h]
  rfl
section
variable {te : TE} {ta : TA} {ρ ρ1 ρ2 : Rho} {ds : List D}
theorem walk_lstD {F : Hp} {a : Addr} {vs : List V} (h : SqL K F a vs) (k : DxAll K F vs ds) : WalkD K F (Itl K a) ds.length (nthD ds) := fun F2 H2 e1 e2 => by
  have q : SqL K H2 a vs := slUp e2 (slUp e1 h)
  have hl := dpAllLen k
  refine ⟨fun i hi => ⟨vs, vs[i]'(by omega), q, by simp [show i < vs.length by omega]⟩, ⟨vs, q, by omega⟩, fun i x H' hi y => ?_⟩
  obtain ⟨rfl, y⟩ := y
  obtain ⟨v, h1, h2⟩ := dpAllGet k (nthD_at hi)
  have := y vs q
  rw [h1] at this
  cases this
  exact ⟨F2, .at (dpUp e1 h2)⟩
theorem walk_tupD {F : Hp} {a : Addr} {vs : List V} (h : SqT K F a vs) (k : DxAll K F vs ds) : WalkD K F (Itt K a) ds.length (nthD ds) := fun F2 H2 e1 e2 => by
  have q : SqT K H2 a vs := stUp e2 (stUp e1 h)
  have hl := dpAllLen k
  refine ⟨fun i hi => ⟨vs, vs[i]'(by omega), q, by simp [show i < vs.length by omega]⟩, ⟨vs, q, by omega⟩, fun i x H' hi y => ?_⟩
  obtain ⟨rfl, y⟩ := y
  obtain ⟨v, h1, h2⟩ := dpAllGet k (nthD_at hi)
  have := y vs q
  rw [h1] at this
  cases this
  exact ⟨F2, .at (dpUp e1 h2)⟩
theorem ei_list (h : EvD g te ρ (.list ds) ρ1) : EvI g (iList g.K te) ρ ds.length (nthD ds) ρ1 := fun c F H σ k s R q => h c F H σ k s _ fun v F1 H1 s1 e1 x => by
  have kk : c.K = g.K := k.1
  cases x with
  | lst hs ha =>
    rw [kk] at hs ha
    exact ⟨_, rfl, ⟨_, slUp s1.fh hs⟩, q _ F1 H1 s1 e1 (by rw [kk]; exact walk_lstD hs ha)⟩
theorem ei_tup (h : EvD g te ρ (.tuple ds) ρ1) : EvI g (iTup g.K te) ρ ds.length (nthD ds) ρ1 := fun c F H σ k s R q => h c F H σ k s _ fun v F1 H1 s1 e1 x => by
  have kk : c.K = g.K := k.1
  cases x with
  | tup hs ha =>
    rw [kk] at hs ha
    exact ⟨_, rfl, ⟨_, stUp s1.fh hs.old⟩, q _ F1 H1 s1 e1 (by rw [kk]; exact walk_tupD hs.old ha)⟩
theorem walk_rngD {F : Hp} {lo : Int} {n : Nat} : WalkD K F (Itr lo n) n (fun i => .int (lo + i)) := fun F2 H2 e1 e2 =>
  ⟨fun i hi => hi, Nat.le_refl _, fun i x H' hi ⟨e, q⟩ => by
    subst e q
    exact ⟨F2, .at (.int _)⟩⟩
theorem ei_rng1 {n : Int} {A : Arg} (h : EvA g ta ρ [A] ρ1) (hA : A = .d (.int n)) (hb : -(2 ^ 62) ≤ n ∧ n < 2 ^ 62) : EvI g (iRng1 ta) ρ n.toNat (fun i => .int (0 + i)) ρ1 := fun c F H σ k s R q => h c F H σ k s _ fun vs F1 H1 s1 e1 x => by
  subst hA
  cases x with
  | cons a t =>
    cases t
    cases a with
    | d a =>
      cases a
      exact ⟨n, rfl, hb.1, hb.2, q _ F1 H1 s1 e1 walk_rngD⟩
theorem ei_rng2 {m n : Int} {A B : Arg} (h : EvA g ta ρ [A, B] ρ1) (hA : A = .d (.int m)) (hB : B = .d (.int n)) (hb : (-(2 ^ 62) ≤ m ∧ m < 2 ^ 62) ∧ -(2 ^ 62) ≤ n ∧ n < 2 ^ 62) : EvI g (iRng2 ta) ρ (n - m).toNat (fun i => .int (m + i)) ρ1 := fun c F H σ k s R q => h c F H σ k s _ fun vs F1 H1 s1 e1 x => by
  subst hA hB
  cases x with
  | cons a t =>
    cases t with
    | cons b t =>
      cases t
      cases a with
      | d a =>
        cases a
        cases b with
        | d b =>
          cases b
          exact ⟨m, n, rfl, ⟨hb.1.1, hb.1.2, hb.2.1, hb.2.2⟩, q _ F1 H1 s1 e1 walk_rngD⟩
end

/-! ### targets -/
def Tg (g : Gm) (t : TG) (d : D) (ρ ρ' : Rho) : Prop := ∀ (c : Cc) (F H : Hp) (σ : L2.St) (v : V), (∀ i, i ∉ g.ps → ∀ a, (i, a) ∉ c.P) → c.K = g.K → Sim c F H σ ρ → Dx c.K F v d → ∀ Q : L2.St → Hp → Prop, (∀ σ', Sim c F H σ' ρ' → Q σ' H) → t v σ H Q
theorem tg_name {ρ : Rho} {d : D} {i : Nat} (hi : i < ρ.length := by simp) (hp : i ∉ g.ps := by simp) : Tg g (gName i) d ρ (ρ.set i (.dat d)) := fun c F H σ v hP _ s x Q q => q _ (s.setDat x hi (hP i hp))
def Tgs (g : Gm) (t : TGs) (ds : List D) (ρ ρ' : Rho) : Prop := ∀ (c : Cc) (F H : Hp) (σ : L2.St) (vs : List V), (∀ i, i ∉ g.ps → ∀ a, (i, a) ∉ c.P) → c.K = g.K → Sim c F H σ ρ → DxAll c.K F vs ds → ∀ Q : L2.St → Hp → Prop, (∀ σ', Sim c F H σ' ρ' → Q σ' H) → t vs σ H Q
theorem tgs_nil {ρ : Rho} : Tgs g gNil [] ρ ρ := fun c F H σ vs hP _ s x Q q => by
  cases x
  exact ⟨rfl, q σ s⟩
theorem tgs_cons {t : TG} {u : TGs} {ρ ρ1 ρ2 : Rho} {d : D} {ds : List D} (h : Tg g t d ρ ρ1) (h2 : Tgs g u ds ρ1 ρ2) : Tgs g (gCons t u) (d :: ds) ρ ρ2 := fun c F H σ vs hP kk s x Q q => by
  cases x with
  | cons a b => exact ⟨_, _, rfl, h c F H σ _ hP kk s a _ fun σ' s' => h2 c F H σ' _ hP kk s' b Q q⟩
theorem tg_tup {n : Nat} {t : TGs} {ρ ρ1 : Rho} {ds : List D} (h : Tgs g t ds ρ ρ1) (hl : ds.length = n := by rfl) : Tg g (gTup g.K n t) (.tuple ds) ρ ρ1 := fun c F H σ v hP kk s x Q q => by
  cases x with
  | tup hs ha =>
    rw [kk] at hs
    exact ⟨_, _, rfl, stUp s.fh hs.old, by rw [dpAllLen ha]; exact hl, h c F H σ _ hP kk s ha Q q⟩
/-- a target, a whole assignment -/
theorem sv_asgT {te : TE} {t : TG} {ρ ρ1 ρ2 : Rho} {d : D} {P : Out → Prop} (he : EvD g te ρ d ρ1) (ht : Tg g t d ρ1 ρ2) (h : P (.nx ρ2)) : Sv g (tAsg te t) ρ P := fun c F H σ E k s p =>
  he c F H σ k.ok s _ fun v F1 H1 s1 e1 x => ht c F1 H1 σ v (fun i hi => notP k hi) k.ok.1 s1 x _ fun σ' s' => p.nx _ _ _ _ h s' e1

/-! ### for -/
/-- what a turn's end means: I the turns' invariant -/
def Turn (I : Nat → Rho → Prop) (P : Out → Prop) (i : Nat) : Out → Prop
  | .nx ρ => I (i + 1) ρ
  | .ct ρ => I (i + 1) ρ
  | .bk ρ => P (.nx ρ)
  | .rt ρ r => P (.rt ρ r)
  | .ex C ρ => P (.ex C ρ)
theorem sv_for {wi : TI} {t : TG} {tb : TS} {ρ ρ1 : Rho} {n : Nat} {xs : Nat → D} {P : Out → Prop} (I : Nat → Rho → Prop) (hi : EvI g wi ρ n xs ρ1) (h0 : I 0 ρ1)
    (hs : ∀ i ρ', i < n → I i ρ' → ∃ ρ2, Tg g t (xs i) ρ' ρ2 ∧ Sv g tb ρ2 (Turn I P i)) (hd : ∀ ρ', I n ρ' → P (.nx ρ')) : Sv g (tFor wi t tb) ρ P := fun c F H σ E k s p => by
  refine hi c F H σ k.ok s _ fun J F1 H1 s1 e1 w => ?_
  refine ⟨fun i m σ' H' => m = n - i ∧ i ≤ n ∧ ∃ F' ρ', Same F1 F' ∧ I i ρ' ∧ Sim c F' H' σ' ρ', ⟨n, by omega, by omega, F1, ρ1, Same.refl _, h0, s1⟩, ?_⟩
  rintro i m σ' H' ⟨rfl, hi, F', ρ', e', q, s'⟩
  obtain ⟨w1, w2, w3⟩ := w F' H' e' s'.fh
  by_cases hlt : i < n
  · refine .inr ⟨w1 i hlt, fun σ'' H'' => ∃ F'' ρ'', Same F1 F'' ∧ I (i + 1) ρ'' ∧ Sim c F'' H'' σ'' ρ'', fun σ'' H'' ⟨F'', ρ'', a, b, d⟩ => ⟨n - (i + 1), by omega, rfl, by omega, F'', ρ'', a, b, d⟩, fun x H2 y => ?_⟩
    obtain ⟨F2, rs⟩ := w3 i x H2 hlt y
    obtain ⟨s2, e2, x2⟩ := rs.sim s'
    obtain ⟨ρ2, ht, hb⟩ := hs i ρ' hlt q
    refine ht c F2 H2 σ' x (fun i hi => notP k hi) k.ok.1 s2 x2 _ fun σ3 s3 => ?_
    refine hb c F2 H2 σ3 _ k s3 ⟨fun ρ4 F4 H4 σ4 a b d => ⟨F4, ρ4, (e'.trans e2).trans d, a, b⟩, fun ρ4 F4 H4 σ4 v r a b d z => p.rt _ _ _ _ _ _ a b (((e1.trans e').trans e2).trans d) z, fun ρ4 F4 H4 σ4 a b d => p.nx _ _ _ _ a b (((e1.trans e').trans e2).trans d), fun ρ4 F4 H4 σ4 a b d => ⟨F4, ρ4, (e'.trans e2).trans d, a, b⟩, fun ρ4 F4 H4 σ4 C a b d => p.ex _ _ _ _ _ a b (((e1.trans e').trans e2).trans d)⟩
  · have e : i = n := by omega
    subst e
    exact .inl ⟨w2, p.nx _ _ _ _ (hd ρ' q) s' (e1.trans e')⟩
/-- while -/
theorem sv_while {tc : TT} {tb : TS} {ρ : Rho} {P : Out → Prop} (I : Nat → Rho → Prop) (m0 : Nat) (h0 : I m0 ρ)
    (hs : ∀ m ρ', I m ρ' → ∃ b ρ2, EvT g tc ρ' b ρ2 ∧ (b = true → Sv g tb ρ2 fun o => match o with
      | .nx ρ => ∃ m', m' < m ∧ I m' ρ
      | .ct ρ => ∃ m', m' < m ∧ I m' ρ
      | .bk ρ => P (.nx ρ)
      | .rt ρ r => P (.rt ρ r)
      | .ex C ρ => P (.ex C ρ)) ∧ (b = false → P (.nx ρ2))) : Sv g (tWhile tc tb) ρ P := fun c F H σ E k s p => by
  refine ⟨fun m σ' H' => ∃ F' ρ', Same F F' ∧ I m ρ' ∧ Sim c F' H' σ' ρ', ⟨m0, F, ρ, Same.refl _, h0, s⟩, ?_⟩
  rintro m σ' H' ⟨F', ρ', e', q, s'⟩
  obtain ⟨b, ρ2, h1, h2, h3⟩ := hs m ρ' q
  refine h1 c F' H' σ' k.ok s' _ fun F2 H2 s2 e2 => ?_
  cases b with
  | true =>
    rw [if_pos rfl]
    refine ⟨fun σ'' H'' => ∃ m', m' < m ∧ ∃ F'' ρ'', Same F F'' ∧ I m' ρ'' ∧ Sim c F'' H'' σ'' ρ'', fun σ'' H'' ⟨m', hm, z⟩ => ⟨m', hm, z⟩, ?_⟩
    refine h2 rfl c F2 H2 σ' _ k s2 ⟨fun ρ4 F4 H4 σ4 ⟨m', hm, a⟩ b d => ⟨m', hm, F4, ρ4, (e'.trans e2).trans d, a, b⟩, fun ρ4 F4 H4 σ4 v r a b d z => p.rt _ _ _ _ _ _ a b ((e'.trans e2).trans d) z, fun ρ4 F4 H4 σ4 a b d => p.nx _ _ _ _ a b ((e'.trans e2).trans d), fun ρ4 F4 H4 σ4 ⟨m', hm, a⟩ b d => ⟨m', hm, F4, ρ4, (e'.trans e2).trans d, a, b⟩, fun ρ4 F4 H4 σ4 C a b d => p.ex _ _ _ _ _ a b ((e'.trans e2).trans d)⟩
  | false =>
    rw [if_neg (by decide)]
    exact p.nx _ _ _ _ (h3 rfl) s2 (e'.trans e2)
end DL

namespace DL
open PySem PySem.Spec PyProof.Rows L2
variable {K : PySem.W.Frag} {g : Gm}

/-! ### another base -/
def Cc.re (c : Cc) (F H : Hp) (W : Addr → Prop) : Cc := { c with F0 := F, B := H, W := W }
def ownW (ρ : Rho) (fp : Nat → List Addr) : Addr → Prop := fun b => ∃ (i : Nat) (w : Ow), ρ[i]? = some (.own w) ∧ b ∈ fp i
section
variable {c : Cc} {F F' H H' : Hp} {σ σ' : L2.St} {ρ ρ' : Rho} {fp fp' : Nat → List Addr}
theorem SimF.re (s : SimF c F H σ ρ fp) : SimF (c.re F H (ownW ρ fp)) F H σ ρ fp :=
  ⟨Same.refl _, s.fh, fun a o q _ => q, fun a q => q, fun a _ q => q, s.par, s.dat, s.own, fun i w b q m => ⟨(s.ownF i w b q m).1, (s.ownF i w b q m).2.1, .inr ⟨i, w, q, m⟩⟩, s.sep, s.len, s.wp, fun j b m => s.dom b (s.pb j b m)⟩
/-- back to the base of before: what was not own then stands -/
theorem SimF.un (s : SimF c F H σ ρ fp) (t : SimF (c.re F H (ownW ρ fp)) F' H' σ' ρ' fp') : SimF c F' H' σ' ρ' fp' :=
  ⟨s.f0.trans t.f0, t.fh, fun a o q w => t.keep a o (s.keep a o q w) fun ⟨i, w', e, m⟩ => by
      rcases (s.ownF i w' a e m).2.2 with z | z
      · rw [z] at q; cases q
      · exact w z, fun a q => t.dom a (s.dom a q), fun a q z => t.av a (s.dom a q) (s.av a q z), t.par, t.dat, t.own, fun i w b q m => by
      obtain ⟨h1, h2, h3⟩ := t.ownF i w b q m
      refine ⟨h1, h2, ?_⟩
      rcases h3 with z | ⟨j, w', e, m'⟩
      · refine .inl ?_
        cases e : c.B b with
        | none => rfl
        | some o => exact absurd z (s.dom b (by simp [e]))
      · exact (s.ownF j w' b e m').2.2, t.sep, t.len, t.wp, s.pb⟩
/-- an object that is nobody's changes -/
theorem SimF.other (s : SimF c F H σ ρ fp) {p : Addr} {o : HO} (hF : F p = none) (hB : c.B p = none) (no : ∀ (i : Nat) (w : Ow), ρ[i]? = some (.own w) → p ∉ fp i) : SimF c F (upd H p o) σ ρ fp := by
  have ne : ∀ (i : Nat) (w : Ow) b, ρ[i]? = some (.own w) → b ∈ fp i → b ≠ p := fun i w b q m z => no i w q (z ▸ m)
  refine ⟨s.f0, sameUpd s.fh hF, fun a u q w => ?_, fun a q => ?_, s.av, s.par, s.dat, fun i w q => ?_, fun i w b q m => ?_, s.sep, s.len, s.wp, s.pb⟩
  · have z : a ≠ p := fun z => by rw [z, hB] at q; cases q
    rw [upd_ne z]
    exact s.keep a u q w
  · by_cases z : a = p
    · rw [z, upd_same]; simp
    · rw [upd_ne z]; exact s.dom a q
  · obtain ⟨a, h1, h2⟩ := s.own i w q
    exact ⟨a, h1, h2.up (Same.refl _) fun b m => upd_ne (ne i w b q m)⟩
  · obtain ⟨h1, h2, h3⟩ := s.ownF i w b q m
    exact ⟨h1, by rw [upd_ne (ne i w b q m)]; exact h2, h3⟩
/-- other slots, other entries, at vs -/
theorem SimF.slots (s : SimF c F H σ ρ fp) (vs : List Nat) (h1 : ∀ i : Nat, i ∉ vs → σ'[i]? = σ[i]?) (h2 : ∀ i : Nat, i ∈ vs → ∀ e : Ent, ρ'[i]? = some e → e = .no) (h3 : ∀ i : Nat, i ∉ vs → ρ'[i]? = ρ[i]?) (hP : ∀ i a, (i, a) ∈ c.P → i ∉ vs) (hl : σ'.length = ρ'.length) :
    SimF c F H σ' ρ' fp := by
  have o' : ∀ (j : Nat) (w : Ow), ρ'[j]? = some (.own w) → j ∉ vs ∧ ρ[j]? = some (.own w) := fun j w q => by
    by_cases m : j ∈ vs
    · cases h2 j m _ q
    · rw [h3 j m] at q; exact ⟨m, q⟩
  refine ⟨s.f0, s.fh, s.keep, s.dom, s.av, fun i a m => by rw [h1 i (hP i a m)]; exact s.par i a m, fun j d q => ?_, fun j w q => ?_, fun j w b q => s.ownF j w b (o' j w q).2, fun j k w w' b q q' => s.sep j k w w' b (o' j w q).2 (o' k w' q').2, hl, fun j w b q => s.wp j w b (o' j w q).2, s.pb⟩
  · by_cases m : j ∈ vs
    · cases h2 j m _ q
    · rw [h3 j m] at q
      rw [h1 j m]
      exact s.dat j d q
  · obtain ⟨m, q'⟩ := o' j w q
    rw [h1 j m]
    exact s.own j w q'
end
theorem wipe_at {σ : L2.St} : ∀ {vs : List Nat} {i : Nat}, i ∉ vs → (wipe σ vs)[i]? = σ[i]?
  | [], _, _ => rfl
  | v :: vs, i, h => by
    unfold wipe
    rw [List.getElem?_set_ne (fun z : v = i => h (by rw [← z]; exact List.mem_cons_self))]
    exact wipe_at fun m => h (List.mem_cons_of_mem _ m)
theorem wipe_in {σ : L2.St} : ∀ {vs : List Nat} {i : Nat}, i ∈ vs → i < σ.length → (wipe σ vs)[i]? = some none
  | v :: vs, i, h, hi => by
    unfold wipe
    by_cases z : i = v
    · subst z
      rw [List.getElem?_set_self (by rw [wipe_length]; exact hi)]
    · rw [List.getElem?_set_ne (Ne.symm z)]
      exact wipe_in ((List.mem_cons.mp h).resolve_left z) hi
theorem wipe_ext {σ σ' : L2.St} {vs : List Nat} (hl : σ'.length = σ.length) (h : ∀ i : Nat, i ∉ vs → σ'[i]? = σ[i]?) : wipe σ' vs = wipe σ vs := by
  apply List.ext_getElem?
  intro i
  by_cases m : i ∈ vs
  · by_cases hi : i < σ.length
    · rw [wipe_in m hi, wipe_in m (by omega)]
    · rw [List.getElem?_eq_none (by rw [wipe_length]; omega), List.getElem?_eq_none (by rw [wipe_length]; omega)]
  · rw [wipe_at m, wipe_at m, h i m]

/-! ### comprehensions -/
def Back (vs : List Nat) (ρ ρ' : Rho) : Prop := ρ'.length = ρ.length ∧ (∀ i : Nat, i ∈ vs → ∀ e : Ent, ρ'[i]? = some e → e = .no) ∧ ∀ i : Nat, i ∉ vs → ρ'[i]? = ρ[i]?
def TgC (g : Gm) (t : TG) (vs : List Nat) (d : D) (ρ ρ' : Rho) : Prop := ∀ (c : Cc) (F H : Hp) (σ : L2.St) (v : V), (∀ i, i ∉ g.ps → ∀ a, (i, a) ∉ c.P) → c.K = g.K → Sim c F H σ ρ → Dx c.K F v d → ∀ Q : L2.St → Hp → Prop,
  (∀ σ', Sim c F H σ' ρ' → σ'.length = σ.length → (∀ i : Nat, i ∉ vs → σ'[i]? = σ[i]?) → Q σ' H) → t v σ H Q
theorem tgc_name {ρ : Rho} {d : D} {j : Nat} {vs : List Nat} (hi : j < ρ.length := by simp) (hp : j ∉ g.ps := by simp) (hm : j ∈ vs := by simp) : TgC g (gName j) vs d ρ (ρ.set j (.dat d)) := fun c F H σ v hP _ s x Q q =>
  q _ (s.setDat x hi (hP j hp)) (by simp) fun i m => by rw [List.getElem?_set_ne (fun z : j = i => m (by rw [← z]; exact hm))]
theorem en_lc {wi : TI} {t : TG} {tt : TT} {te : TE} {vs : List Nat} {ρ ρ1 : Rho} {n : Nat} {xs : Nat → D} (hi : EvI g wi ρ n xs ρ1) (E : Nat → Rho) (bs : Nat → Bool) (ds : Nat → D) (h0 : E 0 = ρ1) (hz : n < sizeLine) (hv : ∀ i, i ∈ vs → i ∉ g.ps)
    (hE : ∀ i, i ≤ n → ∀ j : Nat, j ∈ vs → ∀ e : Ent, (E i)[j]? = some e → e = .no)
    (hs : ∀ i, i < n → ∃ ρ2 ρ3, TgC g t vs (xs i) (E i) ρ2 ∧ EvT g tt ρ2 (bs i) ρ3 ∧ (bs i = true → ∃ ρ4, EvD g te ρ3 (ds i) ρ4 ∧ Back vs ρ4 (E (i + 1))) ∧ (bs i = false → Back vs ρ3 (E (i + 1)))) :
    EvN g (tLc wi t tt te vs) ρ (((List.range n).filter bs).map ds) (E n) := fun c F H σ k s Q q => by
  refine hi c F H σ k s _ fun J F1 H1 s1 e1 w Dl hD => ?_
  subst h0
  have hBD : c.B Dl = none := by
    obtain ⟨fp, sf⟩ := id s1
    cases z : c.B Dl with
    | none => rfl
    | some u => exact absurd hD (sf.dom Dl (by simp [z]))
  have hP : ∀ i a, (i, a) ∈ c.P → i ∉ vs := fun i a m m' => hv i m' (by rw [← k.2]; exact List.mem_map.mpr ⟨(i, a), m, rfl⟩)
  have hP' : ∀ i, i ∉ g.ps → ∀ a, (i, a) ∉ c.P := fun i m a m' => m (by rw [← k.2]; exact List.mem_map.mpr ⟨(i, a), m', rfl⟩)
  have kk : c.K = g.K := k.1
  let out : Nat → List D := fun i => ((List.range i).filter bs).map ds
  have olen : ∀ i, (out i).length ≤ i := fun i => by
    have := List.length_filter_le bs (List.range i)
    simp only [out, List.length_map]
    rw [List.length_range] at this
    exact this
  refine ⟨fun i m H' => m = n - i ∧ i ≤ n ∧ ∃ F' fp acc, Same F1 F' ∧ SimF c F' H' σ (E i) fp ∧ H' Dl = some (.lst acc) ∧ F' Dl = none ∧ (∀ (j : Nat) (w : Ow), (E i)[j]? = some (.own w) → Dl ∉ fp j) ∧ DxAll c.K F' acc (out i), ⟨n, by omega, by omega, ?_⟩, ?_⟩
  · obtain ⟨fp, sf⟩ := s1
    have fD := freeF sf.fh hD
    have no : ∀ (j : Nat) (w : Ow), (E 0)[j]? = some (.own w) → Dl ∉ fp j := fun j w q m => (sf.ownF j w Dl q m).2.1 hD
    exact ⟨F1, fp, [], Same.refl _, sf.other fD hBD no, upd_same, fD, no, .nil⟩
  · rintro i m H2 ⟨rfl, hin, F2, fp2, acc, e2, s2, hD2, fD2, no2, ha2⟩
    obtain ⟨w1, w2, w3⟩ := w F2 H2 e2 s2.fh
    by_cases hlt : i < n
    · refine .inr ⟨w1 i hlt, fun H' => ∃ F' fp acc, Same F1 F' ∧ SimF c F' H' σ (E (i + 1)) fp ∧ H' Dl = some (.lst acc) ∧ F' Dl = none ∧ (∀ (j : Nat) (w : Ow), (E (i + 1))[j]? = some (.own w) → Dl ∉ fp j) ∧ DxAll c.K F' acc (out (i + 1)), fun H' z => ⟨n - (i + 1), by omega, rfl, by omega, z⟩, fun x H3 y => ?_⟩
      obtain ⟨F3, rs⟩ := w3 i x H3 hlt y
      -- the turn is told over the heap as it stands
      let c2 := c.re F2 H2 (ownW (E i) fp2)
      have k2 : c2.ok g := k
      have sr : Sim c2 F2 H2 σ (E i) := ⟨fp2, s2.re⟩
      obtain ⟨s3, e3, x3⟩ := rs.sim (c := c2) sr
      have sw : Sim c2 F3 H3 (wipe σ vs) (E i) := by
        obtain ⟨fp3, s3⟩ := s3
        exact ⟨fp3, s3.slots vs (fun j m => wipe_at m) (fun j m e q => hE i (by omega) j m e q) (fun _ _ => rfl) hP (by rw [wipe_length]; exact s3.len)⟩
      obtain ⟨ρ2, ρ3, ht, htt, hte, hno⟩ := hs i hlt
      -- what stands behind a turn
      have fin : ∀ (F5 H5 : Hp) (σ2 : L2.St) (ρ5 : Rho), Sim c2 F5 H5 σ2 ρ5 → Same F2 F5 → σ2.length = σ.length → (∀ j : Nat, j ∉ vs → σ2[j]? = σ[j]?) → Back vs ρ5 (E (i + 1)) → ∃ fp5, SimF c F5 H5 σ (E (i + 1)) fp5 ∧ H5 Dl = some (.lst acc) ∧ F5 Dl = none ∧ ∀ (j : Nat) (w : Ow), (E (i + 1))[j]? = some (.own w) → Dl ∉ fp5 j := fun F5 H5 σ2 ρ5 s5 e5 h3 hσ hb => by
        obtain ⟨fp5, s5⟩ := s5
        have nW : ¬ ownW (E i) fp2 Dl := fun ⟨j, w, q, m⟩ => no2 j w q m
        have hl : σ.length = (E (i + 1)).length := by
          have h1 := s5.len
          have h2 := hb.1
          omega
        have t := s2.un s5
        refine ⟨fp5, t.slots vs (fun j m => (hσ j m).symm) hb.2.1 hb.2.2 hP hl, s5.keep Dl _ hD2 nW, s5.av Dl (by show H2 Dl ≠ none; rw [hD2]; simp) fD2, fun j w q m => ?_⟩
        have q5 : ρ5[j]? = some (.own w) := by
          by_cases mm : j ∈ vs
          · cases hb.2.1 j mm _ q
          · rw [hb.2.2 j mm] at q; exact q
        rcases (s5.ownF j w Dl q5 m).2.2 with z | z
        · rw [show c2.B Dl = H2 Dl from rfl, hD2] at z; cases z
        · exact nW z
      refine ht c2 F3 H3 (wipe σ vs) x hP' kk sw x3 _ fun σ2 sg hlen hσ2 => ?_
      have hσ : ∀ j : Nat, j ∉ vs → σ2[j]? = σ[j]? := fun j m => (hσ2 j m).trans (wipe_at m)
      refine ⟨wipe_ext (by rw [hlen, wipe_length]) hσ, htt c2 F3 H3 σ2 k2 sg _ fun F4 H4 s4 e4 => ?_⟩
      cases hb : bs i with
      | true =>
        rw [if_pos rfl]
        obtain ⟨ρ4, he, hback⟩ := hte hb
        refine he c2 F4 H4 σ2 k2 s4 _ fun v F5 H5 s5 e5 x5 => ?_
        have e25 : Same F2 F5 := (e3.trans e4).trans e5
        obtain ⟨fp5, t5, hD5, fD5, no5⟩ := fin F5 H5 σ2 ρ4 s5 e25 (hlen.trans (wipe_length _ _)) hσ hback
        have hlen2 : acc.length ≤ i := by rw [dpAllLen ha2]; exact olen i
        refine ⟨acc, hD5, by omega, F5, fp5, acc ++ [v], e2.trans e25, t5.other fD5 hBD no5, upd_same, fD5, no5, ?_⟩
        have : out (i + 1) = out i ++ [ds i] := by
          simp only [out]
          rw [List.range_succ, List.filter_append, List.map_append, List.filter_cons, if_pos hb]
          rfl
        rw [this]
        exact dpAllApp (dpAllUp e25 ha2) (.cons x5 .nil)
      | false =>
        rw [if_neg (by decide)]
        have e24 : Same F2 F4 := e3.trans e4
        obtain ⟨fp5, t5, hD5, fD5, no5⟩ := fin F4 H4 σ2 ρ3 s4 e24 (hlen.trans (wipe_length _ _)) hσ (hno hb)
        have : out (i + 1) = out i := by
          simp only [out]
          rw [List.range_succ, List.filter_append, List.map_append, List.filter_cons, if_neg (by rw [hb]; decide)]
          simp
        exact ⟨F4, fp5, acc, e2.trans e24, t5, hD5, fD5, no5, by rw [this]; exact dpAllUp e24 ha2⟩
    · have e : i = n := by omega
      subst e
      refine .inl ⟨w2, ?_⟩
      -- the list, as if it were just made
      let Hb : Hp := fun a => if a = Dl then none else H2 a
      have eH : H2 = upd Hb Dl (.lst acc) := by
        funext a
        by_cases z : a = Dl
        · subst z; rw [upd_same, hD2]
        · rw [upd_ne z]; simp [Hb, z]
      have sb : SimF c F2 Hb σ (E i) fp2 := by
        have at' : ∀ a, a ≠ Dl → Hb a = H2 a := fun a z => by simp [Hb, z]
        refine ⟨s2.f0, fun a o z => ?_, fun a o z w' => ?_, fun a z => ?_, s2.av, s2.par, s2.dat, fun j w' z => ?_, fun j w' b z m => ?_, s2.sep, s2.len, s2.wp, s2.pb⟩
        · have : a ≠ Dl := fun z' => by rw [z', fD2] at z; cases z
          rw [at' a this]
          exact s2.fh a o z
        · have : a ≠ Dl := fun z' => by rw [z', hBD] at z; cases z
          rw [at' a this]
          exact s2.keep a o z w'
        · have : a ≠ Dl := fun z' => by rw [z', hBD] at z; exact z rfl
          rw [at' a this]
          exact s2.dom a z
        · obtain ⟨a, h1, h2⟩ := s2.own j w' z
          exact ⟨a, h1, h2.up (Same.refl _) fun b m => at' b fun z' => no2 j w' z (z' ▸ m)⟩
        · obtain ⟨h1, h2, h3⟩ := s2.ownF j w' b z m
          exact ⟨h1, by rw [at' b fun z' => no2 j w' z (z' ▸ m)]; exact h2, h3⟩
      rw [eH]
      exact q Dl acc F2 Hb ⟨fp2, sb⟩ (e1.trans e2) (by simp [Hb]) ha2
end DL

namespace DL
open PySem PySem.Spec PyProof.Rows L2
variable {K : PySem.W.Frag} {g : Gm}

/-! ### promises -/
def noW : Addr → Prop := fun _ => False
/-- a def that is given data -/
def spD (R : List D → RetV → Prop) (K : PySem.W.Frag) : Sp := fun vs H Q _ => ∃ F ds r, Same F H ∧ DxAll K F vs ds ∧ R ds r ∧
  ∀ v F' H', Sim ⟨K, [], noW, F, H⟩ F' H' [] [] → RetOk ⟨K, [], noW, F, H⟩ F' H' v r → Q v H'
/-- .. and ahead of it a list that it may change -/
def spS (R : List D → List D → RetV → List D → Prop) (K : PySem.W.Frag) : Sp := fun vs H Q _ => ∃ F a ws us st ds r st', vs = .ref a :: us ∧ Same F H ∧ H a = some (.lst ws) ∧ F a = none ∧ DxAll K F ws st ∧ DxAll K F us ds ∧ R st ds r st' ∧
  ∀ v F' H', Sim ⟨K, [(0, a)], (· = a), F, H⟩ F' H' [some (.ref a)] [.own (.lst st')] → RetOk ⟨K, [(0, a)], (· = a), F, H⟩ F' H' v r → Q v H'

section
variable {c : Cc} {F F' H H' : Hp} {σ : L2.St} {ρ ρ' : Rho} {fp : Nat → List Addr}
theorem Sim.cut (s : Sim c F H σ ρ) (hP : c.P = []) : Sim c F H [] [] := by
  obtain ⟨fp, s⟩ := s
  exact ⟨fp, s.f0, s.fh, s.keep, s.dom, s.av, fun i a m => (by rw [hP] at m; cases m), fun i d q => (by simp at q), fun i w q => (by simp at q), fun i w b q => (by simp at q), fun i j w w' b q => (by simp at q), rfl, fun i w b q => (by simp at q), fun j b m => (by rw [hP] at m; cases m)⟩
/-- behind a call: the caller's own things are as they were -/
theorem SimF.after (s : SimF c F H σ ρ fp) (t : Sim ⟨c.K, [], noW, F, H⟩ F' H' [] []) : SimF c F' H' σ ρ fp := by
  obtain ⟨fp', t⟩ := t
  have kp : ∀ (i : Nat) (w : Ow) b, ρ[i]? = some (.own w) → b ∈ fp i → H' b = H b := fun i w b q m => by
    cases z : H b with
    | none => exact absurd z (s.ownF i w b q m).2.1
    | some o => rw [t.keep b o z id]
  refine ⟨s.f0.trans t.f0, t.fh, fun a o q w => t.keep a o (s.keep a o q w) id, fun a q => t.dom a (s.dom a q), fun a q z => t.av a (s.dom a q) (s.av a q z), s.par, fun i d q => ?_, fun i w q => ?_, fun i w b q m => ?_, s.sep, s.len, s.wp, s.pb⟩
  · obtain ⟨v, h1, h2⟩ := s.dat i d q
    exact ⟨v, h1, dpUp t.f0 h2⟩
  · obtain ⟨a, h1, h2⟩ := s.own i w q
    exact ⟨a, h1, h2.up t.f0 fun b m => kp i w b q m⟩
  · obtain ⟨h1, h2, h3⟩ := s.ownF i w b q m
    exact ⟨t.av b h2 h1, by rw [kp i w b q m]; exact h2, h3⟩
/-- .. but the one at i -/
theorem SimF.afterS (s : SimF c F H σ ρ fp) {i : Nat} {a : Addr} {st st' : List D} (he : ρ[i]? = some (.own (.lst st))) (hσ : σ[i]? = some (some (.ref a))) (t : Sim ⟨c.K, [(0, a)], (· = a), F, H⟩ F' H' [some (.ref a)] [.own (.lst st')]) :
    SimF c F' H' σ (ρ.set i (.own (.lst st'))) fp := by
  obtain ⟨fp', t⟩ := t
  have hi : i < ρ.length := (List.getElem?_eq_some_iff.mp he).1
  obtain ⟨a', e1, e2, vs, e3, e4⟩ := s.own i _ he
  have := some_inj2 e1 hσ
  subst this
  have m0 : a' ∈ fp i := by rw [e2]; simp
  have ne : ∀ (j : Nat) (w : Ow) b, ρ[j]? = some (.own w) → b ∈ fp j → j ≠ i → b ≠ a' := fun j w b q m z e => by
    subst e
    exact z (s.sep j i w _ b q he m m0)
  have kp : ∀ (j : Nat) (w : Ow) b, ρ[j]? = some (.own w) → b ∈ fp j → j ≠ i → H' b = H b := fun j w b q m z => by
    cases y : H b with
    | none => exact absurd y (s.ownF j w b q m).2.1
    | some o => rw [t.keep b o y (ne j w b q m z)]
  obtain ⟨a2, f1, f2, ws, f3, f4⟩ := t.own 0 _ rfl
  have : a2 = a' := by
    have q : some (some (V.ref a')) = some (some (V.ref a2)) := f1
    cases q
    rfl
  subst this
  have own' : ∀ (j : Nat) (w' : Ow), (ρ.set i (.own (.lst st')))[j]? = some (.own w') → (j = i ∧ w' = .lst st') ∨ (j ≠ i ∧ ρ[j]? = some (.own w')) := fun j w' q => by
    by_cases z : j = i
    · subst z
      rw [List.getElem?_set_self hi] at q
      cases q
      exact .inl ⟨rfl, rfl⟩
    · rw [List.getElem?_set_ne (Ne.symm z)] at q
      exact .inr ⟨z, q⟩
  have old : ∀ (j : Nat) (w' : Ow), (ρ.set i (.own (.lst st')))[j]? = some (.own w') → ∃ w0, ρ[j]? = some (.own w0) := fun j w' q => by
    rcases own' j w' q with ⟨rfl, _⟩ | ⟨_, q⟩
    · exact ⟨_, he⟩
    · exact ⟨_, q⟩
  refine ⟨s.f0.trans t.f0, t.fh, fun b o q w => ?_, fun b q => t.dom b (s.dom b q), fun b q z => t.av b (s.dom b q) (s.av b q z), s.par, fun j d q => ?_, fun j w q => ?_, fun j w b q m => ?_, fun j k w w' b q q' m m' => ?_, by simpa using s.len, fun j w b q m => ?_, s.pb⟩
  · refine t.keep b o (s.keep b o q w) fun z => ?_
    have z : b = a2 := z
    subst z
    rcases (s.ownF i _ b he m0).2.2 with y | y
    · rw [y] at q; cases q
    · exact w y
  · by_cases z : j = i
    · subst z; rw [List.getElem?_set_self hi] at q; cases q
    · rw [List.getElem?_set_ne (Ne.symm z)] at q
      obtain ⟨v, h1, h2⟩ := s.dat j d q
      exact ⟨v, h1, dpUp t.f0 h2⟩
  · rcases own' j w q with ⟨rfl, rfl⟩ | ⟨z, q⟩
    · exact ⟨a2, e1, e2, ws, f3, f4⟩
    · obtain ⟨b, h1, h2⟩ := s.own j w q
      exact ⟨b, h1, h2.up t.f0 fun x m => kp j w x q m z⟩
  · obtain ⟨w0, q0⟩ := old j w q
    obtain ⟨h1, h2, h3⟩ := s.ownF j w0 b q0 m
    exact ⟨t.av b h2 h1, t.dom b h2, h3⟩
  · obtain ⟨w0, q0⟩ := old j w q
    obtain ⟨w1, q1⟩ := old k w' q'
    exact s.sep j k w0 w1 b q0 q1 m m'
  · obtain ⟨w0, q0⟩ := old j w q
    exact s.wp j w0 b q0 m
end

/-! ### values that are new things of one's own -/
def NewAt (c : Cc) (F H : Hp) (σ : L2.St) (ρ : Rho) (a : Addr) (w : Ow) : Prop := ∃ f fp, SimF c F H σ ρ fp ∧ OwRep c.K F H a f w ∧ (∀ b ∈ f, F b = none ∧ H b ≠ none ∧ c.B b = none) ∧ ∀ (j : Nat) (w' : Ow) b, ρ[j]? = some (.own w') → b ∈ f → b ∉ fp j
def EvW (g : Gm) (te : TE) (ρ : Rho) (w : Ow) (ρ' : Rho) : Prop := ∀ (c : Cc) (F H : Hp) (σ : L2.St), c.ok g → Sim c F H σ ρ → ∀ Q : VK, (∀ a F' H', NewAt c F' H' σ ρ' a w → Same F F' → Q (.ref a) H') → te σ H Q
theorem SimF.setOwn {c : Cc} {F H : Hp} {σ : L2.St} {ρ : Rho} {fp : Nat → List Addr} (s : SimF c F H σ ρ fp) {i : Nat} {a : Addr} {f : List Addr} {w : Ow} (hr : OwRep c.K F H a f w) (hf : ∀ b ∈ f, F b = none ∧ H b ≠ none ∧ c.B b = none)
    (no : ∀ (j : Nat) (w' : Ow) b, ρ[j]? = some (.own w') → b ∈ f → b ∉ fp j) (hi : i < ρ.length) (hP : ∀ a, (i, a) ∉ c.P) : Sim c F H (σ.set i (some (.ref a))) (ρ.set i (.own w)) := by
  have hi' : i < σ.length := by rw [s.len]; exact hi
  have own' : ∀ (j : Nat) (w' : Ow), (ρ.set i (.own w))[j]? = some (.own w') → (j = i ∧ w' = w) ∨ (j ≠ i ∧ ρ[j]? = some (.own w')) := fun j w' q => by
    by_cases z : j = i
    · subst z
      rw [List.getElem?_set_self hi] at q
      cases q
      exact .inl ⟨rfl, rfl⟩
    · rw [List.getElem?_set_ne (Ne.symm z)] at q
      exact .inr ⟨z, q⟩
  refine ⟨fun j => if j = i then f else fp j, s.f0, s.fh, s.keep, s.dom, s.av, fun j b m => ?_, fun j d q => ?_, fun j w' q => ?_, fun j w' b q m => ?_, fun j k w' w'' b q q' m m' => ?_, by simpa using s.len, fun j w' b q m k hk => ?_, s.pb⟩
  · have z : j ≠ i := fun z => hP b (z ▸ m)
    rw [List.getElem?_set_ne (Ne.symm z)]
    exact s.par j b m
  · by_cases z : j = i
    · subst z
      rw [List.getElem?_set_self hi] at q
      cases q
    · rw [List.getElem?_set_ne (Ne.symm z)] at q ⊢
      exact s.dat j d q
  · rcases own' j w' q with ⟨rfl, rfl⟩ | ⟨z, q'⟩
    · exact ⟨a, List.getElem?_set_self hi', by simpa using hr⟩
    · rw [List.getElem?_set_ne (Ne.symm z)]
      simpa [z] using s.own j w' q'
  · rcases own' j w' q with ⟨rfl, rfl⟩ | ⟨z, q'⟩
    · have m' : b ∈ f := by simpa using m
      exact ⟨(hf b m').1, (hf b m').2.1, .inl (hf b m').2.2⟩
    · exact s.ownF j w' b q' (by simpa [z] using m)
  · rcases own' j w' q with ⟨rfl, rfl⟩ | ⟨z, q1⟩
    · rcases own' k w'' q' with ⟨rfl, rfl⟩ | ⟨z', q2⟩
      · rfl
      · exact absurd (by simpa [z'] using m') (no k w'' b q2 (by simpa using m))
    · rcases own' k w'' q' with ⟨rfl, rfl⟩ | ⟨z', q2⟩
      · exact absurd (by simpa [z] using m) (no j w' b q1 (by simpa using m'))
      · exact s.sep j k w' w'' b q1 q2 (by simpa [z] using m) (by simpa [z'] using m')
  · rcases own' j w' q with ⟨rfl, rfl⟩ | ⟨z, q1⟩
    · exact absurd (hf b (by simpa using m)).2.2 (s.pb k b hk)
    · exact s.wp j w' b q1 (by simpa [z] using m) k hk
theorem sv_setW {te : TE} {ρ ρ1 : Rho} {w : Ow} {i : Nat} {P : Out → Prop} (he : EvW g te ρ w ρ1) (h : P (.nx (ρ1.set i (.own w)))) (hi : i < ρ1.length := by simp) (hp : i ∉ g.ps := by simp) : Sv g (tAsg te (gName i)) ρ P := fun c F H σ E k s p =>
  he c F H σ k.ok s _ fun a F' H' ⟨f, fp, s', hr, hf, no⟩ e => p.nx _ _ _ _ h (s'.setOwn hr hf no hi (notP k hp)) e
/-- a new list becomes data -/
theorem ed_ofW {te : TE} {ρ ρ1 : Rho} {ds : List D} (h : EvW g te ρ (.lst ds) ρ1) : EvD g te ρ (.list ds) ρ1 := fun c F H σ k s Q q => h c F H σ k s _ fun a F' H' ⟨f, fp, s', hr, hf, no⟩ e => by
  obtain ⟨rfl, vs, h1, h2⟩ := hr
  obtain ⟨k1, k2, k3⟩ := hf a (by simp)
  have e2 : Same F' (upd F' a (.lst vs)) := sameNew k1
  exact q _ _ H' ⟨fp, s'.freeze h1 k3 (fun i w z m => no i w a z (by simp) m) k1⟩ (e.trans e2) (.lst (.inl (.inl upd_same)) (dpAllUp e2 h2))
theorem sv_retW {te : TE} {ρ ρ1 : Rho} {w : Ow} {P : Out → Prop} (he : EvW g te ρ w ρ1) (h : P (.rt ρ1 (.new w))) : Sv g (tRet te) ρ P := fun c F H σ E k s p =>
  he c F H σ k.ok s _ fun a F' H' ⟨f, fp, s', hr, hf, no⟩ e => p.rt _ _ _ _ _ _ h ⟨fp, s'⟩ e ⟨a, f, rfl, hr, hf⟩

/-! ### calls -/
section
variable {t : TA} {ρ ρ1 : Rho} {As : List Arg} {ds : List D} {d : D} {E : XK} {te : TE}
/-- all operands as data: own lists are lent -/
theorem lend {c : Cc} {F H : Hp} {σ : L2.St} {vs : List V} (s : Sim c F H σ ρ) (h : ArgsAt c.K F σ vs As) (hd : datas As = some ds) : DxAll c.K F vs ds := h.datas hd
theorem ed_call {R : List D → RetV → Prop} (ha : EvA g t ρ As ρ1) (hR : R ds (.dat d)) (hd : datas As = some ds := by rfl) : EvD g (tCall (spD R g.K) [] E t) ρ d ρ1 := fun c F H σ k s Q q =>
  ha c F H σ k s _ fun vs F1 H1 s1 e1 h1 => by
    have kk : c.K = g.K := k.1
    obtain ⟨fp, sf⟩ := id s1
    rw [List.append_nil, ← kk]
    refine ⟨F1, ds, .dat d, s1.fh, h1.datas hd, hR, fun v F' H' t r => ?_⟩
    have t' := sf.after t
    exact q v F' H' ⟨fp, t'⟩ (e1.trans t.f0) r
theorem ew_call {R : List D → RetV → Prop} {w : Ow} (ha : EvA g t ρ As ρ1) (hR : R ds (.new w)) (hd : datas As = some ds := by rfl) : EvW g (tCall (spD R g.K) [] E t) ρ w ρ1 := fun c F H σ k s Q q =>
  ha c F H σ k s _ fun vs F1 H1 s1 e1 h1 => by
    have kk : c.K = g.K := k.1
    obtain ⟨fp, sf⟩ := id s1
    rw [List.append_nil, ← kk]
    refine ⟨F1, ds, .new w, s1.fh, h1.datas hd, hR, fun v F' H' t r => ?_⟩
    have t' := sf.after t
    obtain ⟨a, f, rfl, hr, hf⟩ := r
    refine q a F' H' ⟨f, fp, t', hr, fun b m => ⟨(hf b m).1, (hf b m).2.1, ?_⟩, fun j w' b z m m' => ?_⟩ (e1.trans t.f0)
    · cases z : c.B b with
      | none => rfl
      | some o => exact absurd (hf b m).2.2 (sf.dom b (by simp [z]))
    · exact (sf.ownF j w' b z m').2.1 (hf b m).2.2
/-- f(own, data ..) -/
theorem ed_callS {R : List D → List D → RetV → List D → Prop} {i : Nat} {st st' : List D} (ha : EvA g t ρ (.o i :: As) ρ1) (he : ρ1[i]? = some (.own (.lst st))) (hR : R st ds (.dat d) st') (hd : datas As = some ds := by rfl) :
    EvD g (tCall (spS R g.K) [] E t) ρ d (ρ1.set i (.own (.lst st'))) := fun c F H σ k s Q q =>
  ha c F H σ k s _ fun vs F1 H1 s1 e1 h1 => by
    have kk : c.K = g.K := k.1
    obtain ⟨fp, sf⟩ := id s1
    obtain ⟨a, ws, f1, f2, f3, f4⟩ := s1.lstAt he
    cases h1 with
    | cons x t1 =>
      cases x with
      | o x =>
        rename_i v vs
        have ev : v = .ref a := by
          rw [f1] at x
          cases x
          rfl
        subst ev
        rw [List.append_nil, ← kk]
        refine ⟨F1, a, ws, vs, st, ds, .dat d, st', rfl, s1.fh, f2, f3, f4, t1.datas hd, hR, fun v F' H' t r => ?_⟩
        exact q v F' H' ⟨fp, sf.afterS he f1 t⟩ (e1.trans t.f0) r
theorem ew_callS {R : List D → List D → RetV → List D → Prop} {i : Nat} {st st' : List D} {w : Ow} (ha : EvA g t ρ (.o i :: As) ρ1) (he : ρ1[i]? = some (.own (.lst st))) (hR : R st ds (.new w) st') (hd : datas As = some ds := by rfl) :
    EvW g (tCall (spS R g.K) [] E t) ρ w (ρ1.set i (.own (.lst st'))) := fun c F H σ k s Q q =>
  ha c F H σ k s _ fun vs F1 H1 s1 e1 h1 => by
    have kk : c.K = g.K := k.1
    obtain ⟨fp, sf⟩ := id s1
    obtain ⟨a, ws, f1, f2, f3, f4⟩ := s1.lstAt he
    cases h1 with
    | cons x t1 =>
      cases x with
      | o x =>
        rename_i v vs
        have ev : v = .ref a := by
          rw [f1] at x
          cases x
          rfl
        subst ev
        rw [List.append_nil, ← kk]
        refine ⟨F1, a, ws, vs, st, ds, .new w, st', rfl, s1.fh, f2, f3, f4, t1.datas hd, hR, fun v F' H' t r => ?_⟩
        obtain ⟨a', f, rfl, hr, hf⟩ := r
        have t' := sf.afterS he f1 t
        have hi : i < ρ1.length := (List.getElem?_eq_some_iff.mp he).1
        refine q a' F' H' ⟨f, fp, t', hr, fun b m => ⟨(hf b m).1, (hf b m).2.1, ?_⟩, fun j w' b z m m' => ?_⟩ (e1.trans t.f0)
        · cases z : c.B b with
          | none => rfl
          | some o => exact absurd (hf b m).2.2 (sf.dom b (by simp [z]))
        · have old : ∃ w0, ρ1[j]? = some (.own w0) := by
            by_cases y : j = i
            · exact ⟨_, y ▸ he⟩
            · rw [List.getElem?_set_ne (Ne.symm y)] at z
              exact ⟨_, z⟩
          obtain ⟨w0, z0⟩ := old
          exact (sf.ownF j w0 b z0 m').2.1 (hf b m).2.2
end

/-! ### a def's body -/
theorem start_get {N : List Str} {vs : List V} {i : Nat} {v : V} (h : vs[i]? = some v) : (start N vs)[i]? = some (some v) := by
  unfold L2.start
  have hi : i < vs.length := (List.getElem?_eq_some_iff.mp h).1
  rw [List.getElem?_append_left (by simpa using hi), List.getElem?_map, h]
  rfl
/-- the environment at a def's entry -/
def rho0 (N : List Str) (es : List Ent) : Rho := es ++ List.replicate (N.length - es.length) .no
theorem rho0_get {N : List Str} {es : List Ent} {i : Nat} {e : Ent} (h : (rho0 N es)[i]? = some e) : es[i]? = some e ∨ e = .no := by
  unfold rho0 at h
  by_cases hi : i < es.length
  · rw [List.getElem?_append_left hi] at h
    exact .inl h
  · rw [List.getElem?_append_right (by omega), List.getElem?_replicate] at h
    split at h
    · exact .inr (Option.some.inj h).symm
    · cases h
theorem rho0_len {N : List Str} {es : List Ent} {vs : List V} (h : vs.length = es.length) : (start N vs).length = (rho0 N es).length := by
  unfold L2.start rho0
  simp [h]
theorem sim_start {N : List Str} {vs : List V} {ds : List D} {F H : Hp} (e : Same F H) (h : DxAll K F vs ds) : Sim ⟨K, [], noW, F, H⟩ F H (start N vs) (rho0 N (ds.map .dat)) := by
  have nown : ∀ (i : Nat) (w : Ow), (rho0 N (ds.map .dat))[i]? ≠ some (.own w) := fun i w q => by
    rcases rho0_get q with q | q
    · rw [List.getElem?_map] at q
      cases z : ds[i]? with
      | none => rw [z] at q; cases q
      | some d => rw [z] at q; cases q
    · cases q
  refine ⟨fun _ => [], Same.refl _, e, fun a o q _ => q, fun a q => q, fun a _ q => q, fun i a m => (nomatch m), fun i d q => ?_, fun i w q => (nown i w q).elim, fun i w b q => (nown i w q).elim, fun i j w w' b q => (nown i w q).elim, rho0_len (by rw [List.length_map]; exact dpAllLen h), fun i w b q => (nown i w q).elim, fun j b m => (nomatch m)⟩
  rcases rho0_get q with q | q
  · rw [List.getElem?_map] at q
    cases z : ds[i]? with
    | none => rw [z] at q; cases q
    | some d' =>
      rw [z] at q
      cases q
      obtain ⟨v, h1, h2⟩ := dpAllGet h z
      exact ⟨v, start_get h1, h2⟩
  · cases q
theorem sim_startS {N : List Str} {us ws : List V} {a : Addr} {ds st : List D} {F H : Hp} (e : Same F H) (ha : H a = some (.lst ws)) (hF : F a = none) (hs : DxAll K F ws st) (h : DxAll K F us ds) :
    Sim ⟨K, [(0, a)], (· = a), F, H⟩ F H (start N (.ref a :: us)) (rho0 N (.own (.lst st) :: ds.map .dat)) := by
  have nown : ∀ (i : Nat) (w : Ow), (rho0 N (.own (.lst st) :: ds.map .dat))[i]? = some (.own w) → i = 0 ∧ w = .lst st := fun i w q => by
    rcases rho0_get q with q | q
    · cases i with
      | zero => simp at q; exact ⟨rfl, q.symm⟩
      | succ i =>
        rw [List.getElem?_cons_succ, List.getElem?_map] at q
        cases z : ds[i]? with
        | none => rw [z] at q; cases q
        | some d => rw [z] at q; cases q
    · cases q
  refine ⟨fun _ => [a], Same.refl _, e, fun a o q _ => q, fun a q => q, fun a _ q => q, fun i b m => ?_, fun i d q => ?_, fun i w q => ?_, fun i w b q m => ?_, fun i j w w' b q q' _ _ => ?_, rho0_len (by simp [dpAllLen h]), fun i w b q m j hj => ?_, fun j b m => ?_⟩
  · have z : (i, b) = (0, a) := by simpa using m
    cases z
    exact start_get rfl
  · rcases rho0_get q with q | q
    · cases i with
      | zero => simp at q
      | succ i =>
        rw [List.getElem?_cons_succ, List.getElem?_map] at q
        cases z : ds[i]? with
        | none => rw [z] at q; cases q
        | some d' =>
          rw [z] at q
          cases q
          obtain ⟨v, h1, h2⟩ := dpAllGet h z
          exact ⟨v, start_get (by simpa using h1), h2⟩
    · cases q
  · obtain ⟨rfl, rfl⟩ := nown i w q
    exact ⟨a, start_get rfl, rfl, ws, ha, hs⟩
  · have z : b = a := by simpa using m
    subst z
    exact ⟨hF, by rw [ha]; simp, .inr rfl⟩
  · exact (nown i w q).1.trans (nown j w' q').1.symm
  · have z : b = a := by simpa using m
    subst z
    have z : (j, b) = (0, b) := by simpa using hj
    cases z
    exact (nown i w q).1.symm
  · have z : (j, b) = (0, a) := by simpa using m
    cases z
    show H a ≠ none
    rw [ha]
    simp

/-- what a body has to come to -/
def RetP (r : RetV) : Out → Prop
  | .nx _ => r = .dat .none
  | .rt _ r' => r' = r
  | _ => False
def RetS (r : RetV) (st' : List D) : Out → Prop
  | .nx ρ => r = .dat .none ∧ ρ[0]? = some (.own (.lst st'))
  | .rt ρ r' => r' = r ∧ ρ[0]? = some (.own (.lst st'))
  | _ => False
theorem body_D {t : TS} {N : List Str} {vs : List V} {ds : List D} {F H : Hp} {r : RetV} {Q : VK} (e : Same F H) (h : DxAll K F vs ds) (hb : Sv (gm K []) t (rho0 N (ds.map .dat)) (RetP r))
    (q : ∀ v F' H', Sim ⟨K, [], noW, F, H⟩ F' H' [] [] → RetOk ⟨K, [], noW, F, H⟩ F' H' v r → Q v H') : t { nx := fun _ H' => Q .non H', rt := Q } (start N vs) H :=
  hb ⟨K, [], noW, F, H⟩ F H _ _ ⟨⟨rfl, rfl⟩, fun a z => z.elim⟩ (sim_start e h)
    ⟨fun ρ F' H' σ z s e => q _ F' H' (s.cut rfl) (by rw [show r = .dat .none from z]; exact Dx.non), fun ρ F' H' σ v r' z s e x => q v F' H' (s.cut rfl) (by rw [← show r' = r from z]; exact x), fun _ _ _ _ z => z.elim, fun _ _ _ _ z => z.elim, fun _ _ _ _ _ z => z.elim⟩
theorem Sim.cutS {c : Cc} {F H : Hp} {σ : L2.St} {ρ : Rho} {a : Addr} {st : List D} (s : Sim c F H σ ρ) (hP : c.P = [(0, a)]) (h0 : ρ[0]? = some (.own (.lst st))) : Sim c F H [some (.ref a)] [.own (.lst st)] := by
  obtain ⟨fp, s⟩ := s
  have e0 : σ[0]? = some (some (.ref a)) := s.par 0 a (by rw [hP]; simp)
  have z1 : ∀ (i : Nat) (w : Ow), ([Ent.own (.lst st)] : Rho)[i]? = some (.own w) → i = 0 ∧ w = .lst st := fun i w q => by
    cases i with
    | zero => simp at q; exact ⟨rfl, q.symm⟩
    | succ i => simp at q
  refine ⟨fp, s.f0, s.fh, s.keep, s.dom, s.av, fun i b m => ?_, fun i d q => ?_, fun i w q => ?_, fun i w b q m => ?_, fun i j w w' b q q' _ _ => ?_, rfl, fun i w b q m => ?_, s.pb⟩
  · rw [hP] at m
    have z : (i, b) = (0, a) := by simpa using m
    cases z
    rfl
  · cases i with
    | zero => simp at q
    | succ i => simp at q
  · obtain ⟨rfl, rfl⟩ := z1 i w q
    obtain ⟨b, h1, h2⟩ := s.own 0 _ h0
    have := some_inj2 e0 h1
    subst this
    exact ⟨a, rfl, h2⟩
  · obtain ⟨rfl, rfl⟩ := z1 i w q
    exact s.ownF 0 _ b h0 m
  · exact (z1 i w q).1.trans (z1 j w' q').1.symm
  · obtain ⟨rfl, rfl⟩ := z1 i w q
    exact s.wp 0 _ b h0 m
theorem body_S {t : TS} {N : List Str} {us ws : List V} {a : Addr} {ds st st' : List D} {F H : Hp} {r : RetV} {Q : VK} (e : Same F H) (ha : H a = some (.lst ws)) (hF : F a = none) (hs : DxAll K F ws st) (h : DxAll K F us ds)
    (hb : Sv (gm K [0]) t (rho0 N (.own (.lst st) :: ds.map .dat)) (RetS r st'))
    (q : ∀ v F' H', Sim ⟨K, [(0, a)], (· = a), F, H⟩ F' H' [some (.ref a)] [.own (.lst st')] → RetOk ⟨K, [(0, a)], (· = a), F, H⟩ F' H' v r → Q v H') : t { nx := fun _ H' => Q .non H', rt := Q } (start N (.ref a :: us)) H :=
  hb ⟨K, [(0, a)], (· = a), F, H⟩ F H _ _ ⟨⟨rfl, rfl⟩, fun b z => ⟨0, by rw [show b = a from z]; simp⟩⟩ (sim_startS e ha hF hs h)
    ⟨fun ρ F' H' σ z s e => q _ F' H' (s.cutS rfl z.2) (by rw [z.1]; exact Dx.non), fun ρ F' H' σ v r' z s e x => q v F' H' (s.cutS rfl z.2) (by rw [← z.1]; exact x), fun _ _ _ _ z => z.elim, fun _ _ _ _ z => z.elim, fun _ _ _ _ _ z => z.elim⟩
section
variable {P : Program} {w : World} {mg : Str → Option Value} {base : Heap} {x qual : Str} {st : Stmt} {f : Addr} {fd : FuncData} {N ps : List Str} {k : Nat}
/-- THE RULE for a def of data -/
theorem def_D {R : List D → RetV → Prop} (Fn : Fun K x qual st f fd) (S : FnScope N ps (defScope st)) (len : ∀ ds r, R ds r → ds.length = ps.length)
    {t : TS}
    (ht : ∀ (cdv : Value) (A : Around) (outer : List PySem.Env) (s : Shared) (H : Hp) (E : XK), Room k (A.deeper (envOfC qual (defScope st) s.heap.objs.size f cdv)) → PSs (cxOf CX0 P w K mg base N qual (defScope st) f cdv A outer s H E).nox (defBody st) t)
    (hv : ∀ ds r, R ds r → Sv (gm K []) t (rho0 N (ds.map .dat)) (RetP r)) : FnOk P w K mg base CX0 (k + 1) f fd ps (spD R K) := by
  refine Fn.ok S (fun vs H Q E h => ?_) (fun cdv A outer s H vs Q E hr h => ?_)
  · obtain ⟨F, ds, r, _, h1, h2, _⟩ := h
    rw [dpAllLen h1]
    exact len ds r h2
  · obtain ⟨F, ds, r, e, h1, h2, q⟩ := h
    exact ⟨t, ht cdv A outer s H E hr, body_D e h1 (hv ds r h2) q⟩
/-- .. with a list that it may change -/
theorem def_S {R : List D → List D → RetV → List D → Prop} (Fn : Fun K x qual st f fd) (S : FnScope N ps (defScope st)) (len : ∀ st0 ds r st1, R st0 ds r st1 → ds.length + 1 = ps.length) {t : TS}
    (ht : ∀ (cdv : Value) (A : Around) (outer : List PySem.Env) (s : Shared) (H : Hp) (E : XK), Room k (A.deeper (envOfC qual (defScope st) s.heap.objs.size f cdv)) → PSs (cxOf CX0 P w K mg base N qual (defScope st) f cdv A outer s H E).nox (defBody st) t)
    (hv : ∀ st0 ds r st1, R st0 ds r st1 → Sv (gm K [0]) t (rho0 N (.own (.lst st0) :: ds.map .dat)) (RetS r st1)) : FnOk P w K mg base CX0 (k + 1) f fd ps (spS R K) := by
  refine Fn.ok S (fun vs H Q E h => ?_) (fun cdv A outer s H vs Q E hr h => ?_)
  · obtain ⟨F, a, ws, us, s0, ds, r, s1, rfl, _, _, _, _, h1, h2, _⟩ := h
    rw [List.length_cons, dpAllLen h1]
    exact len _ ds r _ h2
  · obtain ⟨F, a, ws, us, s0, ds, r, s1, rfl, e, ha, hF, hs, h1, h2, q⟩ := h
    exact ⟨t, ht cdv A outer s H E hr, body_S e ha hF hs h1 (hv _ ds r _ h2) q⟩
end
end DL

namespace DL
open PySem PySem.Spec PyProof.Rows L2
variable {K : PySem.W.Frag} {g : Gm} {X : Cx}
def rAddS : R2 := fun x y H Q => ∃ i j, x = .str i ∧ y = .str j ∧ i.length + j.length ≤ sizeLine ∧ Q (.str (i ++ j)) H
def uAdd (K : PySem.W.Frag) : R2 := fun x y H Q => rI0 (fun i j => .int (i + j)) x y H Q ∨ (rAddS x y H Q ∨ rCatX K x y H Q)
theorem op_uAdd : OpR X (binaryOp .Add) (uAdd X.K) := OpR.or op_add (OpR.or op_add_str op_catX)
theorem ra_int {i j : Int} : R2D K (uAdd K) (.int i) (.int j) (.int (i + j)) := r2_or1 r2_int
theorem ra_str {i j : Str} (hz : i.length + j.length ≤ sizeLine) : R2D K (uAdd K) (.str i) (.str j) (.str (i ++ j)) := r2_or2 (r2_or1 fun F H x y Q f a b q => ⟨i, j, a.str, b.str, hz, q _ F H (.at (.str _))⟩)
theorem ra_tup {xs ys : List D} (hz : xs.length + ys.length ≤ sizeLine) : R2D K (uAdd K) (.tuple xs) (.tuple ys) (.tuple (xs ++ ys)) := r2_or2 (r2_or2 (r2_catT hz))
theorem PI.or {tg iter : Expr} {wi wi' : TI} (h : PI X tg iter wi) (h' : PI X tg iter wi') : PI X tg iter (fun σ H R => wi σ H R ∨ wi' σ H R) := by
  refine ⟨fun pins s σ H R I hw => ?_⟩
  rcases hw with hw | hw
  · exact h.run pins s σ H R I hw
  · exact h'.run pins s σ H R I hw
def uIter (K : PySem.W.Frag) (te : TE) : TI := fun σ H R => iList K te σ H R ∨ iTup K te σ H R
theorem pi_u {tg l : Expr} {tl : TE} (hl : PE X l tl) : PI X tg l (uIter X.K tl) := PI.or (pi_list hl) (pi_tup hl)
section
variable {te : TE} {ρ ρ1 : Rho} {ds : List D}
theorem ei_uL (h : EvD g te ρ (.list ds) ρ1) : EvI g (uIter g.K te) ρ ds.length (nthD ds) ρ1 := fun c F H σ k s R q => .inl (ei_list h c F H σ k s R q)
theorem ei_uT (h : EvD g te ρ (.tuple ds) ρ1) : EvI g (uIter g.K te) ρ ds.length (nthD ds) ρ1 := fun c F H σ k s R q => .inr (ei_tup h c F H σ k s R q)
end
theorem units65 {A : Around} {k : Nat} (hr : Room k A) : A.units + 65 < cLine := by have := hr.un; omega
end DL

namespace DL
open PySem PySem.Spec PyProof.Rows L2
variable {K : PySem.W.Frag} {g : Gm}
theorem atI_in {ds : List D} {i : Int} (h0 : 0 ≤ i) (h1 : i < ds.length) : atI ds i = some (nthD ds i.toNat) := by
  have e : i = (i.toNat : Int) := by omega
  conv => lhs; rw [e]
  exact atI_nat (nthD_at (by omega))
theorem atI_own {ds : List D} {i : Int} (h0 : 0 ≤ i) (h1 : i < ds.length) : atI ds i = some (nthD ds i.toNat) := atI_in h0 h1
theorem atI_ints {ns : List Int} {i : Int} (h0 : 0 ≤ i) (h1 : i < ns.length) : atI (ns.map PyData.int) i = some (.int (ns.getD i.toNat 0)) := by
  have e : i = (i.toNat : Int) := by omega
  have hi : i.toNat < ns.length := by omega
  conv => lhs; rw [e]
  refine atI_nat ?_
  rw [List.getElem?_map, List.getElem?_eq_getElem hi, List.getD_eq_getElem?_getD, List.getElem?_eq_getElem hi]
  rfl
/-! ### the drawn numbers -/
structure Good (N : List Int) : Prop where
  pos : 0 < N.length
  len : N.length ≤ 4000
  lo : ∀ x ∈ N, 0 ≤ x
  hi : ∀ x ∈ N, x < 1009
def stAt (N : List Int) (k : Int) : List D := [.list (N.map .int), .int k]
def nxt (N : List Int) (k many : Int) : Int := (N.getD ((k + 1) % N.length).toNat 0 + ((k + 1) / N.length) * 389 + (k + 1) * ((k + 1) / N.length) * 17) % many
def KMax : Int := 1000000000
theorem nxt_lo {N : List Int} {k many : Int} (h : 0 < many) : 0 ≤ nxt N k many := Int.emod_nonneg _ (by omega)
theorem nxt_hi {N : List Int} {k many : Int} (h : 0 < many) : nxt N k many < many := Int.emod_lt_of_pos _ h
theorem good_div {N : List Int} (G : Good N) {k : Int} (h0 : 0 ≤ k) (h1 : k ≤ KMax) : 0 ≤ k / (N.length : Int) ∧ k / (N.length : Int) ≤ KMax := by
  have hp := G.pos
  refine ⟨Int.ediv_nonneg h0 (by omega), Int.le_trans (Int.ediv_le_self _ h0) h1⟩
/-- _law_next -/
def rl_next : List D → List D → RetV → List D → Prop := fun st ds r st' => ∃ (N : List Int) (k many : Int), Good N ∧ 0 ≤ k ∧ k < KMax ∧ 0 < many ∧ st = stAt N k ∧ ds = [.int many] ∧ r = .dat (.int (nxt N k many)) ∧ st' = stAt N (k + 1)
end DL

namespace DL
open PySem PySem.Spec PyProof.Rows L2
variable {K : PySem.W.Frag} {g : Gm}
theorem Wk.trans : ∀ {a b c : Rho}, Wk a b → Wk b c → Wk a c
  | _, _, _, .nil, .nil => .nil
  | _, _, _, .eq h, .eq h' => .eq (h.trans h')
  | _, _, _, .eq h, .no h' => .no (h.trans h')
  | _, _, _, .no h, .eq h' => .no (h.trans h')
  | _, _, _, .no h, .no h' => .no (h.trans h')
theorem Wk.eq' {e e' : Ent} {r r' : Rho} (h : e = e') (w : Wk r r') : Wk (e :: r) (e' :: r') := h ▸ Wk.eq w
theorem own_eq {a b : List D} (h : a = b) : Ent.own (.lst a) = Ent.own (.lst b) := h ▸ rfl
theorem dat_eq {a b : D} (h : a = b) : Ent.dat a = Ent.dat b := h ▸ rfl
theorem Tg.wk {t : TG} {d : D} {ρ ρ0 ρ2 : Rho} (w : Wk ρ ρ0) (h : Tg g t d ρ0 ρ2) : Tg g t d ρ ρ2 := fun c F H σ v hP hk s x Q q => h c F H σ v hP hk (s.wk w) x Q q
def TurnW (E : Nat → Rho) (P : Out → Prop) (i : Nat) : Out → Prop
  | .nx ρ => Wk ρ (E (i + 1))
  | .ct ρ => Wk ρ (E (i + 1))
  | .bk ρ => P (.nx ρ)
  | .rt ρ r => P (.rt ρ r)
  | .ex C ρ => P (.ex C ρ)
theorem sv_forE {wi : TI} {t : TG} {tb : TS} {ρ ρ1 : Rho} {n : Nat} {xs : Nat → D} {P : Out → Prop} (E : Nat → Rho) (hi : EvI g wi ρ n xs ρ1) (h0 : Wk ρ1 (E 0))
    (hs : ∀ i, i < n → ∃ ρ2, Tg g t (xs i) (E i) ρ2 ∧ Sv g tb ρ2 (TurnW E P i)) (hd : ∀ ρ', Wk ρ' (E n) → P (.nx ρ')) : Sv g (tFor wi t tb) ρ P :=
  sv_for (fun i ρ' => Wk ρ' (E i)) hi h0 (fun i ρ' hlt w => by
    obtain ⟨ρ2, ht, hb⟩ := hs i hlt
    exact ⟨ρ2, ht.wk w, hb.mono fun o z => by cases o <;> exact z⟩) hd
theorem sv_wkSq {u : TS} {ρ ρ' : Rho} {P : Out → Prop} (w : Wk ρ ρ') (h : Sv g u ρ' P) : Sq g u P (.nx ρ) := h.wk w

/-! ### the law's stream -/
def dig : Nat → Int → List Int
  | 0, _ => []
  | n + 1, r => r % 1009 :: if r / 1009 = 0 then [] else dig n (r / 1009)
theorem dig_succ (n : Nat) (r : Int) : dig (n + 1) r = r % 1009 :: if r / 1009 = 0 then [] else dig n (r / 1009) := rfl
def mxm (m0 : Int) : Nat → Int
  | 0 => m0
  | i + 1 => (mxm m0 i * 48271 + 7 * (0 + (i : Int)) + 11) % 2147483647
def mxo (m0 : Int) (i : Nat) : Int := (mxm m0 (i + 1) * 69621 + (0 + (i : Int))) % 2147483629 % 1009
def cellAbs (c : Int) : Int := if c < 0 then -c else c
def chunk (c : Int) : List Int := if 10 ^ 18 ≤ cellAbs c then dig 60 (cellAbs c) else (List.range 10).map (mxo (cellAbs c % 2147483647))
def flat (ns : List Int) : List Int := (ns.map chunk).flatten
def streamOf (ns : List Int) : List Int := if flat ns = [] then [0] else flat ns
def rl_stream : List D → RetV → Prop := fun ds r => ∃ ns : List Int, ns.length ≤ 63 ∧ ds = [.list (ns.map .int)] ∧ r = .new (.lst ((streamOf ns).map .int))
theorem dig_bnd : ∀ (n : Nat) (r : Int), ∀ x ∈ dig n r, 0 ≤ x ∧ x < 1009
  | 0, _, x, h => by cases h
  | n + 1, r, x, h => by
    unfold dig at h
    rcases List.mem_cons.mp h with h | h
    · subst h
      omega
    · split at h
      · cases h
      · exact dig_bnd n _ x h
theorem dig_len : ∀ (n : Nat) (r : Int), (dig n r).length ≤ n
  | 0, _ => by simp [dig]
  | n + 1, r => by
    unfold dig
    split
    · simp
    · have := dig_len n (r / 1009)
      simp only [List.length_cons]
      omega
theorem chunk_bnd (c : Int) : ∀ x ∈ chunk c, 0 ≤ x ∧ x < 1009 := fun x h => by
  unfold chunk at h
  split at h
  · exact dig_bnd _ _ x h
  · obtain ⟨i, _, rfl⟩ := List.mem_map.mp h
    unfold mxo
    omega
theorem chunk_len (c : Int) : (chunk c).length ≤ 60 := by
  unfold chunk
  split
  · exact dig_len _ _
  · simp
theorem flat_len : ∀ ns : List Int, (flat ns).length ≤ 60 * ns.length
  | [] => by simp [flat]
  | n :: ns => by
    have h1 := flat_len ns
    have h2 := chunk_len n
    unfold flat at h1 ⊢
    simp only [List.map_cons, List.flatten_cons, List.length_append, List.length_cons]
    omega
theorem flat_bnd (ns : List Int) : ∀ x ∈ flat ns, 0 ≤ x ∧ x < 1009 := fun x h => by
  unfold flat at h
  obtain ⟨l, h1, h2⟩ := List.mem_flatten.mp h
  obtain ⟨c, _, rfl⟩ := List.mem_map.mp h1
  exact chunk_bnd c x h2
theorem good_stream {ns : List Int} (h : ns.length ≤ 63) : Good (streamOf ns) := by
  have h1 := flat_len ns
  have h2 := flat_bnd ns
  unfold streamOf
  split
  · exact ⟨by simp, by simp, fun x m => by simp at m; omega, fun x m => by simp at m; omega⟩
  · rename_i q
    refine ⟨?_, by omega, fun x m => (h2 x m).1, fun x m => (h2 x m).2⟩
    cases e : flat ns with
    | nil => exact absurd e q
    | cons a l => simp
theorem cut_to {ds : List D} {n : Nat} (h : ds.length ≤ n) : cutD ds none (some (n : Int)) = ds := by
  unfold cutD
  rw [HT.sIx_none, HT.sIx_nat]
  simp [Nat.min_eq_right h]
theorem nthD_ints {ns : List Int} {i : Nat} (h : i < ns.length) : nthD (ns.map PyData.int) i = .int (ns.getD i 0) := by
  unfold nthD
  rw [List.getD_eq_getElem?_getD, List.getElem?_map, List.getElem?_eq_getElem h, List.getD_eq_getElem?_getD, List.getElem?_eq_getElem h]
  rfl
theorem flat_take {ns : List Int} {i : Nat} (h : i < ns.length) : flat (ns.take (i + 1)) = flat (ns.take i) ++ chunk (ns.getD i 0) := by
  unfold flat
  rw [List.take_add_one, List.getElem?_eq_getElem h, List.getD_eq_getElem?_getD, List.getElem?_eq_getElem h]
  simp only [Option.toList, List.map_append, List.flatten_append, List.map_cons, List.map_nil, List.flatten_cons, List.flatten_nil, List.append_nil]
  rfl
theorem map_append_one (l : List Int) (x : Int) : l.map PyData.int ++ [.int x] = (l ++ [x]).map .int := by simp
end DL

namespace DL
open PySem PySem.Spec PyProof.Rows L2
/-! ### enumerate(a tuple) -/
set_option maxHeartbeats 8000000 in
theorem enumNew1 {v : Value} {o : Obj} {H : Heap → Prop} (B : Begins v o H) :
    Meets (Builtin.«enumerate.__new__» ⟨[.type "enumerate", v], []⟩) (fun _ R s => H s.heap ∧
      R (.ok (.ret (.ref (s.heap.push o).objs.size))) { s with heap := (s.heap.push o).push { cls := .type "enumerate", data := .fields #[.none, .bool false, .ref s.heap.objs.size, rawInt 0, .none, .none] } }) :=
  .of_wp fun prog w A R s h => by
    obtain ⟨hp, gs, dr, tk, os⟩ := s
    obtain ⟨h1, h⟩ := h
    have hsub := sub_enumerate
    have it1 : ∀ {A' : Around} {E : Value → Shared → Prop} {Q : Value → Shared → Prop}, Q (.ref hp.objs.size) ⟨hp.push o, gs, dr, tk, os⟩ → wpAny (model prog w) A' (pyIter v) Q E ⟨hp, gs, dr, tk, os⟩ :=
      fun q => B.iter prog w _ _ ⟨hp, gs, dr, tk, os⟩ _ h1 q
    wp_walk using it1
    refine wpAny_stack_any fun st => wpAny_pure ?_
    split
    · rename_i c _ _ _ _ _
      cases (c == Value.type "enumerate")
      · (wp_walk using it1); exact ⟨_, rfl, h⟩
      · (wp_walk using it1); exact ⟨_, rfl, h⟩
    · (wp_walk using it1); exact ⟨_, rfl, h⟩
theorem enumCall1 {prog : Program} {w : World} {A : Around} {E : Value → Shared → Prop} {s : Shared} {v : Value} {o : Obj} {H : Heap → Prop} {Q : Value → Shared → Prop} (B : Begins v o H) (h1 : H s.heap)
    (h : ∀ h', IsEnum h' (s.heap.objs.size + 1) s.heap.objs.size 0 .none → h'.get? s.heap.objs.size = some o → (∀ b u, s.heap.get? b = some u → h'.get? b = some u) → Q (.ref (s.heap.objs.size + 1)) { s with heap := h' }) :
    wpAny (model prog w) A (call (.type "enumerate") [v]) Q E s := by
  refine callType_new F.called_enumerate (by decide) (F.typeCall_enumerate_1 _) (F.newCall_enumerate_1 _) (fun obj => F.args_object_init_2 obj _) F.entry_enumerate_new (enumNew1 B) ⟨h1, ?_⟩
  have hz : (s.heap.push o).objs.size = s.heap.objs.size + 1 := Heap.size_push ..
  show _ ∧ _
  rw [hz]
  have he := Heap.get?_push_size (s.heap.push o) (o := { cls := .type "enumerate", data := .fields #[.none, .bool false, .ref s.heap.objs.size, rawInt 0, .none, .none] }) rfl
  rw [hz] at he
  exact ⟨⟨_, he, rfl⟩, h _ he (Heap.get?_push_of_some _ (Heap.get?_push_size _ B.free)) fun b u x => Heap.get?_push_of_some _ (Heap.get?_push_of_some _ x)⟩

def IteT (K : PySem.W.Frag) (a : Addr) : It :=
  ⟨fun i H => ∃ (xs : List V) (x : V), SqT K H a xs ∧ xs[i]? = some x,
    fun i H v H' => ∃ T x o, v = .ref T ∧ H T = none ∧ o.dict = none ∧ H' = upd H T (.frz o (.tup [.int (i : Nat), x])) ∧ ∀ xs, SqT K H a xs → xs[i]? = some x,
    fun i H => ∃ xs : List V, SqT K H a xs ∧ xs.length = i⟩
theorem turnEnumT {P : Program} {w : World} {K : PySem.W.Frag} {elts : List Expr} {kk : Nat} {tpos : Pos} (a e it : Addr) :
    L2.Turn P w K (.Tuple elts kk tpos) (IteT K a) [e, it] e (fun i h => (∃ old, IsEnum h e it ((i : Nat) : Int) old) ∧ h.IsTupleIter it a i ∧ e ≠ it) where
  mem := by simp
  obj := fun i h st b hb => by
    obtain ⟨⟨old, he⟩, ⟨o, ho, hc, hd⟩, _⟩ := st
    rcases (show b = e ∨ b = it by simpa using hb) with z | z
    · rw [z]
      exact ⟨_, he, fun v q => nomatch q⟩
    · rw [z]
      exact ⟨o, ho, fun v q => by rw [hd] at q; cases q⟩
  keep := fun i h h' st k => ⟨let ⟨old, he⟩ := st.1; ⟨old, k e (by simp) _ he⟩, st.2.1.at fun o q => k it (by simp) o q, st.2.2⟩
  item := by
    intro X hP hw hK hc i pins s σ H E I hf st hg
    subst hP hw hK
    obtain ⟨⟨old, he⟩, hit, hne⟩ := st
    obtain ⟨xs, x, hq, hx⟩ := hg
    obtain ⟨its, rv, ht, hz⟩ := I.tuple hq
    have hlen := rv.length
    have hi : i < its.toArray.size := by
      have := (List.getElem?_eq_some_iff.mp hx).1
      simp
      omega
    have hae : a ≠ e := fun z => by
      obtain ⟨o, h1, h2, _⟩ := ht
      rw [z] at h1
      have h3 : some o = some _ := h1.symm.trans he
      cases h3
      exact absurd (Value.type.inj h2) (by decide)
    have hai : a ≠ it := fun z => by
      obtain ⟨o, h1, h2, _⟩ := ht
      obtain ⟨o', h3, h4, _⟩ := hit
      rw [z] at h1
      rw [h1] at h3
      cases h3
      rw [h2] at h4
      exact absurd (Value.type.inj h4) (by decide)
    have hel : e < s.heap.objs.size := Heap.lt_size he
    have hil : it < s.heap.objs.size := by
      obtain ⟨_, q, _⟩ := hit
      exact Heap.lt_size q
    have D := Draws.tuple (prog := X.prog) (w := X.w) (A := X.A.in1) (show X.A.in1.handled = none from I.ok.hd hc) it a hai its.toArray
    refine wpAny_pyNext_enum_itemD D he ⟨hit, ht⟩ hi hne (by simp [hne, Ne.symm hae]) fun u h' tk hu ho hst hT hsz hk => ?_
    obtain ⟨u', hu', ru⟩ := rv.get hx
    have eu : u' = u := by
      have : its[i]? = some u := by simpa using hu
      rw [hu'] at this
      cases this
      rfl
    subst eu
    refine ⟨_, rfl, wpAny_letOwnedTupleGo_enum (s := { s with heap := h', toks := tk + 1 }) ho fun h2 he2 sb => ?_⟩
    have hT2 : h2.get? s.heap.objs.size = some { cls := .type "tuple", data := .seq #[.int i tk, u'] } := (sb.2 _ (Nat.ne_of_gt hel)).trans hT
    have new : ObjOk X.prog X.w (upd H s.heap.objs.size (.frz (tupO [.int i tk, u']) (.tup [.int (i : Nat), x]))) h2 s.heap.objs.size (.frz (tupO [.int i tk, u']) (.tup [.int (i : Nat), x])) :=
      ⟨hT2, by show 2 ≤ sizeLine; decide, [.int i tk, u'], .cons ⟨_, rfl⟩ (.cons ru .nil), ⟨_, hT2, rfl, _, rfl⟩⟩
    have I1 : L2.Inv X pins σ (upd H s.heap.objs.size (.frz (tupO [.int i tk, u']) (.tup [.int (i : Nat), x]))) { s with heap := h2, toks := tk + 1 } :=
      I.turnedNew (ch := [e, it]) (fun b ob hb q => (sb.2 b fun z => hb (by simp [z])).trans (hk b ob (fun z => hb (by simp [z])) (fun z => hb (by simp [z])) q)) hf (Nat.le_refl _) new
    refine ⟨.ref s.heap.objs.size, _, I1, rfl, ⟨_, x, _, rfl, I.hok.fresh (Nat.le_refl _), rfl, rfl, fun ys hy => by rw [I.tuple_inj hy hq]; exact hx⟩, ⟨⟨u', ?_⟩, hst.1.at fun o q => (sb.2 it (Ne.symm hne)).trans q, hne⟩, fun b hb => ?_⟩
    · rw [show ((i + 1 : Nat) : Int) = (i : Int) + 1 by omega]
      exact he2
    · have lt : b < s.heap.objs.size := by
        rcases (show b = e ∨ b = it by simpa using hb) with z | z <;> rw [z] <;> assumption
      rw [upd_ne (Nat.ne_of_lt lt)]
      exact (hf b hb).1
  done := by
    intro X hP hw hK hc i pins s σ H E I hf st hg
    subst hP hw hK
    obtain ⟨⟨old, he⟩, hit, hne⟩ := st
    obtain ⟨xs, hq, hx⟩ := hg
    obtain ⟨its, rv, ht, hz⟩ := I.tuple hq
    obtain ⟨f0, f1, f2, f3, f4, f5⟩ := hf it (by simp)
    have hai : a ≠ it := fun z => by
      obtain ⟨o, h1, h2, _⟩ := ht
      obtain ⟨o', h3, h4, _⟩ := hit
      rw [z] at h1
      rw [h1] at h3
      cases h3
      rw [h2] at h4
      exact absurd (Value.type.inj h4) (by decide)
    have D := Draws.tuple (prog := X.prog) (w := X.w) (A := X.A.in1) (show X.A.in1.handled = none from I.ok.hd hc) it a hai its.toArray
    have en : i = its.toArray.size := by
      have := rv.length
      simp
      omega
    subst en
    exact wpAny_pyNext_enum_endD D he ⟨hit, ht⟩ fun h' eb => ⟨rfl, I.turned (t' := s.toks) (fun b o hb q => eb b o hb q) f0 f1 f3 f4 f5⟩
  self := fun A i s Q E st h => let ⟨⟨_, he⟩, _⟩ := st; wpAny_pyIter_enum he h
def iEnT (K : PySem.W.Frag) (ta : TA) : TI := fun σ H R => ta σ H fun vs H1 => ∃ a xs, vs = [.ref a] ∧ SqT K H1 a xs ∧ R (IteT K a) H1
theorem pi_enumT {X : Cx} {e : Expr} {ta : TA} {p pos tpos : Pos} {elts : List Expr} {kk : Nat} (hg : Gl X "enumerate") (hm : X.mg "enumerate" = none) (ha : PA X [e] ta) (hs : starEach [e] X.env = [(false, eval e X.env)] := by rfl) :
    PI X (.Tuple elts kk tpos) (.Call (.Name "enumerate" p) [e] [] pos) (iEnT X.K ta) := by
  refine ⟨fun pins s σ H R I h => ?_⟩
  refine Call_ (ld_blt I hg hm boot_enumerate (PyProof.Rows.callWith_type1 (thn (ha.run pos pins s σ H _ I h) fun us s1 ⟨vs, H1, I1, r1, q1⟩ => ?_) hs rfl))
  obtain ⟨a, xs, rfl, hq, q⟩ := q1
  obtain ⟨u, rfl, ru⟩ := vals1 r1
  cases ru
  obtain ⟨its, rv, ht, hz⟩ := I1.tuple hq
  refine enumCall1 (begins_tuple a its.toArray) ht fun h' he hit hk => wpAny_pyIter_enum he ?_
  refine ⟨s1.heap.objs.size + 1, [s1.heap.objs.size + 1, s1.heap.objs.size], _, _, H1, rfl, I1.kept (t' := s1.toks) hk, turnEnumT a (s1.heap.objs.size + 1) s1.heap.objs.size, ⟨⟨.none, he⟩, ⟨_, hit, rfl, rfl⟩, Nat.succ_ne_self _⟩, fun b hb => ?_, q⟩
  have hle : s1.heap.objs.size ≤ b := by
    rcases (show b = s1.heap.objs.size + 1 ∨ b = s1.heap.objs.size by simpa using hb) with z | z
    · rw [z]
      exact Nat.le_succ _
    · rw [z]
      exact Nat.le_refl _
  exact I1.fpOk hle (I1.hok.fresh hle)
section
variable {g : Gm} {te : TE} {ρ ρ1 : Rho} {ds : List D} {K : PySem.W.Frag}
def pairD (ds : List D) (i : Nat) : D := .tuple [.int (i : Nat), nthD ds i]
theorem walk_enTD {F : Hp} {a : Addr} {vs : List V} (h : SqT K F a vs) (k : DxAll K F vs ds) : WalkD K F (IteT K a) ds.length (pairD ds) := fun F2 H2 e1 e2 => by
  have q : SqT K H2 a vs := stUp e2 (stUp e1 h)
  have hl := dpAllLen k
  refine ⟨fun i hi => ⟨vs, vs[i]'(by omega), q, by simp [show i < vs.length by omega]⟩, ⟨vs, q, hl⟩, fun i x H' hi y => ?_⟩
  obtain ⟨T, v, o, rfl, hT, ho, rfl, y⟩ := y
  obtain ⟨v', h1, h2⟩ := dpAllGet k (nthD_at hi)
  have := y vs q
  rw [h1] at this
  cases this
  exact ⟨_, .new hT ho (.cons (.int _) (.cons (dpUp e1 h2) .nil))⟩
theorem ei_enT (h : EvD g te ρ (.tuple ds) ρ1) : EvI g (iEnT g.K (tCons te tNil)) ρ ds.length (pairD ds) ρ1 := fun c F H σ k s R q => h c F H σ k s _ fun v F1 H1 s1 e1 x => by
  have kk : c.K = g.K := k.1
  cases x with
  | tup hs ha =>
    rw [kk] at hs ha
    exact ⟨_, _, rfl, stUp s1.fh hs.old, q _ F1 H1 s1 e1 (by rw [kk]; exact walk_enTD hs.old ha)⟩
end
end DL

namespace DL
open PySem PySem.Spec PyProof.Rows L2
variable {K : PySem.W.Frag} {g : Gm} {X : Cx}
/-! ### max, min of ints -/
theorem depthInts : ∀ ns : List Int, PyData.depthAll (ns.map PyData.int) = 0
  | [] => rfl
  | n :: ns => by
    have h := depthInts ns
    simp only [List.map_cons, PyData.depthAll, PyData.depth, h]
    decide
theorem alikeInts (n : Int) (ns : List Int) : PySem.W.AlikeAll (((n :: ns) : List Int).map PyData.int) := by
  refine ⟨fun x hx y hy => ?_, fun x hx => ?_⟩
  · obtain ⟨a, _, rfl⟩ := List.mem_map.mp hx
    obtain ⟨b, _, rfl⟩ := List.mem_map.mp hy
    rfl
  · obtain ⟨a, _, rfl⟩ := List.mem_map.mp hx
    exact fun q => nomatch q
def uMax (K : PySem.W.Frag) : List V → Hp → VK → Prop := fun vs H Q => ∃ (a : Addr) (n : Int) (ns : List Int), vs = [.ref a] ∧ (SqL K H a ((n :: ns).map V.int) ∨ SqT K H a ((n :: ns).map V.int)) ∧ Q (.int (ns.foldl max n)) H
theorem cr_uMax (hc : X.calm = true) (hu : X.A.units + 65 < cLine) : CallR X (.builtin "max") (uMax X.K) := by
  intro pins s σ H vs us Q I r h
  obtain ⟨a, n, ns, rfl, hs, q⟩ := h
  rw [Vals.ref1 r]
  have hd : X.A.units + 1 + PyData.depthAll (((n :: ns) : List Int).map PyData.int) < cLine := by rw [depthInts]; omega
  have fin : ∀ v h' tk bs, Reads h' v (PySem.W.maxD (.int n) (ns.map .int)) bs → (∀ b o, s.heap.get? b = some o → h'.get? b = some o) → EP X pins σ Q v { s with heap := h', toks := tk } := fun v h' tk bs hr hk => by
    rw [PySem.W.maxD_ints] at hr
    obtain ⟨t, rfl, _⟩ := reads_int_inv hr
    exact ⟨.int _, H, I.kept hk, ⟨_, rfl⟩, q⟩
  rcases hs with hs | hs
  · obtain ⟨its, rv, hl, _⟩ := I.list hs
    exact PySem.W.max_list_data (I.ok.hd hc) hl.isList (by simpa using rv.ints.reads s.heap) (alikeInts n ns) hd fun i v h' tk bs _ hr hk => fin v h' tk bs hr hk
  · obtain ⟨its, rv, hl, _⟩ := I.tuple hs
    exact PySem.W.max_tuple_data (I.ok.hd hc) hl (by simpa using rv.ints.reads s.heap) (alikeInts n ns) hd fun i v h' tk bs _ hr hk => fin v h' tk bs hr hk
theorem rc_maxL {n : Int} {ns : List Int} : RCD K (uMax K) [.list ((n :: ns).map .int)] (.int (ns.foldl max n)) := fun F H xs Q f a q => by
  obtain ⟨v, rfl, a1⟩ := a.one
  obtain ⟨p, vs, rfl, h1, k1⟩ := a1.list f
  rw [dp_ints k1] at h1
  exact ⟨p, n, ns, rfl, .inl h1, q _ F H (.at (.int _))⟩
theorem rc_maxT {n : Int} {ns : List Int} : RCD K (uMax K) [.tuple ((n :: ns).map .int)] (.int (ns.foldl max n)) := fun F H xs Q f a q => by
  obtain ⟨v, rfl, a1⟩ := a.one
  obtain ⟨p, vs, rfl, h1, k1⟩ := a1.tup f
  rw [dp_ints k1] at h1
  exact ⟨p, n, ns, rfl, .inr h1, q _ F H (.at (.int _))⟩

/-! ### isinstance of built-in classes -/
def rIsaB (K : PySem.W.Frag) : List V → Hp → VK → Prop := rIsi K
theorem cr_isaB : CallR X (.builtin "isinstance") (rIsaB X.K) := call_isi
def tyN : D → String
  | .none => "NoneType"
  | .bool _ => "bool"
  | .int _ => "int"
  | .str _ => "str"
  | .list _ => "list"
  | .tuple _ => "tuple"
  | .dict _ => "dict"
theorem tyx_of {F H : Hp} {v : V} {d : D} (e : Same F H) (h : Opd K F H v d) : TyX K H v (.type (tyN d)) := by
  cases d with
  | none => rw [h.non]; exact .base .non
  | bool b => rw [h.bl]; exact .base (.bl _)
  | int b => rw [h.int]; exact .base (.int _)
  | str b => rw [h.str]; exact .base (.str _)
  | list ds =>
    obtain ⟨a, vs, rfl, h1, _⟩ := h.list e
    rcases h1 with (h1 | ⟨o, h1⟩) | ⟨o, its, n, hk, hc, _⟩
    · exact .base (.lst h1)
    · exact .base (.frz h1)
    · exact .kList hk hc
  | tuple ds =>
    obtain ⟨a, vs, rfl, h1, _⟩ := h.tup e
    rcases h1 with (h1 | ⟨o, h1⟩) | ⟨o, its, n, hk, hc, _⟩
    · exact .base (.tup h1)
    · exact .fTuple h1
    · exact .kTuple hk hc
  | dict ds =>
    rcases h with h | ⟨_, _, _, _, q, _⟩
    · cases h
    · cases q
theorem ed_isaB {te : TE} {ρ ρ1 : Rho} {A : Arg} {d : D} {T : String} {b : Bool} (ha : EvO g te ρ A ρ1) (dA : A.den ρ1 = some d) (hk : kitB (tyN d) T = some b) : EvD g (tCB (rIsaB g.K) (tCons te (tCons (tC (.ty T)) tNil))) ρ (.bool b) ρ1 := fun c F H σ k s Q q =>
  ha c F H σ k s _ fun v F1 H1 s1 e1 h1 => by
    have o1 := Arg.opd s1 h1 dA
    have kk : c.K = g.K := k.1
    rw [kk] at o1
    exact ⟨v, .ty T, _, _, b, rfl, .ty T, tyx_of s1.fh o1, kit_ty hk, q _ F1 H1 s1 e1 (.bl b)⟩

/-! ### own things changed -/
/-- an own thing at slot i is another one now: what stands in its footprint has changed, nothing else -/
theorem Sim.alter {c : Cc} {F H H' : Hp} {σ : L2.St} {ρ : Rho} {fp : Nat → List Addr} (s : SimF c F H σ ρ fp) {i : Nat} {w w' : Ow} {a : Addr} {f' : List Addr} (he : ρ[i]? = some (.own w)) (hσ : σ[i]? = some (some (.ref a)))
    (hout : ∀ b, b ∉ fp i → b ∉ f' → H' b = H b) (hin : ∀ b ∈ fp i, H' b ≠ none) (hr : OwRep c.K F H' a f' w') (hnew : ∀ b ∈ f', b ∈ fp i ∨ (H b = none ∧ H' b ≠ none)) : Sim c F H' σ (ρ.set i (.own w')) := by
  have hi : i < ρ.length := (List.getElem?_eq_some_iff.mp he).1
  have own' : ∀ (j : Nat) (w1 : Ow), (ρ.set i (.own w'))[j]? = some (.own w1) → (j = i ∧ w1 = w') ∨ (j ≠ i ∧ ρ[j]? = some (.own w1)) := fun j w1 q => by
    by_cases z : j = i
    · subst z
      rw [List.getElem?_set_self hi] at q
      cases q
      exact .inl ⟨rfl, rfl⟩
    · rw [List.getElem?_set_ne (Ne.symm z)] at q
      exact .inr ⟨z, q⟩
  have Bn : ∀ b, H b = none → c.B b = none := fun b z => by
    cases q : c.B b with
    | none => rfl
    | some o => exact absurd z (s.dom b (by simp [q]))
  have nf : ∀ (j : Nat) (w1 : Ow) b, j ≠ i → ρ[j]? = some (.own w1) → b ∈ fp j → b ∉ fp i ∧ b ∉ f' := fun j w1 b z q m => by
    have h1 : b ∉ fp i := fun m' => z (s.sep j i w1 w b q he m m')
    refine ⟨h1, fun m' => ?_⟩
    rcases hnew b m' with z' | ⟨z', _⟩
    · exact h1 z'
    · exact (s.ownF j w1 b q m).2.1 z'
  refine ⟨fun j => if j = i then f' else fp j, s.f0, fun b o q => ?_, fun b o q w1 => ?_, fun b q => ?_, s.av, s.par, fun j d q => ?_, fun j w1 q => ?_, fun j w1 b q m => ?_, fun j k w1 w2 b q q' m m' => ?_, by simpa using s.len, fun j w1 b q m k hk => ?_, s.pb⟩
  · have h1 : b ∉ fp i := fun m => by rw [(s.ownF i w b he m).1] at q; cases q
    have h2 : b ∉ f' := fun m => by
      rcases hnew b m with z | ⟨z, _⟩
      · exact h1 z
      · rw [s.fh b o q] at z; cases z
    rw [hout b h1 h2]
    exact s.fh b o q
  · have h1 : b ∉ fp i := fun m => by
      rcases (s.ownF i w b he m).2.2 with z | z
      · rw [z] at q; cases q
      · exact w1 z
    have h2 : b ∉ f' := fun m => by
      rcases hnew b m with z | ⟨z, _⟩
      · exact h1 z
      · rw [Bn b z] at q; cases q
    rw [hout b h1 h2]
    exact s.keep b o q w1
  · by_cases h1 : b ∈ fp i
    · exact hin b h1
    · by_cases h2 : b ∈ f'
      · rcases hnew b h2 with z | ⟨_, z⟩
        · exact absurd z h1
        · exact z
      · rw [hout b h1 h2]
        exact s.dom b q
  · by_cases z : j = i
    · subst z
      rw [List.getElem?_set_self hi] at q
      cases q
    · rw [List.getElem?_set_ne (Ne.symm z)] at q
      exact s.dat j d q
  · rcases own' j w1 q with ⟨rfl, rfl⟩ | ⟨z, q⟩
    · exact ⟨a, hσ, by simpa using hr⟩
    · obtain ⟨b, k1, k2⟩ := s.own j w1 q
      refine ⟨b, k1, ?_⟩
      rw [if_neg z]
      exact k2.up (Same.refl _) fun x m => hout x (nf j w1 x z q m).1 (nf j w1 x z q m).2
  · rcases own' j w1 q with ⟨rfl, rfl⟩ | ⟨z, q⟩
    · have m : b ∈ f' := by simpa using m
      rcases hnew b m with z | ⟨z, z2⟩
      · obtain ⟨k1, k2, k3⟩ := s.ownF j w b he z
        exact ⟨k1, hin b z, k3⟩
      · exact ⟨freeF s.fh z, z2, .inl (Bn b z)⟩
    · have m : b ∈ fp j := by simpa [z] using m
      obtain ⟨k1, k2, k3⟩ := s.ownF j w1 b q m
      exact ⟨k1, by rw [hout b (nf j w1 b z q m).1 (nf j w1 b z q m).2]; exact k2, k3⟩
  · rcases own' j w1 q with ⟨rfl, rfl⟩ | ⟨z, q⟩
    · rcases own' k w2 q' with ⟨rfl, rfl⟩ | ⟨z', q'⟩
      · rfl
      · exact absurd (by simpa using m) (nf k w2 b z' q' (by simpa [z'] using m')).2
    · rcases own' k w2 q' with ⟨rfl, rfl⟩ | ⟨z', q'⟩
      · exact absurd (by simpa using m') (nf j w1 b z (by assumption) (by simpa [z] using m)).2
      · exact s.sep j k w1 w2 b q q' (by simpa [z] using m) (by simpa [z'] using m')
  · rcases own' j w1 q with ⟨rfl, rfl⟩ | ⟨z, q⟩
    · have m : b ∈ f' := by simpa using m
      rcases hnew b m with z | ⟨z, _⟩
      · exact s.wp j w b he z k hk
      · exact absurd (Bn b z) (s.pb k b hk)
    · exact s.wp j w1 b q (by simpa [z] using m) k hk

/-! ### own dicts with ints and texts as keys -/
def keyD : D → Option Key
  | .int i => some (.inl i)
  | .str x => some (.inr x)
  | _ => none
def keyOf : Key → D
  | .inl i => .int i
  | .inr x => .str x
theorem dp_key {F : Hp} {v : V} {k : Key} (h : Dx K F v (keyOf k)) : v = kV k := by
  cases k with
  | inl i => cases h; rfl
  | inr x => cases h; rfl
def valD (kvs : List (Key × D)) (k : Key) : Option D := (kvs.find? fun kv => decide (kv.1 = k)).map (·.2)
def putD (kvs : List (Key × D)) (k : Key) (d : D) : List (Key × D) := if (kvs.any fun kv => decide (kv.1 = k)) = true then kvs.map (fun kv => if kv.1 = k then (kv.1, d) else kv) else kvs ++ [(k, d)]
theorem kd_len {F : Hp} : ∀ {xs : List (Key × V)} {kvs : List (Key × D)}, KD K F xs kvs → xs.length = kvs.length
  | _, _, .nil => rfl
  | _, _, .cons _ t => by simp [kd_len t]
theorem kd_any {F : Hp} (k : Key) : ∀ {xs : List (Key × V)} {kvs : List (Key × D)}, KD K F xs kvs → (xs.any fun kv => decide (kv.1 = k)) = (kvs.any fun kv => decide (kv.1 = k))
  | _, _, .nil => rfl
  | _, _, .cons (a := p) (b := q) r t => by
    rw [List.any_cons, List.any_cons, kd_any k t, r.1]
theorem kd_val {F : Hp} (k : Key) : ∀ {xs : List (Key × V)} {kvs : List (Key × D)}, KD K F xs kvs → (valV xs k = none ∧ valD kvs k = none) ∨ ∃ v d, valV xs k = some v ∧ valD kvs k = some d ∧ Dx K F v d
  | _, _, .nil => .inl ⟨rfl, rfl⟩
  | _, _, .cons (a := p) (b := q) r t => by
    have ih := kd_val k t
    unfold valV valD at ih ⊢
    rw [List.find?_cons, List.find?_cons, r.1]
    by_cases e : q.1 = k
    · rw [decide_eq_true e]
      exact .inr ⟨p.2, q.2, rfl, rfl, r.2⟩
    · rw [decide_eq_false e]
      exact ih
theorem kd_map {F : Hp} (k : Key) {v : V} {d : D} (hv : Dx K F v d) : ∀ {xs : List (Key × V)} {kvs : List (Key × D)}, KD K F xs kvs → KD K F (xs.map fun kv => if kv.1 = k then (kv.1, v) else kv) (kvs.map fun kv => if kv.1 = k then (kv.1, d) else kv)
  | _, _, .nil => .nil
  | _, _, .cons (a := p) (b := q) r t => by
    refine .cons ?_ (kd_map k hv t)
    dsimp only
    rw [r.1]
    by_cases e : q.1 = k
    · rw [if_pos e, if_pos e]
      exact ⟨rfl, hv⟩
    · rw [if_neg e, if_neg e]
      exact r
theorem kd_app {F : Hp} : ∀ {xs ys : List (Key × V)} {kvs lvs : List (Key × D)}, KD K F xs kvs → KD K F ys lvs → KD K F (xs ++ ys) (kvs ++ lvs)
  | _, _, _, _, .nil, h => h
  | _, _, _, _, .cons r t, h => .cons r (kd_app t h)
theorem kd_put {F : Hp} {k : Key} {v : V} {d : D} (hv : Dx K F v d) {xs : List (Key × V)} {kvs : List (Key × D)} (h : KD K F xs kvs) : KD K F (putK xs k v) (putD kvs k d) := by
  unfold putK putD
  rw [kd_any k h]
  split
  · exact kd_map k hv h
  · exact kd_app h (.cons ⟨rfl, hv⟩ .nil)
theorem Sim.dkAt {c : Cc} {F H : Hp} {σ : L2.St} {ρ : Rho} (s : Sim c F H σ ρ) {i : Nat} {kvs : List (Key × D)} (he : ρ[i]? = some (.own (.dK kvs))) : ∃ a xs, σ[i]? = some (some (.ref a)) ∧ H a = some (.dK xs) ∧ KD c.K F xs kvs ∧ ∀ o w', OwRep c.K F (upd H a o) a [a] w' → Sim c F (upd H a o) σ (ρ.set i (.own w')) := by
  obtain ⟨fp, sf⟩ := s
  obtain ⟨a, e1, e2, xs, e3, e4⟩ := sf.own i _ he
  refine ⟨a, xs, e1, e3, e4, fun o w' hr => Sim.alter sf he e1 (fun b m _ => ?_) (fun b m => ?_) hr (fun b m => .inl (by rw [e2]; exact m))⟩
  · rw [upd_ne (fun z => m (by rw [e2, z]; simp))]
  · by_cases z : b = a
    · rw [z, upd_same]; simp
    · rw [upd_ne z]; exact (sf.ownF i _ b he m).2.1
section
variable {te ti : TE} {ρ ρ1 ρ2 : Rho} {d : D} {i : Nat} {k : Key} {P : Out → Prop} {kvs kvs0 : List (Key × D)}
/-- x = {} -/
theorem sv_newDict (h : P (.nx (ρ.set i (.own (.dK []))))) (hi : i < ρ.length) (hp : i ∉ g.ps) : Sv g (tAsg tDNewK (gName i)) ρ P := fun c F H σ E kk s p q hq => by
  obtain ⟨fp, sf⟩ := id s
  have hB : c.B q = none := by
    cases z : c.B q with
    | none => rfl
    | some u => exact absurd hq (sf.dom q (by simp [z]))
  have no : ∀ (j : Nat) (w : Ow), ρ[j]? = some (.own w) → q ∉ fp j := fun j w z m => (sf.ownF j w q z m).2.1 hq
  exact p.nx _ F (upd H q (.dK [])) _ h ((sf.other (freeF sf.fh hq) hB no).setOwn (f := [q]) ⟨rfl, [], upd_same, .nil⟩ (fun b m => by
    have z : b = q := by simpa using m
    subst z
    exact ⟨freeF sf.fh hq, by rw [upd_same]; simp, hB⟩) (fun j w' b z m => by
    have y : b = q := by simpa using m
    subst y
    exact no j w' z) hi (notP kk hp)) (Same.refl _)
theorem ed_din (hk : EvD g ti ρ (keyOf k) ρ1) (h1 : ρ1[i]? = some (.own (.dK kvs))) : EvD g (tDIn ti (tVar i)) ρ (.bool (valD kvs k).isSome) ρ1 := fun c F H σ kk s Q q => hk c F H σ kk s _ fun v F1 H1 s1 e1 x => by
  obtain ⟨a, xs, f1, f2, f3, _⟩ := s1.dkAt h1
  refine ⟨_, f1, a, valV xs k, rfl, ?_, ?_⟩
  · rw [dp_key x]
    exact DGet.k f2
  · rcases kd_val k f3 with ⟨z1, z2⟩ | ⟨v', d', z1, z2, _⟩ <;> rw [z1] <;> rw [z2] at q <;> exact q _ F1 H1 s1 e1 (.bl _)
theorem ed_dnotin (hk : EvD g ti ρ (keyOf k) ρ1) (h1 : ρ1[i]? = some (.own (.dK kvs))) : EvD g (tDNotIn ti (tVar i)) ρ (.bool (!(valD kvs k).isSome)) ρ1 := fun c F H σ kk s Q q => hk c F H σ kk s _ fun v F1 H1 s1 e1 x => by
  obtain ⟨a, xs, f1, f2, f3, _⟩ := s1.dkAt h1
  refine ⟨_, f1, a, valV xs k, rfl, ?_, ?_⟩
  · rw [dp_key x]
    exact DGet.k f2
  · rcases kd_val k f3 with ⟨z1, z2⟩ | ⟨v', d', z1, z2, _⟩ <;> rw [z1] <;> rw [z2] at q <;> exact q _ F1 H1 s1 e1 (.bl _)
theorem ed_dget (h0 : ρ[i]? = some (.own (.dK kvs0))) (hk : EvD g ti ρ (keyOf k) ρ1) (h1 : ρ1[i]? = some (.own (.dK kvs))) (hd : valD kvs k = some d) : EvD g (tDGet (tVar i) ti) ρ d ρ1 := fun c F H σ kk s Q q => by
  obtain ⟨a, xs, f1, f2, f3, _⟩ := s.dkAt h0
  refine ⟨_, f1, hk c F H σ kk s _ fun v F1 H1 s1 e1 x => ?_⟩
  obtain ⟨a', ys, g1, g2, g3, _⟩ := s1.dkAt h1
  have := some_inj2 f1 g1
  subst this
  rcases kd_val k g3 with ⟨z1, z2⟩ | ⟨v', d', z1, z2, z3⟩
  · rw [z2] at hd; cases hd
  · rw [hd] at z2
    cases z2
    refine ⟨a, v', rfl, ?_, q v' F1 H1 s1 e1 z3⟩
    rw [dp_key x, ← z1]
    exact DGet.k g2
theorem sv_dput (he : EvD g te ρ d ρ1) (h0 : ρ1[i]? = some (.own (.dK kvs0))) (hk : EvD g ti ρ1 (keyOf k) ρ2) (h1 : ρ2[i]? = some (.own (.dK kvs))) (hz : kvs.length < sizeLine) (h : P (.nx (ρ2.set i (.own (.dK (putD kvs k d)))))) :
    Sv g (sDPut (tVar i) ti te) ρ P := fun c F H σ E kk s p => he c F H σ kk.ok s _ fun v F1 H1 s1 e1 x => by
  obtain ⟨a, xs, f1, f2, f3, _⟩ := s1.dkAt h0
  refine ⟨_, f1, hk c F1 H1 σ kk.ok s1 _ fun u F2 H2 s2 e2 y => ?_⟩
  obtain ⟨a', ys, g1, g2, g3, g4⟩ := s2.dkAt h1
  have := some_inj2 f1 g1
  subst this
  refine ⟨a, _, rfl, by rw [dp_key y]; exact DPut.k g2 (by rw [kd_len g3]; exact hz), ?_⟩
  exact p.nx _ _ _ _ h (g4 _ _ ⟨rfl, _, upd_same, kd_put (dpUp e2 x) g3⟩) (e1.trans e2)
end

/-! ### own lists of own lists -/
theorem pairedGet {α β : Type} {R : α → β → Prop} : ∀ {xs : List α} {ys : List β} {i : Nat} {y : β}, Paired R xs ys → ys[i]? = some y → ∃ x, xs[i]? = some x ∧ R x y
  | _, _, _, _, .nil, e => by simp at e
  | _, _, 0, _, .cons r _, e => by simp at e; subst e; exact ⟨_, rfl, r⟩
  | _, _, i + 1, _, .cons _ t, e => by
    obtain ⟨x, h1, h2⟩ := pairedGet (i := i) t (by simpa using e)
    exact ⟨x, by simpa using h1, h2⟩
theorem pairedLen {α β : Type} {R : α → β → Prop} : ∀ {xs : List α} {ys : List β}, Paired R xs ys → xs.length = ys.length
  | _, _, .nil => rfl
  | _, _, .cons _ t => by simp [pairedLen t]
theorem pairedApp {α β : Type} {R : α → β → Prop} : ∀ {xs xs' : List α} {ys ys' : List β}, Paired R xs ys → Paired R xs' ys' → Paired R (xs ++ xs') (ys ++ ys')
  | _, _, _, _, .nil, h => h
  | _, _, _, _, .cons r t, h => .cons r (pairedApp t h)
theorem pairedSet {α β : Type} {R S : α → β → Prop} {y' : β} : ∀ {xs : List α} {ys : List β} {i : Nat} {x : α}, Paired R xs ys → xs[i]? = some x → xs.Nodup → S x y' → (∀ z y, z ≠ x → R z y → S z y) → Paired S xs (ys.set i y')
  | _, _, _, _, .nil, e, _, _, _ => by simp at e
  | x0 :: xs, _, 0, x, .cons r t, e, nd, h, f => by
    have e' : x0 = x := by simpa using e
    subst e'
    have nm : x0 ∉ xs := (List.nodup_cons.mp nd).1
    exact .cons h (pairedMap t fun z y m q => f z y (fun q2 => nm (q2 ▸ m)) q)
  | x0 :: xs, y0 :: ys, i + 1, x, .cons r t, e, nd, h, f => by
    have e' : xs[i]? = some x := by simpa using e
    have nm : x0 ∉ xs := (List.nodup_cons.mp nd).1
    have mx : x ∈ xs := List.mem_of_getElem? e'
    exact .cons (f _ _ (fun q => nm (q ▸ mx)) r) (pairedSet t e' (List.nodup_cons.mp nd).2 h f)
section
variable {te ti : TE} {ρ ρ1 ρ2 : Rho} {d : D} {i : Nat} {P : Out → Prop} {dss dss0 : List (List D)} {ds : List D}
/-- x = [] that is to hold own lists -/
theorem sv_newLls {tl : TE} (he : EvN g tl ρ [] ρ1) (h : P (.nx (ρ1.set i (.own (.lls []))))) (hi : i < ρ1.length) (hp : i ∉ g.ps) : Sv g (tAsg tl (gName i)) ρ P := fun c F H σ E kk s p =>
  he c F H σ kk.ok s _ fun q vs F1 H1 s1 e1 hq ha => by
    cases ha
    obtain ⟨fp, sf⟩ := id s1
    have hB : c.B q = none := by
      cases z : c.B q with
      | none => rfl
      | some u => exact absurd hq (sf.dom q (by simp [z]))
    have no : ∀ (j : Nat) (w : Ow), ρ1[j]? = some (.own w) → q ∉ fp j := fun j w z m => (sf.ownF j w q z m).2.1 hq
    exact p.nx _ F1 _ _ h ((sf.other (freeF sf.fh hq) hB no).setOwn (f := [q]) ⟨[], rfl, by simp, upd_same, .nil⟩ (fun b m => by
      have z : b = q := by simpa using m
      subst z
      exact ⟨freeF sf.fh hq, by rw [upd_same]; simp, hB⟩) (fun j w' b z m => by
      have y : b = q := by simpa using m
      subst y
      exact no j w' z) hi (notP kk hp)) e1
theorem Sim.llsAt {c : Cc} {F H : Hp} {σ : L2.St} {ρ : Rho} (s : Sim c F H σ ρ) (he : ρ[i]? = some (.own (.lls dss))) : ∃ a bs fp, SimF c F H σ ρ fp ∧ fp i = a :: bs ∧ (a :: bs).Nodup ∧ σ[i]? = some (some (.ref a)) ∧ H a = some (.lst (bs.map V.ref)) ∧ Paired (fun b ds => ∃ vs, H b = some (.lst vs) ∧ DxAll c.K F vs ds) bs dss := by
  obtain ⟨fp, sf⟩ := s
  obtain ⟨a, e1, bs, e2, e3, e4, e5⟩ := sf.own i _ he
  exact ⟨a, bs, fp, sf, e2, by rw [← e2]; exact e3, e1, e4, e5⟩
/-- len(x) -/
theorem ed_lenLls (h0 : ρ[i]? = some (.own (.lls dss))) : EvD g (tCB (rLen g.K) (tCons (tVar i) tNil)) ρ (.int dss.length) ρ := fun c F H σ kk s Q q => by
  obtain ⟨a, bs, fp, sf, e2, e3, e1, e4, e5⟩ := s.llsAt h0
  refine ⟨_, e1, a, bs.map V.ref, rfl, .inl (.inl (.inl e4)), ?_⟩
  have : ((bs.map V.ref).length : Int) = dss.length := by rw [List.length_map, pairedLen e5]
  rw [this]
  exact q _ F H s (Same.refl _) (.int _)
/-- x.append([..]) -/
theorem sv_appLls (h0 : ρ[i]? = some (.own (.lls dss0))) (he : EvN g te ρ ds ρ1) (h1 : ρ1[i]? = some (.own (.lls dss))) (hz : dss.length < sizeLine) (h : P (.nx (ρ1.set i (.own (.lls (dss ++ [ds])))))) :
    Sv g (tDrop (tBM g.K "list" rAppend (tVar i) (tCons te tNil))) ρ P := fun c F H σ E kk s p => by
  obtain ⟨a, bs, fp, sf, e2, e3, e1, e4, e5⟩ := s.llsAt h0
  refine ⟨.ref a, e1, .inl ⟨rfl, _, .inl (.inl e4)⟩, he c F H σ kk.ok s _ fun q vs F1 H1 s1 q1 hq x => ?_⟩
  obtain ⟨a', bs', fp', sf', f2, f3, f1, f4, f5⟩ := s1.llsAt h1
  have := some_inj2 e1 f1
  subst this
  have haq : a ≠ q := fun z => by rw [z, hq] at f4; cases f4
  have nq : ∀ b ∈ bs', b ≠ q := fun b m z => by
    have := (sf'.ownF i _ b h1 (by rw [f2]; exact List.mem_cons_of_mem _ m)).2.1
    rw [z] at this
    exact this hq
  have hl := pairedLen f5
  refine ⟨a, bs'.map V.ref, .ref q, rfl, rfl, by rw [upd_ne haq]; exact f4, by rw [List.length_map, hl]; exact hz, ?_⟩
  have eH : upd (upd H1 q (.lst vs)) a (.lst (bs'.map V.ref ++ [.ref q])) = upd (upd H1 q (.lst vs)) a (.lst ((bs' ++ [q]).map V.ref)) := by rw [List.map_append]; rfl
  rw [eH]
  refine p.nx _ F1 _ _ h (Sim.alter (f' := a :: (bs' ++ [q])) sf' h1 f1 (fun b m m' => ?_) (fun b m => ?_) ⟨bs' ++ [q], rfl, ?_, upd_same, ?_⟩ (fun b m => ?_)) q1
  · rw [f2] at m
    have z1 : b ≠ a := fun z => m (by simp [z])
    have z2 : b ≠ q := fun z => m' (by simp [z])
    rw [upd_ne z1, upd_ne z2]
  · by_cases z1 : b = a
    · rw [z1, upd_same]; simp
    · rw [upd_ne z1]
      by_cases z2 : b = q
      · rw [z2, upd_same]; simp
      · rw [upd_ne z2]; exact (sf'.ownF i _ b h1 m).2.1
  · have nd := f3
    have : (a :: (bs' ++ [q])) = (a :: bs') ++ [q] := rfl
    rw [this]
    refine List.nodup_append.mpr ⟨nd, by simp, fun b m c' m' => ?_⟩
    have : c' = q := by simpa using m'
    subst this
    rcases List.mem_cons.mp m with z | z
    · rw [z]; exact haq
    · exact nq b z
  · refine pairedApp (pairedMap f5 fun b ds' m ⟨ws, k1, k2⟩ => ⟨ws, ?_, k2⟩) (.cons ⟨vs, ?_, x⟩ .nil)
    · have z1 : b ≠ a := fun z => (List.nodup_cons.mp f3).1 (z ▸ m)
      rw [upd_ne z1, upd_ne (nq b m)]
      exact k1
    · rw [upd_ne (Ne.symm haq)]
      exact upd_same
  · rcases List.mem_cons.mp m with z | z
    · exact .inl (by rw [f2, z]; simp)
    · rcases List.mem_append.mp z with z | z
      · exact .inl (by rw [f2]; exact List.mem_cons_of_mem _ z)
      · have : b = q := by simpa using z
        subst this
        exact .inr ⟨hq, by rw [upd_ne (Ne.symm haq), upd_same]; simp⟩
theorem set_same {σ : L2.St} {i : Nat} {v : V} (h : σ[i]? = some (some v)) : σ.set i (some v) = σ := by
  apply List.ext_getElem?
  intro n
  by_cases z : n = i
  · subst z
    rw [List.getElem?_set_self (List.getElem?_eq_some_iff.mp h).1, h]
  · rw [List.getElem?_set_ne (Ne.symm z)]
/-- one own thing hidden: what is done then leaves it as it is -/
theorem SimF.hide {c : Cc} {F H : Hp} {σ : L2.St} {fp : Nat → List Addr} (s : SimF c F H σ ρ fp) (i : Nat) : SimF c F H σ (ρ.set i .no) fp := by
  have o' : ∀ (j : Nat) (w : Ow), (ρ.set i .no)[j]? = some (.own w) → j ≠ i ∧ ρ[j]? = some (.own w) := fun j w q => by
    by_cases z : j = i
    · subst z
      by_cases hl : j < ρ.length
      · rw [List.getElem?_set_self hl] at q; cases q
      · rw [List.getElem?_eq_none (by simpa using hl)] at q; cases q
    · rw [List.getElem?_set_ne (Ne.symm z)] at q; exact ⟨z, q⟩
  have d' : ∀ (j : Nat) (d : D), (ρ.set i .no)[j]? = some (.dat d) → ρ[j]? = some (.dat d) := fun j w q => by
    by_cases z : j = i
    · subst z
      by_cases hl : j < ρ.length
      · rw [List.getElem?_set_self hl] at q; cases q
      · rw [List.getElem?_eq_none (by simpa using hl)] at q; cases q
    · rw [List.getElem?_set_ne (Ne.symm z)] at q; exact q
  exact ⟨s.f0, s.fh, s.keep, s.dom, s.av, s.par, fun j d q => s.dat j d (d' j d q), fun j w q => s.own j w (o' j w q).2, fun j w b q => s.ownF j w b (o' j w q).2, fun j k w w' b q q' => s.sep j k w w' b (o' j w q).2 (o' k w' q').2, by simpa using s.len, fun j w b q => s.wp j w b (o' j w q).2, s.pb⟩
theorem hide_own {i j : Nat} {w : Ow} (q : (ρ.set i .no)[j]? = some (.own w)) : j ≠ i ∧ ρ[j]? = some (.own w) := by
  by_cases z : j = i
  · subst z
    by_cases hl : j < ρ.length
    · rw [List.getElem?_set_self hl] at q; cases q
    · rw [List.getElem?_eq_none (by simpa using hl)] at q; cases q
  · rw [List.getElem?_set_ne (Ne.symm z)] at q; exact ⟨z, q⟩
/-- x[e].append(e') -/
theorem sv_appAt {n : Int} {j : Nat} (h0 : ρ[i]? = some (.own (.lls dss0))) (hi : EvD g ti ρ (.int n) ρ1) (h1 : ρ1[i]? = some (.own (.lls dss))) (hj : ixN dss.length n = some j) (he : EvD g te (ρ1.set i .no) d ρ2) (hd : dss[j]? = some ds) (hz : ds.length < sizeLine)
    (h : P (.nx (ρ2.set i (.own (.lls (dss.set j (ds ++ [d]))))))) (hil : i < ρ2.length) (hp : i ∉ g.ps) : Sv g (tDrop (tBM g.K "list" rAppend (tOp (rIx g.K) (tVar i) ti) (tCons te tNil))) ρ P := fun c F H σ E kk s p => by
  obtain ⟨a, bs, fp, sf, e2, e3, e1, e4, e5⟩ := s.llsAt h0
  refine ⟨.ref a, e1, hi c F H σ kk.ok s _ fun v F1 H1 s1 q1 x => ?_⟩
  cases x
  obtain ⟨a', bs', fp', sf', f2, f3, f1, f4, f5⟩ := s1.llsAt h1
  have := some_inj2 e1 f1
  subst this
  obtain ⟨b, hb, ws, hw, hwd⟩ := pairedGet f5 hd
  have hl := pairedLen f5
  refine .inl ⟨a, bs'.map V.ref, n, .ref b, rfl, rfl, .inl (.inl f4), ?_, ?_⟩
  · unfold atI
    rw [List.length_map, hl, hj]
    show (bs'.map V.ref)[j]? = _
    rw [List.getElem?_map, hb]
    rfl
  · have sh := sf'.hide i
    refine ⟨.inl ⟨rfl, ws, .inl (.inl hw)⟩, he (c.re F1 H1 (ownW (ρ1.set i .no) fp')) F1 H1 σ kk.ok ⟨fp', sh.re⟩ _ fun v F2 H2 s2 q2 y => ?_⟩
    obtain ⟨fp2, sf2⟩ := s2
    have nW : ∀ z ∈ fp' i, ¬ ownW (ρ1.set i .no) fp' z := fun z m ⟨k, w, q, m'⟩ => by
      obtain ⟨ne, q'⟩ := hide_own q
      exact ne (sf'.sep k i w _ z q' h1 m' m)
    have same : ∀ z ∈ fp' i, H2 z = H1 z := fun z m => by
      cases q : H1 z with
      | none => exact absurd q (sf'.ownF i _ z h1 m).2.1
      | some o => exact sf2.keep z o q (nW z m)
    have fr : ∀ z ∈ fp' i, F2 z = none ∧ c.B z = none := fun z m => by
      obtain ⟨k1, k2, k3⟩ := sf'.ownF i _ z h1 m
      refine ⟨sf2.av z k2 k1, k3.resolve_right fun w => ?_⟩
      obtain ⟨j', hj'⟩ := kk.wp z w
      have := sf'.wp i _ z h1 m j' hj'
      subst this
      exact notP kk hp z hj'
    have no : ∀ (k : Nat) (w : Ow) z, ρ2[k]? = some (.own w) → z ∈ fp' i → z ∉ fp2 k := fun k w z q m m' => by
      rcases (sf2.ownF k w z q m').2.2 with e | e
      · exact (sf'.ownF i _ z h1 m).2.1 e
      · exact nW z m e
    have ma : a ∈ fp' i := by rw [f2]; simp
    have mbs : ∀ z ∈ bs', z ∈ fp' i := fun z m => by rw [f2]; exact List.mem_cons_of_mem _ m
    have mb : b ∈ fp' i := mbs b (List.mem_of_getElem? hb)
    have hba : b ≠ a := fun z => (List.nodup_cons.mp f3).1 (z ▸ List.mem_of_getElem? hb)
    refine ⟨b, ws, v, rfl, rfl, by rw [same b mb]; exact hw, by rw [dpAllLen hwd]; exact hz, ?_⟩
    have t2 := (sh.un sf2).other (o := .lst (ws ++ [v])) (fr b mb).1 (fr b mb).2 (fun k w q m => no k w b q mb m)
    have e12 : Same F1 F2 := sf2.f0
    have t3 := t2.setOwn (i := i) (a := a) (f := fp' i) (w := .lls (dss.set j (ds ++ [d]))) ?_ (fun z m => ⟨(fr z m).1, ?_, (fr z m).2⟩) (fun k w z q m => no k w z q m) hil (notP kk hp)
    · rw [set_same f1] at t3
      exact p.nx _ F2 _ _ h t3 (q1.trans e12)
    · rw [f2]
      refine ⟨bs', rfl, f3, by rw [upd_ne (Ne.symm hba), same a ma]; exact f4, ?_⟩
      refine pairedSet (pairedMap (S := fun b ds => ∃ vs, H2 b = some (.lst vs) ∧ DxAll c.K F2 vs ds) f5 fun z ds' m ⟨us, k1, k2⟩ => ⟨us, by rw [same z (mbs z m)]; exact k1, dpAllUp e12 k2⟩) hb (List.nodup_cons.mp f3).2 ⟨ws ++ [v], upd_same, dpAllApp (dpAllUp e12 hwd) (.cons y .nil)⟩ fun z ds' ne ⟨us, k1, k2⟩ => ⟨us, by rw [upd_ne ne]; exact k1, k2⟩
    · by_cases q : z = b
      · rw [q, upd_same]; simp
      · rw [upd_ne q, same z m]; exact (sf'.ownF i _ z h1 m).2.1
end
end DL

namespace DL
open PySem PySem.Spec PyProof.Rows L2
variable {K : PySem.W.Frag} {g : Gm} {X : Cx}
/-! ### own things lent as data for a look -/
def lentE : Ent → Ent
  | .dat d => .dat d
  | .own (.lst ds) => .dat (.list ds)
  | .own (.lls dss) => .dat (.list (dss.map .list))
  | _ => .no
theorem lendF {c : Cc} {F H : Hp} {σ : L2.St} {ρ : Rho} {fp : Nat → List Addr} (s : SimF c F H σ ρ fp) : ∃ F', Same F F' ∧ Sim (c.re F' H noW) F' H σ (ρ.map lentE) := by
  classical
  let own1 : Addr → Prop := fun a => ∃ (i : Nat) (w : Ow), ρ[i]? = some (.own w) ∧ a ∈ fp i
  let F' : Hp := fun a => if own1 a then H a else F a
  have e1 : Same F F' := fun a o q => by
    have : ¬ own1 a := fun ⟨i, w, e, m⟩ => by rw [(s.ownF i w a e m).1] at q; cases q
    simp only [F', if_neg this]
    exact q
  have e2 : Same F' H := fun a o q => by
    by_cases z : own1 a
    · simpa [F', if_pos z] using q
    · simp only [F', if_neg z] at q
      exact s.fh a o q
  have at1 : ∀ a, own1 a → F' a = H a := fun a z => by simp only [F', if_pos z]
  have own0 : ∀ (i : Nat) (w : Ow), (ρ.map lentE)[i]? ≠ some (.own w) := fun i w q => by
    rw [List.getElem?_map] at q
    cases e : ρ[i]? with
    | none => rw [e] at q; cases q
    | some en =>
      rw [e] at q
      cases en with
      | no => cases q
      | dat d => cases q
      | own w' => cases w' <;> cases q
  refine ⟨F', e1, fun _ => [], Same.refl _, e2, fun a o q _ => q, fun a q => q, fun a _ q => q, s.par, fun i d q => ?_, fun i w q => (own0 i w q).elim, fun i w b q => (own0 i w q).elim, fun i j w w' b q => (own0 i w q).elim, by rw [List.length_map]; exact s.len, fun i w b q => (own0 i w q).elim, fun j b m => s.dom b (s.pb j b m)⟩
  rw [List.getElem?_map] at q
  cases e : ρ[i]? with
  | none => rw [e] at q; cases q
  | some en =>
    rw [e] at q
    cases en with
    | no => cases q
    | dat d' =>
      cases q
      obtain ⟨v, h1, h2⟩ := s.dat i _ e
      exact ⟨v, h1, dpUp e1 h2⟩
    | own w =>
      obtain ⟨a, h1, h2⟩ := s.own i w e
      cases w with
      | lst ds =>
        cases q
        obtain ⟨e3, vs, h3, h4⟩ := h2
        exact ⟨_, h1, .lst (.inl (.inl (by rw [at1 a ⟨i, _, e, by rw [e3]; simp⟩]; exact h3))) (dpAllUp e1 h4)⟩
      | lls dss =>
        cases q
        obtain ⟨bs, e3, nd, h3, h4⟩ := h2
        refine ⟨_, h1, .lst (.inl (.inl (by rw [at1 a ⟨i, _, e, by rw [e3]; simp⟩]; exact h3))) ?_⟩
        have all : ∀ (bs' : List Addr) (dss' : List (List D)), (∀ b ∈ bs', b ∈ fp i) → Paired (fun b ds => ∃ vs, H b = some (.lst vs) ∧ DxAll c.K F vs ds) bs' dss' → DxAll c.K F' (bs'.map V.ref) (dss'.map .list) := by
          intro bs' dss' hm hp
          induction hp with
          | nil => exact .nil
          | cons r t ih =>
            obtain ⟨vs, k1, k2⟩ := r
            refine .cons (.lst (.inl (.inl ?_)) (dpAllUp e1 k2)) (ih fun b m => hm b (List.mem_cons_of_mem _ m))
            rw [at1 _ ⟨i, _, e, hm _ List.mem_cons_self⟩]
            exact k1
        exact all bs dss (fun b m => by rw [e3]; exact List.mem_cons_of_mem _ m) h4
      | dK kvs => cases q
/-- back: all stood as it was -/
theorem lendBack {c : Cc} {F H F' F2 H2 : Hp} {σ : L2.St} {ρ ρ' : Rho} {fp : Nat → List Addr} (s : SimF c F H σ ρ fp) (t : Sim (c.re F' H noW) F2 H2 σ ρ') : Sim c F H2 σ ρ := by
  obtain ⟨fp', t⟩ := t
  have k : ∀ a o, H a = some o → H2 a = some o := fun a o q => t.keep a o q id
  have ke : ∀ (i : Nat) (w : Ow) b, ρ[i]? = some (.own w) → b ∈ fp i → H2 b = H b := fun i w b q m => by
    cases z : H b with
    | none => exact absurd z (s.ownF i w b q m).2.1
    | some o => exact k b o z
  refine ⟨fp, s.f0, fun a o q => k a o (s.fh a o q), fun a o q w => k a o (s.keep a o q w), fun a q => t.dom a (s.dom a q), s.av, s.par, s.dat, fun i w q => ?_, fun i w b q m => ?_, s.sep, s.len, s.wp, s.pb⟩
  · obtain ⟨a, h1, h2⟩ := s.own i w q
    exact ⟨a, h1, h2.up (Same.refl _) fun b m => ke i w b q m⟩
  · obtain ⟨h1, h2, h3⟩ := s.ownF i w b q m
    exact ⟨h1, by rw [ke i w b q m]; exact h2, h3⟩
theorem et_lend {tt : TT} {ρ ρ' : Rho} {b : Bool} (h : EvT g tt (ρ.map lentE) b ρ') : EvT g tt ρ b ρ := fun c F H σ k s Q q => by
  obtain ⟨fp, sf⟩ := s
  obtain ⟨F', e, s'⟩ := lendF sf
  exact h (c.re F' H noW) F' H σ k s' Q fun F2 H2 s2 _ => q F H2 (lendBack sf s2) (Same.refl _)
theorem ed_lend {te : TE} {ρ ρ' : Rho} {d : D} (h : EvD g te (ρ.map lentE) d ρ') (ha : ∀ (K : PySem.W.Frag) (F F' : Hp) (v : V), Dx K F v d → Dx K F' v d) : EvD g te ρ d ρ := fun c F H σ k s Q q => by
  obtain ⟨fp, sf⟩ := s
  obtain ⟨F', e, s'⟩ := lendF sf
  exact h (c.re F' H noW) F' H σ k s' Q fun v F2 H2 s2 _ x => q v F H2 (lendBack sf s2) (Same.refl _) (ha _ _ _ _ x)
theorem atomI {i : Int} : ∀ (K : PySem.W.Frag) (F F' : Hp) (v : V), Dx K F v (.int i) → Dx K F' v (.int i) := fun K F F' v h => by cases h; exact .int i
theorem atomB {i : Bool} : ∀ (K : PySem.W.Frag) (F F' : Hp) (v : V), Dx K F v (.bool i) → Dx K F' v (.bool i) := fun K F F' v h => by cases h; exact .bl i
theorem atomS {i : Str} : ∀ (K : PySem.W.Frag) (F F' : Hp) (v : V), Dx K F v (.str i) → Dx K F' v (.str i) := fun K F F' v h => by cases h; exact .str i

/-! ### exceptions -/
inductive RetX where
  | ok (r : RetV)
  | exc (C : Addr)
def RxOk (K : PySem.W.Frag) (F H : Hp) (Q : VK) (E : XK) : RetX → Prop
  | .ok r => ∀ v F' H', Sim ⟨K, [], noW, F, H⟩ F' H' [] [] → RetOk ⟨K, [], noW, F, H⟩ F' H' v r → Q v H'
  | .exc C => ∀ F' H', Sim ⟨K, [], noW, F, H⟩ F' H' [] [] → E (.ref C) none H'
def spX (R : List D → RetX → Prop) (K : PySem.W.Frag) : Sp := fun vs H Q E => ∃ F ds r, Same F H ∧ DxAll K F vs ds ∧ R ds r ∧ RxOk K F H Q E r
/-- raise C('..') -/
def tRaiseO (C : Addr) (E : XK) : TS := fun _ _ H => E (.ref C) none H
theorem sv_raise {ρ : Rho} {C : Addr} {P : Out → Prop} (h : P (.ex C ρ)) : Sv g (tRaiseO C g.xe) ρ P := fun c F H σ E k s p => p.ex _ _ _ _ _ h s (Same.refl _)
def RetXP (r : RetX) : Out → Prop
  | .nx _ => r = .ok (.dat .none)
  | .rt _ r' => r = .ok r'
  | .ex C _ => r = .exc C
  | _ => False
theorem body_X {t : TS} {N : List Str} {vs : List V} {ds : List D} {F H : Hp} {r : RetX} {Q : VK} {E : XK} (e : Same F H) (h : DxAll K F vs ds) (hb : Sv ⟨K, [], E⟩ t (rho0 N (ds.map .dat)) (RetXP r))
    (q : RxOk K F H Q E r) : t { nx := fun _ H' => Q .non H', rt := Q } (L2.start N vs) H :=
  hb ⟨K, [], noW, F, H⟩ F H _ _ ⟨⟨rfl, rfl⟩, fun a z => z.elim⟩ (sim_start e h)
    ⟨fun ρ F' H' σ z s e => by
      have z : r = .ok (.dat .none) := z
      subst z
      exact q _ F' H' (s.cut rfl) Dx.non, fun ρ F' H' σ v r' z s e x => by
      have z : r = .ok r' := z
      subst z
      exact q v F' H' (s.cut rfl) x, fun _ _ _ _ z => z.elim, fun _ _ _ _ z => z.elim, fun ρ F' H' σ C z s e => by
      have z : r = .exc C := z
      subst z
      exact q F' H' (s.cut rfl)⟩
section
variable {P : Program} {w : World} {mg : Str → Option Value} {base : Heap} {x qual : Str} {st : Stmt} {f : Addr} {fd : FuncData} {N ps : List Str} {k : Nat}
theorem def_X {R : List D → RetX → Prop} (Fn : Fun K x qual st f fd) (S : FnScope N ps (defScope st)) (len : ∀ ds r, R ds r → ds.length = ps.length) {t : XK → TS}
    (ht : ∀ (cdv : Value) (A : Around) (outer : List PySem.Env) (s : Shared) (H : Hp) (E : XK), Room k (A.deeper (envOfC qual (defScope st) s.heap.objs.size f cdv)) → PSs (cxOf (L2.CX P w) P w K mg base N qual (defScope st) f cdv A outer s H E) (defBody st) (t E))
    (hv : ∀ ds r E, R ds r → Sv ⟨K, [], E⟩ (t E) (rho0 N (ds.map .dat)) (RetXP r)) : FnOk P w K mg base (L2.CX P w) (k + 1) f fd ps (spX R K) := by
  refine Fn.okX S (fun vs H Q E h => ?_) (fun cdv A outer s H vs Q E hr h => ?_)
  · obtain ⟨F, ds, r, _, h1, h2, _⟩ := h
    rw [dpAllLen h1]
    exact len ds r h2
  · obtain ⟨F, ds, r, e, h1, h2, q⟩ := h
    exact ⟨t E, ht cdv A outer s H E hr, body_X e h1 (hv ds r E h2) q⟩
end
/-- nothing is let out where it is not wished -/
theorem passX {P : Program} {w : World} (hP : X.prog = P) (hw : X.w = w) : Passes (L2.CX P w) X E0 := fun _ _ _ _ _ _ _ ⟨_, _, _, _, _, _, _, _, _, _, _, _, z⟩ => z.elim
section
variable {t : TA} {ρ ρ1 : Rho} {As : List Arg} {ds : List D} {d : D} {E : XK}
/-- a call that gives a value -/
theorem ed_callX {R : List D → RetX → Prop} (ha : EvA g t ρ As ρ1) (hR : R ds (.ok (.dat d))) (hd : datas As = some ds := by rfl) : EvD g (tCall (spX R g.K) [] E t) ρ d ρ1 := fun c F H σ k s Q q =>
  ha c F H σ k s _ fun vs F1 H1 s1 e1 h1 => by
    have kk : c.K = g.K := k.1
    obtain ⟨fp, sf⟩ := id s1
    rw [List.append_nil, ← kk]
    refine ⟨F1, ds, .ok (.dat d), s1.fh, h1.datas hd, hR, fun v F' H' t r => ?_⟩
    have t' := sf.after t
    exact q v F' H' ⟨fp, t'⟩ (e1.trans t.f0) r
/-- try: f(..) except C as e: suite -/
def tTryCall (R : List D → RetX → Prop) (K : PySem.W.Frag) (c : Value) (i : Nat) (ts : Addr → Value → Option Addr → TS) (t : TA) : TS := fun D σ H => tDrop (tCallS (spX R K) (WE (wAs K c i ts (fun _ _ _ _ => False) D)) t) D σ H
theorem sv_tryOk {R : List D → RetX → Prop} {cv : Value} {i : Nat} {ts : Addr → Value → Option Addr → TS} {P : Out → Prop} (ha : EvA g t ρ As ρ1) (hR : R ds (.ok (.dat d))) (hd : datas As = some ds) (h : P (.nx ρ1)) : Sv g (tTryCall R g.K cv i ts t) ρ P := fun c F H σ D k s p =>
  ha c F H σ k.ok s _ fun vs F1 H1 s1 e1 h1 => by
    have kk : c.K = g.K := k.ok.1
    obtain ⟨fp, sf⟩ := id s1
    rw [← kk]
    refine ⟨F1, ds, .ok (.dat d), s1.fh, h1.datas hd, hR, fun v F' H' t r => ?_⟩
    exact p.nx _ F' H' σ h ⟨fp, sf.after t⟩ (e1.trans t.f0)
/-- .. the suite gives a truth value back -/
theorem sv_tryEx {R : List D → RetX → Prop} {cv : Value} {i : Nat} {ts : Addr → Value → Option Addr → TS} {P : Out → Prop} {C : Addr} {b : Bool} (ha : EvA g t ρ As ρ1) (hR : R ds (.exc C)) (hd : datas As = some ds) (hc : PySem.W.exmOne g.K (.ref C) cv = some true)
    (hs : ∀ (a : Addr) (σ : L2.St) (H : Hp) (D : Ends), σ[i]? = some (some (.ref a)) → (∀ H', Same H H' → D.rt (.bl b) H') → ts a (.ref C) none D σ H) (hi : i < ρ1.length) (h : P (.rt ρ1 (.dat (.bool b)))) : Sv g (tTryCall R g.K cv i ts t) ρ P := fun c F H σ D k s p =>
  ha c F H σ k.ok s _ fun vs F1 H1 s1 e1 h1 => by
    have kk : c.K = g.K := k.ok.1
    obtain ⟨fp, sf⟩ := id s1
    rw [← kk] at hc ⊢
    refine ⟨F1, ds, .exc C, s1.fh, h1.datas hd, hR, fun F' H' t => ⟨true, hc, fun _ a na => ?_, fun z => nomatch z⟩⟩
    have t' := sf.after t
    refine hs a (σ.set i (some (.ref a))) H' _ (List.getElem?_set_self (by rw [t'.len]; exact hi)) fun H2 e2 => ?_
    have t3 : Sim c F' H2 σ ρ1 := by
      refine ⟨fp, t'.f0, t'.fh.trans e2, fun a o q w => e2 a o (t'.keep a o q w), fun a q => ?_, t'.av, t'.par, t'.dat, fun j w q => ?_, fun j w b q m => ?_, t'.sep, t'.len, t'.wp, t'.pb⟩
      · cases z : H' a with
        | none => exact absurd z (t'.dom a q)
        | some o => rw [e2 a o z]; simp
      · obtain ⟨a, k1, k2⟩ := t'.own j w q
        refine ⟨a, k1, k2.up (Same.refl _) fun b m => ?_⟩
        cases z : H' b with
        | none => exact absurd z (t'.ownF j w b q m).2.1
        | some o => rw [e2 b o z]
      · obtain ⟨k1, k2, k3⟩ := t'.ownF j w b q m
        refine ⟨k1, ?_, k3⟩
        cases z : H' b with
        | none => exact absurd z k2
        | some o => rw [e2 b o z]; simp
    exact p.rt _ F' H2 σ _ _ h t3 (e1.trans t.f0) (.bl b)
end

/-! ### isinstance of a caught exception -/
/-- of a class, of a tuple of classes -/
def rIsX (K : PySem.W.Frag) (a : Addr) (cls : Value) (d : Option Addr) : List V → Hp → VK → Prop := fun xs H Q => ∃ Da, cls = .ref Da ∧ d = none ∧ ExcC K Da ∧
  ((∃ (c : Addr) (b : Bool), xs = [.ref a, .ref c] ∧ PySem.W.kitOne K (.ref Da) (.ref c) = some b ∧ Q (.bl b) H) ∨
    ∃ (tp : Addr) (cs : List Addr) (b : Bool), xs = [.ref a, .ref tp] ∧ H tp = some (.tup (cs.map V.ref)) ∧ PySem.W.kitAny K (.ref Da) (cs.map Value.ref) = some b ∧ Q (.bl b) H)
theorem valsRefs : ∀ {cs : List Addr} {us : List Value}, Vals (cs.map V.ref) us → us = cs.map Value.ref
  | [], _, .nil => rfl
  | c :: cs, _, .cons r t => by
    cases r
    rw [valsRefs t]
    rfl
theorem cr_isX {a : Addr} {oe : Obj} {cls : Value} {d : Option Addr} {pn : List (Addr × Obj)} (hz : Zc cls d oe) (hf : ∃ vs, oe.data = .fields vs) : CallR (X.suite a ((a, oe) :: pn)) (.builtin "isinstance") (rIsX X.K a cls d) := by
  intro pins s σ H xs us Q I r h
  obtain ⟨Da, rfl, rfl, C, h⟩ := h
  rcases h with ⟨c, b, rfl, e, q⟩ | ⟨tp, cs, b, rfl, hT, e, q⟩
  · exact call_isE C hz hf pins s σ H _ us Q I r ⟨.ref c, .ref c, b, rfl, fun u z => z, e, q⟩
  · obtain ⟨u1, u2, rfl, r1, r2⟩ := vals2 r
    cases r1
    cases r2
    obtain ⟨hget, _⟩ := I.pin (a, oe) (List.mem_append.mpr (.inl List.mem_cons_self))
    obtain ⟨vs, hv⟩ := hf
    have J : PySem.W.InstAt s.heap a oe Da none := by
      obtain ⟨oc, od, oda, osl⟩ := oe
      obtain ⟨h1, h2⟩ := hz
      dsimp only at h1 h2 hv
      subst h1 h2 hv
      exact ⟨hget, rfl, rfl, trivial⟩
    obtain ⟨_, its, rv, o, h1, h2, n, h3⟩ := (show ObjOk X.prog X.w H s.heap tp (.tup (cs.map V.ref)) from I.hok tp _ hT)
    have e3 := valsRefs rv
    subst e3
    obtain ⟨oc, od, dt, sl⟩ := o
    simp only at h2 h3
    subst h2 h3
    exact PySem.W.kia_tup (PySem.W.handS_kitx_exc C.hg C.hk C.hs C.hd C.ha C.hn C.ht C.hm) I.kIn J h1 e (fun z => nomatch z) fun tk => ⟨.bl b, H, I.kept (t' := tk) fun _ _ z => z, rfl, q⟩
def tRefs : List Addr → TA
  | [] => tNil
  | c :: cs => tCons (tC (.ref c)) (tRefs cs)
theorem tRefs_ok : ∀ (cs : List Addr) (σ : L2.St) (H : Hp) (Q : List V → Hp → Prop), Q (cs.map V.ref) H → tRefs cs σ H Q
  | [], σ, H, Q, h => h
  | c :: cs, σ, H, Q, h => tRefs_ok cs σ H _ h
/-- return isinstance(e, S) and (not isinstance(e, (T, ..))) -/
def tSuite (K : PySem.W.Frag) (i : Nat) (S : Addr) (cs : List Addr) : Addr → Value → Option Addr → TS := fun a cls d =>
  tRet (tAndV (tCB (rIsX K a cls d) (tCons (tVar i) (tCons (tC (.ref S)) tNil))) (tNotV (tCB (rIsX K a cls d) (tCons (tVar i) (tCons (tTup (tRefs cs)) tNil)))))
theorem suite_ok {i : Nat} {S C : Addr} {cs : List Addr} (hC : ExcC K C) (h1 : PySem.W.kitOne K (.ref C) (.ref S) = some true) (h2 : PySem.W.kitAny K (.ref C) (cs.map Value.ref) = some false) (hz : cs.length ≤ sizeLine) (a : Addr) (σ : L2.St) (H : Hp) (D : Ends)
    (hσ : σ[i]? = some (some (.ref a))) (q : ∀ H', Same H H' → D.rt (.bl true) H') : tSuite K i S cs a (.ref C) none D σ H := by
  refine ⟨_, hσ, C, rfl, rfl, hC, .inl ⟨S, true, rfl, h1, true, rfl, ?_⟩⟩
  rw [if_pos rfl]
  refine ⟨_, hσ, tRefs_ok cs σ H _ ⟨by rw [List.length_map]; exact hz, fun p hp => ?_⟩⟩
  exact ⟨C, rfl, rfl, hC, .inr ⟨p, cs, false, rfl, upd_same, h2, false, rfl, q _ (sameNew hp)⟩⟩
end DL

namespace DL
open PySem PySem.Spec PyProof.Rows L2
variable {K : PySem.W.Frag} {g : Gm}
theorem kd_get {F : Hp} : ∀ {xs : List (Key × V)} {kvs : List (Key × D)} {i : Nat} {k : Key} {v : V}, KD K F xs kvs → xs[i]? = some (k, v) → ∃ d, kvs[i]? = some (k, d) ∧ Dx K F v d
  | _, _, _, _, _, .nil, e => by simp at e
  | _, _, 0, k, v, .cons (a := p) (b := q) r t, e => by
    have e' : p = (k, v) := by simpa using e
    subst e'
    obtain ⟨k', d⟩ := q
    obtain ⟨r1, r2⟩ := r
    dsimp only at r1 r2
    subst r1
    exact ⟨d, rfl, r2⟩
  | _, _, i + 1, k, v, .cons _ t, e => by
    obtain ⟨d, h1, h2⟩ := kd_get (i := i) t (by simpa using e)
    exact ⟨d, by simpa using h1, h2⟩
theorem kd_keys {F : Hp} : ∀ {xs : List (Key × V)} {kvs : List (Key × D)}, KD K F xs kvs → xs.map (·.1) = kvs.map (·.1)
  | _, _, .nil => rfl
  | _, _, .cons r t => by rw [List.map_cons, List.map_cons, r.1, kd_keys t]
theorem kd_take {F : Hp} : ∀ {xs : List (Key × V)} {kvs : List (Key × D)} (n : Nat), KD K F xs kvs → KD K F (xs.take n) (kvs.take n)
  | _, _, 0, _ => .nil
  | _, _, _ + 1, .nil => .nil
  | _, _, n + 1, .cons r t => .cons r (kd_take n t)
theorem kd_filter {F : Hp} (p : Key → Bool) : ∀ {xs : List (Key × V)} {kvs : List (Key × D)}, KD K F xs kvs → KD K F (xs.filter fun kv => p kv.1) (kvs.filter fun kv => p kv.1)
  | _, _, .nil => .nil
  | _, _, .cons (a := u) (b := w) r t => by
    rw [List.filter_cons, List.filter_cons, r.1]
    cases p w.1 with
    | true => exact .cons r (kd_filter p t)
    | false => exact kd_filter p t
theorem valV_at : ∀ {xs : List (Key × V)} {i : Nat} {k : Key} {v : V}, (xs.map (·.1)).Nodup → xs[i]? = some (k, v) → valV xs k = some v
  | [], _, _, _, _, e => by simp at e
  | p :: r, 0, k, v, nd, e => by
    have e' : p = (k, v) := by simpa using e
    subst e'
    exact valV_pos rfl
  | p :: r, i + 1, k, v, nd, e => by
    have e' : r[i]? = some (k, v) := by simpa using e
    rw [List.map_cons, List.nodup_cons] at nd
    have ne : ¬ p.1 = k := fun z => nd.1 (by rw [z]; exact List.mem_map.mpr ⟨(k, v), List.mem_of_getElem? e', rfl⟩)
    rw [valV_neg ne]
    exact valV_at nd.2 e'
theorem take_filter {α : Type} {l : List α} {i : Nat} {x : α} {p : α → Bool} (h : l[i]? = some x) : (l.take (i + 1)).filter p = (l.take i).filter p ++ (if p x = true then [x] else []) := by
  rw [List.take_add_one, h, List.filter_append]
  simp only [Option.toList, List.filter_cons, List.filter_nil]
theorem not_in_take {xs : List (Key × V)} {i : Nat} {k : Key} {v : V} {p : Key → Bool} (nd : (xs.map (·.1)).Nodup) (h : xs[i]? = some (k, v)) : (((xs.take i).filter fun kv => p kv.1).any fun kv => decide (kv.1 = k)) = false := by
  rw [Bool.eq_false_iff]
  intro z
  obtain ⟨kv, m, e⟩ := List.any_eq_true.mp z
  have e := of_decide_eq_true e
  have m := (List.mem_filter.mp m).1
  obtain ⟨j, hj, q⟩ := List.mem_take_iff_getElem.mp m
  have hi : i < xs.length := (List.getElem?_eq_some_iff.mp h).1
  have h1 : (xs.map (·.1))[j]'(by rw [List.length_map]; omega) = k := by rw [List.getElem_map, q]; exact e
  have h2 : (xs.map (·.1))[i]'(by rw [List.length_map]; omega) = k := by rw [List.getElem_map, (List.getElem?_eq_some_iff.mp h).2]
  have := (List.getElem_inj nd).mp (h1.trans h2.symm)
  omega
/-- x = {k: x[k] for k in x if test} -/
theorem sv_dictFilter {tt : TT} {ρ : Rho} {j o : Nat} {kvs : List (Key × D)} {P : Out → Prop} (p : Key → Bool) (he : ρ[j]? = some (.own (.dK kvs))) (hno : ∀ e : Ent, ρ[o]? = some e → e = .no) (hjo : j ≠ o) (hol : o < ρ.length) (nd : (kvs.map (·.1)).Nodup) (hz : kvs.length < sizeLine)
    (ht : ∀ k d, (k, d) ∈ kvs → EvT g tt ((ρ.set j .no).set o (.dat (keyOf k))) (p k) ((ρ.set j .no).set o (.dat (keyOf k)))) (h : P (.nx (ρ.set j (.own (.dK (kvs.filter fun kv => p kv.1)))))) (hp : j ∉ g.ps) (hpo : o ∉ g.ps) :
    Sv g (tAsg (tLockE (tDc (iKeys (tVar j)) (gName o) tt (tVar o) (tDGet (tVar j) (tVar o)) [o])) (gName j)) ρ P := fun c F H σ E kk s pp => by
  obtain ⟨fp, sf⟩ := id s
  obtain ⟨a, e1, e2, xs, e3, e4⟩ := sf.own j _ he
  have ma : a ∈ fp j := by rw [e2]; simp
  obtain ⟨Fa, Ha, Wa⟩ := sf.ownF j _ a he ma
  have Ba : c.B a = none := Wa.resolve_right fun w => by
    obtain ⟨j', hj'⟩ := kk.wp a w
    have := sf.wp j _ a he ma j' hj'
    subst this
    exact notP kk hp a hj'
  have noa : ∀ (k : Nat) (w : Ow), (ρ.set j .no)[k]? = some (.own w) → a ∉ fp k := fun k w q m => by
    obtain ⟨ne, q'⟩ := hide_own q
    exact ne (sf.sep k j w _ a q' he m ma)
  have hj : j < ρ.length := (List.getElem?_eq_some_iff.mp he).1
  have xnd : (xs.map (·.1)).Nodup := by rw [kd_keys e4]; exact nd
  have xlen := kd_len e4
  refine ⟨a, .dK xs, e3, trivial, fun od => ?_⟩
  have sl : SimF c F (upd H a (.frz od (.dK xs))) σ (ρ.set j .no) fp := (sf.hide j).other Fa Ba noa
  refine ⟨.ref a, e1, a, od, rfl, .inl ⟨xs, upd_same, fun Dl hD => ?_⟩⟩
  have hDa : Dl ≠ a := fun z => by rw [z, upd_same] at hD; cases hD
  have hDH : H Dl = none := by rw [upd_ne hDa] at hD; exact hD
  have BD : c.B Dl = none := by
    cases z : c.B Dl with
    | none => rfl
    | some u => exact absurd hDH (sf.dom Dl (by simp [z]))
  have noD : ∀ (k : Nat) (w : Ow), (ρ.set j .no)[k]? = some (.own w) → Dl ∉ fp k := fun k w q m => (sl.ownF k w Dl q m).2.1 hD
  let res : Nat → List (Key × V) := fun i => (xs.take i).filter fun kv => p kv.1
  let Iv : Nat → Hp → Prop := fun i H' => ∃ F' fp', Same F F' ∧ SimF c F' H' σ (ρ.set j .no) fp' ∧ H' a = some (.frz od (.dK xs)) ∧ H' Dl = some (.dK (res i)) ∧ F' a = none ∧ F' Dl = none ∧ (∀ (k : Nat) (w : Ow), (ρ.set j .no)[k]? = some (.own w) → a ∉ fp' k ∧ Dl ∉ fp' k)
  refine ⟨fun i m H' => m = xs.length - i ∧ i ≤ xs.length ∧ Iv i H', ⟨xs.length, by simp, Nat.zero_le _, F, fp, Same.refl _, sl.other (freeF sf.fh hDH) BD noD, by rw [upd_ne hDa.symm, upd_same], upd_same, Fa, freeF sf.fh hDH, fun k w q => ⟨noa k w q, noD k w q⟩⟩, ?_⟩
  rintro i m H2 ⟨rfl, hin, F2, fp2, f2, s2, ha2, hD2, Fa2, FD2, no2⟩
  by_cases hlt : i < xs.length
  · refine .inr ⟨⟨ha2, hlt⟩, Iv (i + 1), fun H' z => ⟨xs.length - (i + 1), by omega, rfl, by omega, z⟩, ?_⟩
    rintro x H3 ⟨rfl, k, v, hk, rfl⟩
    obtain ⟨d, hd, hvd⟩ := kd_get e4 hk
    have hol' : o < σ.length := by rw [sf.len]; exact hol
    have hσo : (wipe σ [o]).length = σ.length := wipe_length _ _
    -- the turn over the heap as it stands
    let ρh : Rho := ρ.set j .no
    have sr : SimF (c.re F2 H3 (ownW ρh fp2)) F2 H3 (wipe σ [o]) ρh fp2 := s2.re.slots [o] (fun q mq => wipe_at mq) (fun q mq e z => by
      have : q = o := by simpa using mq
      subst this
      have z' : (ρ.set j .no)[q]? = some e := z
      rw [List.getElem?_set_ne hjo] at z'
      exact hno e z') (fun _ _ => rfl) (fun q b mq mq' => by
      have : q = o := by simpa using mq'
      subst this
      exact notP kk hpo b mq) (by rw [hσo, sf.len]; simp [ρh])
    have dk : Dx c.K F2 (kV k) (keyOf k) := by
      cases k with
      | inl n => exact .int n
      | inr z => exact .str z
    have so : Sim (c.re F2 H3 (ownW ρh fp2)) F2 H3 ((wipe σ [o]).set o (some (kV k))) (ρh.set o (.dat (keyOf k))) := Sim.setDat ⟨fp2, sr⟩ dk (by simp [ρh]; exact hol) (fun b => notP kk hpo b)
    have wσ : wipe ((wipe σ [o]).set o (some (kV k))) [o] = wipe σ [o] := wipe_ext (by simp [hσo]) fun q mq => by
      have ne : q ≠ o := by simpa using mq
      rw [List.getElem?_set_ne (Ne.symm ne), wipe_at mq]
    refine ⟨wσ, ht k d (List.mem_of_getElem? hd) (c.re F2 H3 (ownW ρh fp2)) F2 H3 _ kk.ok so _ fun F4 H4 s4 e4' => ?_⟩
    obtain ⟨fp4, s4⟩ := s4
    have nW : ∀ z, (∀ (k : Nat) (w : Ow), ρh[k]? = some (.own w) → z ∉ fp2 k) → ¬ ownW ρh fp2 z := fun z hz ⟨q, w, q1, q2⟩ => hz q w q1 q2
    have kp : ∀ z u, H3 z = some u → (∀ (k : Nat) (w : Ow), ρh[k]? = some (.own w) → z ∉ fp2 k) → H4 z = some u := fun z u hz hn => s4.keep z u hz (nW z hn)
    have ha4 := kp a _ ha2 fun k w q => (no2 k w q).1
    have hD4 := kp Dl _ hD2 fun k w q => (no2 k w q).2
    have Fa4 : F4 a = none := s4.av a (by show H3 a ≠ none; rw [ha2]; simp) Fa2
    have FD4 : F4 Dl = none := s4.av Dl (by show H3 Dl ≠ none; rw [hD2]; simp) FD2
    have oo : ∀ (q : Nat) (w : Ow), ρh[q]? = some (.own w) → (ρh.set o (.dat (keyOf k)))[q]? = some (.own w) := fun q w z => by
      have ne : q ≠ o := fun y => by
        subst y
        have z' : (ρ.set j .no)[q]? = some (.own w) := z
        rw [List.getElem?_set_ne hjo] at z'
        cases hno _ z'
      rw [List.getElem?_set_ne (Ne.symm ne)]
      exact z
    have no4 : ∀ (q : Nat) (w : Ow), ρh[q]? = some (.own w) → a ∉ fp4 q ∧ Dl ∉ fp4 q := fun q w z => by
      have z4 := oo q w z
      refine ⟨fun m => ?_, fun m => ?_⟩
      · rcases (s4.ownF q w a z4 m).2.2 with y | y
        · rw [show (c.re F2 H3 (ownW ρh fp2)).B a = H3 a from rfl, ha2] at y; cases y
        · exact nW a (fun k w q => (no2 k w q).1) y
      · rcases (s4.ownF q w Dl z4 m).2.2 with y | y
        · rw [show (c.re F2 H3 (ownW ρh fp2)).B Dl = H3 Dl from rfl, hD2] at y; cases y
        · exact nW Dl (fun k w q => (no2 k w q).2) y
    have back : SimF c F4 H4 σ ρh fp4 := (s2.un (SimF.slots s4 [o] (σ' := σ) (ρ' := ρh) (fun q mq => by
      have ne : q ≠ o := by simpa using mq
      rw [List.getElem?_set_ne (Ne.symm ne), wipe_at mq]) (fun q mq e z => by
      have : q = o := by simpa using mq
      subst this
      have z' : (ρ.set j .no)[q]? = some e := z
      rw [List.getElem?_set_ne hjo] at z'
      exact hno e z') (fun q mq => by
      have ne : q ≠ o := by simpa using mq
      rw [List.getElem?_set_ne (Ne.symm ne)]) (fun q b mq mq' => by
      have : q = o := by simpa using mq'
      subst this
      exact notP kk hpo b mq) (by rw [sf.len]; simp [ρh])))
    have hres : res (i + 1) = res i ++ (if p k = true then [(k, v)] else []) := by
      have := take_filter (p := fun kv : Key × V => p kv.1) hk
      exact this
    cases hpk : p k with
    | true =>
      rw [if_pos rfl]
      refine ⟨kV k, by rw [List.getElem?_set_self (by rw [hσo]; exact hol')], ?_⟩
      have hσj : ((wipe σ [o]).set o (some (kV k)))[j]? = some (some (.ref a)) := by
        rw [List.getElem?_set_ne (Ne.symm hjo), wipe_at (by simpa using hjo)]
        exact e1
      refine ⟨.ref a, hσj, kV k, by rw [List.getElem?_set_self (by rw [hσo]; exact hol')], a, v, rfl, .inl ⟨xs, k, .inr ⟨od, ha4⟩, rfl, (valV_at xnd hk).symm⟩, res i, k, rfl, hD4, ?_, ?_⟩
      · have h1 := List.length_filter_le (fun kv : Key × V => p kv.1) (xs.take i)
        have h2 : (xs.take i).length ≤ xs.length := by rw [List.length_take]; omega
        have h3 : (res i).length ≤ xs.length := Nat.le_trans h1 h2
        omega
      · have hput : putK (res i) k v = res (i + 1) := by
          unfold putK
          rw [not_in_take xnd hk, hres, hpk]
          rfl
        rw [hput]
        exact ⟨F4, fp4, f2.trans e4', back.other FD4 BD (fun q w z => (no4 q w z).2), by rw [upd_ne hDa.symm]; exact ha4, upd_same, Fa4, FD4, no4⟩
    | false =>
      rw [if_neg (by decide)]
      rw [hpk, if_neg (by decide), List.append_nil] at hres
      exact ⟨F4, fp4, f2.trans e4', back, ha4, by rw [hres]; exact hD4, Fa4, FD4, no4⟩
  · have e : i = xs.length := by omega
    subst e
    refine .inl ⟨⟨ha2, Nat.le_refl _⟩, ha2, ?_⟩
    have rall : res xs.length = xs.filter fun kv => p kv.1 := by simp only [res, List.take_length]
    have s3 := s2.other (o := .dK xs) Fa2 Ba fun k w q => (no2 k w q).1
    have s5 := s3.setOwn (i := j) (a := Dl) (f := [Dl]) (w := .dK (kvs.filter fun kv => p kv.1)) ⟨rfl, _, by rw [upd_ne hDa, hD2, rall], kd_filter p (pairedMap e4 fun _ _ _ r => ⟨r.1, dpUp f2 r.2⟩)⟩ (fun b m => by
      have z : b = Dl := by simpa using m
      subst z
      exact ⟨FD2, by rw [upd_ne hDa, hD2]; simp, BD⟩) (fun k w b q m => by
      have z : b = Dl := by simpa using m
      subst z
      exact (no2 k w q).2) (by simpa using hj) (notP kk hp)
    rw [List.set_set] at s5
    exact pp.nx _ F2 _ _ h s5 f2
end DL

namespace DL
open PySem PySem.Spec PyProof.Rows L2
variable {X : Cx}
theorem pe_cI {x : Str} {n : Int} {pos : Pos} (hg : Gl X x) (hm : ∃ t, X.mg x = some (.int n t)) (hd : (x == ("__debug__" : Str)) = false := by decide) : PE X (.Name x pos) (tC (.int n)) := by
  obtain ⟨t, h⟩ := hm
  exact pe_glob hg h ⟨t, rfl⟩ hd
theorem pe_cS {x : Str} {n : Str} {pos : Pos} (hg : Gl X x) (hm : ∃ t, X.mg x = some (.str n t)) (hd : (x == ("__debug__" : Str)) = false := by decide) : PE X (.Name x pos) (tC (.str n)) := by
  obtain ⟨t, h⟩ := hm
  exact pe_glob hg h ⟨t, rfl⟩ hd
end DL

namespace DL
open PySem PySem.Spec PyProof.Rows L2
/-- rows that nobody else holds become data -/
theorem freezeAll {c : Cc} {H : Hp} {σ : L2.St} {ρ : Rho} {fp : Nat → List Addr} : ∀ (bs : List Addr) (dss : List (List D)) (F : Hp), bs.Nodup → (∀ b ∈ bs, F b = none ∧ c.B b = none ∧ ∀ (i : Nat) (w : Ow), ρ[i]? = some (.own w) → b ∉ fp i) →
    Paired (fun b ds => ∃ vs, H b = some (.lst vs) ∧ DxAll c.K F vs ds) bs dss → SimF c F H σ ρ fp → ∃ F', Same F F' ∧ SimF c F' H σ ρ fp ∧ (∀ x, x ∉ bs → F' x = F x) ∧ DxAll c.K F' (bs.map V.ref) (dss.map .list)
  | [], _, F, _, _, .nil, s => ⟨F, Same.refl _, s, fun _ _ => rfl, .nil⟩
  | b :: bs, ds :: dss, F, nd, h, .cons ⟨vs, h1, h2⟩ t, s => by
    obtain ⟨nb, nd'⟩ := List.nodup_cons.mp nd
    obtain ⟨k1, k2, k3⟩ := h b List.mem_cons_self
    have e1 : Same F (upd F b (.lst vs)) := sameNew k1
    have s1 := s.freeze h1 k2 k3 k1
    obtain ⟨F', e2, s2, o2, d2⟩ := freezeAll bs dss (upd F b (.lst vs)) nd' (fun b' m => by
      obtain ⟨j1, j2, j3⟩ := h b' (List.mem_cons_of_mem _ m)
      exact ⟨by rw [upd_ne (fun z => nb (by rw [← z]; exact m))]; exact j1, j2, j3⟩) (pairedMap t fun z y _ ⟨us, q1, q2⟩ => ⟨us, q1, dpAllUp e1 q2⟩) s1
    refine ⟨F', e1.trans e2, s2, fun x m => ?_, .cons (.lst (.inl (.inl ?_)) (dpAllUp (e1.trans e2) h2)) d2⟩
    · rw [o2 x (fun z => m (List.mem_cons_of_mem _ z)), upd_ne (fun z => m (by rw [z]; exact List.mem_cons_self))]
    · rw [o2 b nb]
      exact upd_same
/-- new rows become data -/
theorem ed_ofWl {g : Gm} {te : TE} {ρ ρ1 : Rho} {dss : List (List D)} (h : EvW g te ρ (.lls dss) ρ1) : EvD g te ρ (.list (dss.map .list)) ρ1 := fun c F H σ k s Q q => h c F H σ k s _ fun a F' H' ⟨f, fp, s', hr, hf, no⟩ e => by
  obtain ⟨bs, rfl, nd, h1, h2⟩ := hr
  obtain ⟨na, nd'⟩ := List.nodup_cons.mp nd
  obtain ⟨F2, e2, s2, o2, d2⟩ := freezeAll bs dss F' nd' (fun b m => by
    obtain ⟨j1, j2, j3⟩ := hf b (List.mem_cons_of_mem _ m)
    exact ⟨j1, j3, fun i w q z => no i w b q (List.mem_cons_of_mem _ m) z⟩) h2 s'
  obtain ⟨k1, k2, k3⟩ := hf a List.mem_cons_self
  have k1' : F2 a = none := by rw [o2 a na]; exact k1
  have e3 : Same F2 (upd F2 a (.lst (bs.map V.ref))) := sameNew k1'
  exact q _ _ H' ⟨fp, s2.freeze h1 k3 (fun i w z m => no i w a z List.mem_cons_self m) k1'⟩ (e.trans (e2.trans e3)) (.lst (.inl (.inl upd_same)) (dpAllUp e3 d2))
end DL

namespace DL
open PySem PySem.Spec PyProof.Rows L2
/-! ### promises that also know: no text of a thing is under way -/
structure FnG (P : Program) (w : World) (K : PySem.W.Frag) (mg : Str → Option Value) (base : Heap) (C : CXT) (k : Nat) (f : Addr) (fd : FuncData) (ps : List Str) (sp : Sp) : Prop where
  ar : ∀ vs H Q E, sp vs H Q E → vs.length = ps.length
  go : ∀ A : Around, A.guards = some [] → Room k A → ∀ (o : List PySem.Env) (s : Shared) (H : Hp) (args : Args) (us : List Value) (vs : List V) (Q : VK) (E : XK),
    Env0 P w K mg base A o s H → BindsTo s fd args (ps.zip us) → Vals vs us → sp vs H Q E → codeAny (model P w) A (.call (.ref f) args) (CR C o P w H s Q E) s
section
variable {P : Program} {w : World} {K : PySem.W.Frag} {mg : Str → Option Value} {base : Heap} {C : CXT} {k : Nat} {f : Addr} {fd : FuncData} {ps : List Str} {sp : Sp}
theorem FnG.of (F : FnOk P w K mg base C k f fd ps sp) : FnG P w K mg base C k f fd ps sp :=
  ⟨F.len, fun A _ hr o s H args us vs Q E => F.run A o s H args us vs Q E hr⟩
theorem def_G {x qual : Str} {st : Stmt} {N : List Str} (Fn : Fun K x qual st f fd) (S : FnScope N ps (defScope st)) (ar : ∀ vs H Q E, sp vs H Q E → vs.length = ps.length)
    (hb : ∀ (cdv : Value) (A : Around) (o : List PySem.Env) (s : Shared) (H : Hp) (vs : List V) (Q : VK) (E : XK), A.guards = some [] → Room k (A.deeper (envOfC qual (defScope st) s.heap.objs.size f cdv)) → sp vs H Q E →
      ∃ t, PSs (cxOf C P w K mg base N qual (defScope st) f cdv A o s H E) (defBody st) t ∧ t { nx := fun _ H' => Q .non H', rt := Q } (start N vs) H) :
    FnG P w K mg base C (k + 1) f fd ps sp := by
  obtain ⟨oc, od, kV, doc, pm, an, cdv, ct, osl, rfl, lk, hcd⟩ := Fn.ex
  constructor
  · exact ar
  intro A gA hr o s H args us vs Q E e0 bd rv hs
  have kept := fun b o e => (e0.bs b o e).1
  have inK : K.In s.heap := e0.mod.kin.keeps kept
  refine codeAny_call_function hr.depth (inK _ _ lk) rfl S.co S.gen rfl (PySem.W.codeRec_of inK hcd) (bd _ _ _ _ ?_)
  refine wpAny_newFunctionEnv_cells S.kind ?_ ?_
  · rintro ⟨n, v⟩ m
    cases S.par n (List.of_mem_zip m).1 with
    | inl q => exact Or.inl q
    | inr q => exact Or.inr ⟨q, PySem.W.cellsFrom_some _ _ _ (Or.inl q)⟩
  · rintro env rfl s1 x
    refine ⟨(e0.mod.nolimit.keeps kept).keeps x.toInCall.keep, codeAny_func ?_⟩
    obtain ⟨t, ht, hq⟩ := hb cdv A o s H vs Q E gA (hr.deeper _) hs
    refine wpAny_mono (ht.run [] s1 (start N vs) H _ (inv_start S hr.hd e0 (ar _ _ _ _ hs) rv x) hq) ?_ (fun _ _ z => z)
    intro fl s' z
    cases fl with
    | brk => obtain ⟨_, _, _, no⟩ := z; exact no.elim
    | cont => obtain ⟨_, _, _, no⟩ := z; exact no.elim
    | next =>
      obtain ⟨σ', H', J, q⟩ := z
      exact ⟨.non, H', J.os, J.bare, J.base, J.hok, rfl, q⟩
    | ret u =>
      obtain ⟨v, σ', H', J, r, q⟩ := z
      exact ⟨v, H', J.os, J.bare, J.base, J.hok, r, q⟩
end
section
variable {X : Cx} {C : CXT} {k : Nat} {f : Addr} {fd : FuncData} {ps : List Str} {sp : Sp} {dvs : List V} {ds : List Value} {E : XK} {x : Str} {p pos : Pos} {e : Expr} {es : List Expr} {t : TA}
/-- f(e, ..) of such a def -/
theorem pe_callG (F : FnG X.prog X.w X.K X.mg X.base C k f fd ps sp) (gA : X.A.guards = some []) (hr : Room k X.A) (hg : Gl X x) (hm : X.mg x = some (.ref f)) (hk : PySem.W.keepIn X.K (.ref f) = true) (hb : Binds X.K fd ps ds) (hd : Vals dvs ds) (hx : Passes C X E)
    (ha : PA X (e :: es) t) (h1 : (x == ("__debug__" : Str)) = false := by decide) (h2 : starEach (e :: es) X.env = (false, eval e X.env) :: starEach es X.env := by rfl) (h3 : (backTo pos (starEach es X.env)).any (·.1) = false := by rfl) :
    PE X (.Call (.Name x p) (e :: es) [] pos) (tCall sp dvs E t) := by
  constructor
  intro pins s σ H Q I h
  apply wpAny_Call_Name_kw
  refine ld_glob I hg hm ?_ h1
  apply PySem.W.callWith_K (h₀ := X.base) I.ok.mod.kin hk ?_ h2 h3
  refine thn (ha.run pos pins s σ H _ I h) ?_
  rintro us s1 ⟨vs, H1, J, r, q⟩
  refine ⟨J.kIn, ?_⟩
  have rr := r.append hd
  have ll : (us ++ ds).length = ps.length := rr.length.symm.trans (F.ar _ _ _ _ q)
  apply wpAny_call
  refine codeAny_mono (F.go X.A gA hr X.stack s1 H1 ⟨us, []⟩ (us ++ ds) (vs ++ dvs) Q E J.env0 (hb s1 us J.kIn ll) rr q) ?_
  intro out s' z
  cases out with
  | error er => exact hx pins σ H1 s1 er s' J z
  | ok fl =>
    cases fl with
    | ret u => exact J.after z
    | next => exact z.elim
    | brk => exact z.elim
    | cont => exact z.elim
end
end DL

namespace DL
open PySem PySem.Spec PyProof.Rows L2
/-- the heap in which at most the script is held, as data -/
def only1 (a : Addr) (u : Option HO) : Hp := fun b => if b = a then u else none
theorem only1_at {a : Addr} {u : Option HO} : only1 a u a = u := if_pos rfl
theorem only1_off {a b : Addr} {u : Option HO} (h : b ≠ a) : only1 a u b = none := if_neg h
section
variable {P : Program} {w : World} {K : PySem.W.Frag} {mg mb : Str → Option Value} {C : CXT} {k : Nat} {fa a : Addr} {fd : FuncData} {x : Str} {sp : Sp} {z : Shared} {vs : List Value} {ns : List Int}
/-- the law's call, its def promised where no text is under way -/
theorem lawG (KX : K.In z.heap) (hm : z.heap.Ns mainGlobals mg) (hb : z.heap.Ns builtinsNs mb) (hbb : ∀ y : Str, y ≠ "__name__" → mb y = bootBuiltins y) (hlim : z.heap.NoLimit) (hg : z.gens = #[])
    (ha : z.heap.get? a = some { cls := .type "list", data := .seq vs.toArray }) (hi : IntsAre vs ns) (hl : ns.length ≤ sizeLine) (hr : Room k callerA)
    (F : ∀ base : Heap, K.In base → base.Ns mainGlobals mg → FnG P w K mg base C k fa fd [x] sp) (bd : ∀ (s : Shared) (u : Value), BindsTo s fd ⟨[u], []⟩ [(x, u)])
    (hs : ∀ H : Hp, Only H → SqL K H a (ns.map V.int) → sp [.ref a] H (fun v _ => v = .bl true) fun _ _ _ => False) (hC : ∀ H e s', C [] H z (fun _ _ _ => False) e s' → False) :
    codeAny (model P w) callerA (.call (.ref fa) ⟨[.ref a], []⟩) (fun r s' => r = .ok (.ret (.bool true)) ∧ OldK z.heap s'.heap ∧ s'.os = z.os ∧ AllBare s'.gens) z := by
  have rv := vals_ints hi
  have main : ∀ u : Option HO, (u = none ∨ ∃ o xs, u = some (.frz o (.lst xs))) → SqL K (only1 a u) a (ns.map V.int) → HOk P w (only1 a u) z.heap → (u ≠ none → K.lookup a = none) →
      codeAny (model P w) callerA (.call (.ref fa) ⟨[.ref a], []⟩) (fun r s' => r = .ok (.ret (.bool true)) ∧ OldK z.heap s'.heap ∧ s'.os = z.os ∧ AllBare s'.gens) z := by
    intro u hu hS ok hK
    have nz : ∀ {b : Addr}, only1 a u b ≠ none → b = a ∧ u ≠ none := fun {b} q => by
      by_cases e : b = a
      · subst e
        rw [only1_at] at q
        exact ⟨rfl, q⟩
      · exact absurd (only1_off e) q
    have sd : ∀ {b : Addr} {o : Obj}, z.heap.get? b = some o → (b = a → u = none) → (hidT z.heap (only1 a u)).get? b = some o := fun {b o} q h => hidT_get q (by
      by_cases e : b = a
      · rw [e, only1_at]; exact h e
      · exact only1_off e)
    have ndict : ∀ {b : Addr} {o : Obj} {es : Array DictEntry} {ep : Nat}, z.heap.get? b = some o → o.data = .dict es ep → b = a → u = none := fun {b o es ep} q d e => by
      subst e
      rw [ha] at q
      cases q
      exact nomatch (show Data.seq vs.toArray _ = Data.dict es ep from d)
    have nsp : ∀ {b : Addr} {m : Str → Option Value}, z.heap.Ns b m → (hidT z.heap (only1 a u)).Ns b m := fun {b m} ⟨o, es, ep, q, d, r⟩ => ⟨o, es, ep, sd q (ndict q d), d, r⟩
    have kin : K.In (hidT z.heap (only1 a u)) := fun b o q => sd (KX b o q) fun e => by
      cases hu' : u with
      | none => rfl
      | some y =>
        have := hK (by rw [hu']; simp)
        rw [e, this] at q
        cases q
    obtain ⟨mc, l1, l2⟩ := hlim
    have md : Mod K mg (hidT z.heap (only1 a u)) := ⟨kin, nsp hm, ⟨mb, nsp hb, hbb⟩, ⟨mc, nsp l1, l2⟩⟩
    have e0 : Env0 P w K mg (hidT z.heap (only1 a u)) callerA [] z (only1 a u) := ⟨rfl, md, fun b o q => of_hidT q, Nat.le_of_eq (hidT_size _ _), trivial, fun b q => (nomatch q), ok, .of_eq hg⟩
    have on : Only (only1 a u) := fun b => by
      by_cases e : b = a
      · subst e
        rw [only1_at]
        exact hu
      · exact .inl (only1_off e)
    refine codeAny_mono ((F _ kin (nsp hm)).go callerA rfl hr [] z (only1 a u) ⟨[.ref a], []⟩ [.ref a] [.ref a] _ _ e0 (bd z (.ref a)) (.cons rfl .nil) (hs _ on hS)) ?_
    rintro (er | fl) s' h
    · exact (hC _ er s' h).elim
    · cases fl with
      | next => exact h.elim
      | brk => exact h.elim
      | cont => exact h.elim
      | ret y =>
        obtain ⟨v, H', os, bare, un, ok', r', q⟩ := h
        cases (q : v = .bl true)
        cases (r' : y = Value.bool true)
        refine ⟨rfl, OldK.of_keep fun b o q => ?_, os, bare⟩
        by_cases nn : only1 a u b = none
        · exact un.keep b o q nn (fun z => nomatch z) (by simp)
        · rcases on b with e | ⟨o2, xs, e⟩
          · exact absurd e nn
          · have g1 := (ok b _ e).1
            rw [q] at g1
            cases g1
            exact (ok' b _ (un.frzs b _ _ e)).1
  cases hk : K.lookup a with
  | some o =>
    have e := KX a o hk
    rw [ha] at e
    cases e
    exact main none (.inl rfl) (.inr ⟨_, vs.toArray, _, hk, rfl, rfl, rfl, by rw [List.size_toArray, hi.length]; exact hl, by simpa using rv⟩) (fun b u q => by
      by_cases e : b = a
      · rw [e, only1_at] at q; cases q
      · rw [only1_off e] at q; cases q) fun q => absurd rfl q
  | none =>
    exact main (some (.frz { cls := .type "list", data := .seq vs.toArray } (.lst (ns.map V.int)))) (.inr ⟨_, _, rfl⟩) (.inl (.inr ⟨{ cls := .type "list", data := .seq vs.toArray }, only1_at⟩)) (fun b u q => by
      by_cases e : b = a
      · subst e
        rw [only1_at] at q
        cases q
        exact ⟨ha, by rw [List.length_map]; exact hl, vs, _, rv, ha⟩
      · rw [only1_off e] at q; cases q) fun _ => hk
end
theorem walkG {l : PySem.W.OpenLaw} {n k : Nat} {q : Program} {loose : List Str} {XP : (Str → Option Value) → Heap → Prop} {YP : World → Heap → Prop} {d : DefRec} {K : Params → PySem.W.Frag} {C : World → CXT} {sp : World → Sp} {x : Str}
    (hn : l.most = some n) (hn2 : n ≤ sizeLine)
    (hdf : d.params.defaults = []) (hr : Room k callerA)
    (hY : ∀ (w : World) (h : Heap), YP w h → (K w.params).In h)
    (F : ∀ (w : World) (mg : Str → Option Value) (fa : Addr) (hp : Heap), (K w.params).In hp → hp.Ns mainGlobals mg → mg d.name = some (.ref fa) →
      ∃ fd : FuncData, (∀ (s : Shared) (u : Value), BindsTo s fd ⟨[u], []⟩ [(x, u)]) ∧ ∀ base : Heap, (K w.params).In base → base.Ns mainGlobals mg → FnG l.prog w (K w.params) mg base (C w) k fa fd [x] (sp w))
    (hs : ∀ (w : World) (H : Hp) (a : Addr) (ns : List Int), ns.length ≤ n → Only H → SqL (K w.params) H a (ns.map V.int) → sp w [.ref a] H (fun v _ => v = .bl true) fun _ _ _ => False)
    (hC : ∀ (w : World) (H : Hp) (s : Shared) (e : Value) (s' : Shared), C w [] H s (fun _ _ _ => False) e s' → False) : PySem.W.WalkO q loose XP YP l.row.toRowW d [] (fun f vs => PySem.call f vs) := by
  apply Att.attach_call hn hdf
  intro w s₀ z mg mb fa o pm cd doc a vs ns G Y ho hd hcd hmg hobj hints hlen hg
  obtain ⟨fd, bd, hF⟩ := F w mg fa _ (hY w _ Y) G.T.g hmg
  exact lawG (hY w _ Y) G.T.g G.T.b G.T.builtins G.T.nolimit hg hobj hints (Nat.le_trans hlen hn2) hr hF bd (fun H hO hS => hs w H a ns hlen hO hS) fun H e s' => hC w H z e s'
end DL

namespace DL
open PySem PySem.Spec PyProof.Rows L2
/-! ### repr of lists and tuples -/
def rReprD (K : PySem.W.Frag) : List V → Hp → VK → Prop := fun xs H Q => ∃ (a : Addr) (d : D), xs = [.ref a] ∧ Dx K H (.ref a) d ∧ d.showable = true ∧ d.hasDict = false ∧ d.depth ≤ 64 ∧ d.shown.length ≤ sizeLine ∧ Q (.str d.shown) H
theorem cr_repr {X : Cx} (gA : X.A.guards = some []) (hu : X.A.units + 70 < cLine) : CallR X (.builtin "repr") (rReprD X.K) := by
  intro pins s σ H xs us Q I r h
  obtain ⟨a, d, rfl, hd, h1, h2, h3, h4, q⟩ := h
  rw [Vals.ref1 r]
  obtain ⟨as, rd⟩ := L2.Dp.reads I d (.ref a) (.ref a) hd.old rfl
  exact repr_of_reads' rd h1 (fun z => by rw [h2] at z; cases z) gA (by omega) (fun _ _ z => z) (fun h' u tk hk => ⟨.str d.shown, H, I.kept hk, ⟨u, rfl⟩, q⟩) h4
theorem rc_repr {K : PySem.W.Frag} {d : D} (hl : (∃ ds, d = .list ds) ∨ ∃ ds, d = .tuple ds) (h1 : d.showable = true) (h2 : d.hasDict = false) (h3 : d.depth ≤ 64) (h4 : d.shown.length ≤ sizeLine) : RCD K (rReprD K) [d] (.str d.shown) := fun F H xs Q f a q => by
  obtain ⟨v, rfl, a1⟩ := a.one
  have x := a1.dp f
  have : ∃ b, v = .ref b := by
    rcases hl with ⟨ds, rfl⟩ | ⟨ds, rfl⟩
    · cases x with
      | lst h _ => exact ⟨_, rfl⟩
    · cases x with
      | tup h _ => exact ⟨_, rfl⟩
  obtain ⟨b, rfl⟩ := this
  exact ⟨b, d, rfl, x, h1, h2, h3, h4, q _ F H (.at (.str _))⟩
end DL

namespace DL
open PySem PySem.Spec PyProof.Rows L2
/-! ### defs promised where no text of a thing is under way -/
section
variable {P : Program} {w : World} {K : PySem.W.Frag} {mg : Str → Option Value} {base : Heap} {k : Nat} {f : Addr} {fd : FuncData} {N ps : List Str} {x qual : Str} {st : Stmt}
theorem def_DG {R : List D → RetV → Prop} (Fn : Fun K x qual st f fd) (S : FnScope N ps (defScope st)) (len : ∀ ds r, R ds r → ds.length = ps.length) {t : TS}
    (ht : ∀ (cdv : Value) (A : Around) (outer : List PySem.Env) (s : Shared) (H : Hp) (E : XK), A.guards = some [] → Room k (A.deeper (envOfC qual (defScope st) s.heap.objs.size f cdv)) → PSs (cxOf CX0 P w K mg base N qual (defScope st) f cdv A outer s H E).nox (defBody st) t)
    (hv : ∀ ds r, R ds r → Sv (gm K []) t (rho0 N (ds.map .dat)) (RetP r)) : FnG P w K mg base CX0 (k + 1) f fd ps (spD R K) := by
  refine def_G Fn S (fun vs H Q E h => ?_) (fun cdv A outer s H vs Q E gA hr h => ?_)
  · obtain ⟨F, ds, r, _, h1, h2, _⟩ := h
    rw [dpAllLen h1]
    exact len ds r h2
  · obtain ⟨F, ds, r, e, h1, h2, q⟩ := h
    exact ⟨t, (ht cdv A outer s H E gA hr).nox, body_D e h1 (hv ds r h2) q⟩
theorem def_SG {R : List D → List D → RetV → List D → Prop} (Fn : Fun K x qual st f fd) (S : FnScope N ps (defScope st)) (len : ∀ st0 ds r st1, R st0 ds r st1 → ds.length + 1 = ps.length) {t : TS}
    (ht : ∀ (cdv : Value) (A : Around) (outer : List PySem.Env) (s : Shared) (H : Hp) (E : XK), A.guards = some [] → Room k (A.deeper (envOfC qual (defScope st) s.heap.objs.size f cdv)) → PSs (cxOf CX0 P w K mg base N qual (defScope st) f cdv A outer s H E).nox (defBody st) t)
    (hv : ∀ st0 ds r st1, R st0 ds r st1 → Sv (gm K [0]) t (rho0 N (.own (.lst st0) :: ds.map .dat)) (RetS r st1)) : FnG P w K mg base CX0 (k + 1) f fd ps (spS R K) := by
  refine def_G Fn S (fun vs H Q E h => ?_) (fun cdv A outer s H vs Q E gA hr h => ?_)
  · obtain ⟨F, a, ws, us, s0, ds, r, s1, rfl, _, _, _, _, h1, h2, _⟩ := h
    rw [List.length_cons, dpAllLen h1]
    exact len _ ds r _ h2
  · obtain ⟨F, a, ws, us, s0, ds, r, s1, rfl, e, ha, hF, hs, h1, h2, q⟩ := h
    exact ⟨t, (ht cdv A outer s H E gA hr).nox, body_S e ha hF hs h1 (hv _ ds r _ h2) q⟩
theorem def_XG {R : List D → RetX → Prop} (Fn : Fun K x qual st f fd) (S : FnScope N ps (defScope st)) (len : ∀ ds r, R ds r → ds.length = ps.length) {t : XK → TS}
    (ht : ∀ (cdv : Value) (A : Around) (outer : List PySem.Env) (s : Shared) (H : Hp) (E : XK), A.guards = some [] → Room k (A.deeper (envOfC qual (defScope st) s.heap.objs.size f cdv)) → PSs (cxOf (L2.CX P w) P w K mg base N qual (defScope st) f cdv A outer s H E) (defBody st) (t E))
    (hv : ∀ ds r E, R ds r → Sv ⟨K, [], E⟩ (t E) (rho0 N (ds.map .dat)) (RetXP r)) : FnG P w K mg base (L2.CX P w) (k + 1) f fd ps (spX R K) := by
  refine def_G Fn S (fun vs H Q E h => ?_) (fun cdv A outer s H vs Q E gA hr h => ?_)
  · obtain ⟨F, ds, r, _, h1, h2, _⟩ := h
    rw [dpAllLen h1]
    exact len ds r h2
  · obtain ⟨F, ds, r, e, h1, h2, q⟩ := h
    exact ⟨t E, ht cdv A outer s H E gA hr, body_X e h1 (hv ds r E h2) q⟩
end
/-! ### methods -/
section
variable {g : Gm} {to te ti : TE} {tr : TA} {ρ ρ1 ρ2 : Rho} {d z : D} {As : List Arg} {ds ds0 : List D} {i : Nat} {P : Out → Prop}
/-- o.m(..), o data that is a list or a text -/
theorem ed_bm {T : String} {r : V → List V → Hp → VK → Prop} (ho : EvD g to ρ d ρ1) (ha : EvA g tr ρ1 As ρ2) (hT : TyD T d) (hr : RMD g.K r d ds z) (dA : dens ρ2 As = some ds := by rfl) : EvD g (tBM g.K T r to tr) ρ z ρ2 := fun c F H σ k s Q q =>
  ho c F H σ k s _ fun v F1 H1 s1 e1 x => by
    have kk : c.K = g.K := k.1
    refine ⟨tyD_v s1.fh (.inl (by rw [← kk]; exact x)) hT, ha c F1 H1 σ k s1 _ fun vs F2 H2 s2 e2 h2 => ?_⟩
    have o2 := ArgsAt.opds s2 h2 dA
    rw [kk] at o2
    refine hr F2 H2 v vs Q s2.fh (.inl (by rw [← kk]; exact dpUp e2 x)) o2 fun u F3 H3 rs => ?_
    rw [← kk] at rs
    obtain ⟨s3, e3, q3⟩ := rs.sim s2
    exact q u F3 H3 s3 (e1.trans (e2.trans e3)) q3
/-- t.m(..), t a tuple -/
theorem ed_bmX {r : V → List V → Hp → VK → Prop} {es : List D} (ho : EvD g to ρ (.tuple es) ρ1) (ha : EvA g tr ρ1 As ρ2) (hr : RMD g.K r (.tuple es) ds z) (dA : dens ρ2 As = some ds := by rfl) : EvD g (tBMX g.K r to tr) ρ z ρ2 := fun c F H σ k s Q q =>
  ho c F H σ k s _ fun v F1 H1 s1 e1 x => by
    have kk : c.K = g.K := k.1
    rw [kk] at x
    obtain ⟨a, xs, rfl, tx, _⟩ := Opd.tupX s1.fh (.inl x)
    refine ⟨⟨a, xs, rfl, tx⟩, ha c F1 H1 σ k s1 _ fun vs F2 H2 s2 e2 h2 => ?_⟩
    have o2 := ArgsAt.opds s2 h2 dA
    rw [kk] at o2
    refine hr F2 H2 (.ref a) vs Q s2.fh (.inl (dpUp e2 x)) o2 fun u F3 H3 rs => ?_
    rw [← kk] at rs
    obtain ⟨s3, e3, q3⟩ := rs.sim s2
    exact q u F3 H3 s3 (e1.trans (e2.trans e3)) q3
/-- x.pop(e), x an own list -/
theorem ed_popAt {n : Int} {j : Nat} (h0 : ρ[i]? = some (.own (.lst ds0))) (hi : EvD g ti ρ (.int n) ρ1) (h1 : ρ1[i]? = some (.own (.lst ds))) (hb : -(2 ^ 63) ≤ n ∧ n < 2 ^ 63) (hj : seqIndex? n ds.length = some j) (hd : ds[j]? = some d) :
    EvD g (tBM g.K "list" rPopAt (tVar i) (tCons ti tNil)) ρ d (ρ1.set i (.own (.lst (ds.eraseIdx j)))) := fun c F H σ k s Q q => by
  obtain ⟨a, vs, e1, e2, e3, e4⟩ := s.lstAt h0
  refine ⟨.ref a, e1, .inl ⟨rfl, vs, .inl (.inl e2)⟩, hi c F H σ k s _ fun v F1 H1 s1 q1 x => ?_⟩
  cases x
  obtain ⟨b, ws, f1, f2, f3, f4⟩ := s1.lstAt h1
  have := some_inj2 e1 f1
  subst this
  obtain ⟨y, y1, y2⟩ := dpAllGet f4 hd
  refine ⟨a, ws, n, j, y, rfl, rfl, f2, hb.1, hb.2, by rw [dpAllLen f4]; exact hj, y1, ?_⟩
  exact q y F1 _ (s1.setLst h1 f1 (dpAllErase j f4)) q1 y2
where
  dpAllErase {K : PySem.W.Frag} {F : Hp} : ∀ (j : Nat) {vs : List V} {ds : List D}, DxAll K F vs ds → DxAll K F (vs.eraseIdx j) (ds.eraseIdx j)
    | _, _, _, .nil => .nil
    | 0, _, _, .cons _ t => t
    | j + 1, _, _, .cons a t => .cons a (dpAllErase j t)
end
section
variable {K : PySem.W.Frag} {d z : D} {ds : List D}
/-- l.index(x), data of any depth -/
theorem rm_index {j : Nat} (h1 : SeqAt.shaped (.list ds) = true) (h2 : SeqAt.shaped d = true) (h3 : ds[j]? = some z) (h4 : PyData.eqv z d = true) (h5 : ∀ (m : Nat) (z' : PyData), m < j → ds[m]? = some z' → PyData.eqv z' d = false) :
    RMD K (rIndexD K) (.list ds) [d] (.int (j : Nat)) := fun F H x xs Q f a b q => by
  obtain ⟨v, rfl, b1⟩ := b.one
  obtain ⟨p, vs, rfl, k1, k2⟩ := a.list f
  exact ⟨p, v, d, ds, j, z, rfl, rfl, (a.dp f).old, (b1.dp f).old, h1, h2, h3, h4, h5, q _ F H (.at (.int _))⟩
def rTIx (K : PySem.W.Frag) : V → List V → Hp → VK → Prop := fun x xs H Q => ∃ (p : Addr) (ys : List Str) (z : Str) (j : Nat), x = V.ref p ∧ xs = [.str z] ∧ SqT K H p (ys.map V.str) ∧ ys[j]? = some z ∧ (∀ m, m < j → ys[m]? ≠ some z) ∧ Q (.int (j : Nat)) H
theorem mt_tix {X : Cx} : MtR X "tuple.index" (rTIx X.K) := fun pins s σ H x xs v us Q I rx rs h => by
  obtain ⟨p, ys, z, j, h1, h2, h3, h4, h5, q⟩ := h
  exact mt_tup_index pins s σ H x xs v us Q I rx rs ⟨p, ys, z, j, h1, h2, h3, h4, h5, q⟩
theorem rm_tix {ys : List Str} {y : Str} {j : Nat} (h1 : ys[j]? = some y) (h2 : ∀ m, m < j → ys[m]? ≠ some y) : RMD K (rTIx K) (.tuple (ys.map .str)) [.str y] (.int (j : Nat)) := fun F H x xs Q f a b q => by
  obtain ⟨v, rfl, b1⟩ := b.one
  obtain ⟨p, vs, rfl, k1, k2⟩ := a.tup f
  have e := dp_strs k2
  subst e
  exact ⟨p, ys, y, j, rfl, by rw [b1.str], k1, h1, h2, q _ F H (.at (.int _))⟩
/-- sorted(l), ints -/
theorem rc_sorted {ns zs : List Int} (h : ∀ ns' : List Int, ns'.Perm ns → ns'.Pairwise (· ≤ ·) → ns' = zs) : RCN K (rSortedI K) [.list (ns.map .int)] (zs.map .int) := fun F H xs Q f a q => by
  obtain ⟨v, rfl, a1⟩ := a.one
  obtain ⟨p, vs, rfl, k1, k2⟩ := a1.list f
  have e := dp_ints k2
  subst e
  refine ⟨p, ns, rfl, k1, fun ns' l h1 h2 hl => ?_⟩
  rw [h ns' h1 h2]
  exact q l _ hl (dpInts zs)
end
/-! ### list(range(n)) -/
theorem dp_rg {K : PySem.W.Frag} {F : Hp} {a b : Int} : DxAll K F (rgV a b) (((List.range (b - a).toNat).map fun i => a + (i : Nat)).map .int) := by
  unfold rgV
  have : ((List.range (b - a).toNat).map fun i => V.int (a + (i : Nat))) = ((List.range (b - a).toNat).map fun i => a + (i : Nat)).map V.int := by rw [List.map_map]; rfl
  rw [this]
  exact dpInts _
theorem en_rg1 {g : Gm} {te : TE} {ρ ρ1 : Rho} {n : Int} (h : EvD g te ρ (.int n) ρ1) (hn : RgOk 0 n) : EvN g (tLstRg (tRg1 te)) ρ (((List.range (n - 0).toNat).map fun i => (0 : Int) + (i : Nat)).map .int) ρ1 := fun c F H σ k s Q q =>
  h c F H σ k s _ fun v F1 H1 s1 e1 x => by
    cases x
    exact ⟨n, rfl, hn, fun p hp => q p _ F1 H1 s1 e1 hp dp_rg⟩
end DL

namespace DL
open PySem PySem.Spec PyProof.Rows L2
theorem units70 {A : Around} {k : Nat} (hr : Room k A) : A.units + 70 < cLine := by have := hr.un; omega
/-! ### tuple(range(..)) -/
def tTupRgX (te : L2.St → Hp → (Int → Int → Hp → Prop) → Prop) : TE := fun σ H Q => te σ H fun a b H1 => RgOk a b ∧ NewT H1 Q (rgV a b)
theorem pe_tupRgX {X : Cx} {e : Expr} {te : L2.St → Hp → (Int → Int → Hp → Prop) → Prop} {p pos : Pos} (hc : X.calm = true) (hg : Gl X "tuple") (hm : X.mg "tuple" = none) (he : PRg X e te) (na : starEach [e] X.env = (false, eval e X.env) :: starEach [] X.env := by rfl) :
    PE X (.Call (.Name "tuple" p) [e] [] pos) (tTupRgX te) := by
  constructor
  intro pins s σ H Q I h
  refine Call_ (ld_blt I hg hm boot_tuple (PyProof.Rows.callWith_type1 (args_cons (thn (he pins s σ H _ I h) ?_) na) na))
  rintro x s1 ⟨r, a, b, t, u, v, H1, rfl, hr, J, ok, q⟩
  apply args_nil
  refine call_tuple_range (n := (b - a).toNat) (J.ok.hd hc) hr (small_one ok.1 ok.2.1 ok.2.2.1 ok.2.2.2.1) (rangeSize_nat a b) ok.2.2.2.2 fun h' tk acc hk hi => ?_
  have J2 : L2.Inv X pins σ H1 { s1 with heap := h', toks := tk } := J.kept hk
  have := Inv.laidE (Q := Q) J2 (vals_rg hi) (by have := ok.2.2.2.2; rw [rgV_length, sizeLine_eq]; omega) q
  unfold tupO at this
  rw [Array.toArray_toList] at this
  exact this
theorem ed_tupRg1 {g : Gm} {te : TE} {ρ ρ1 : Rho} {n : Int} (h : EvD g te ρ (.int n) ρ1) (hn : RgOk 0 n) : EvD g (tTupRgX (tRg1 te)) ρ (.tuple (((List.range (n - 0).toNat).map fun i => (0 : Int) + (i : Nat)).map .int)) ρ1 := fun c F H σ k s Q q =>
  h c F H σ k s _ fun v F1 H1 s1 e1 x => by
    cases x
    refine ⟨n, rfl, hn, fun p o hp ho => ?_⟩
    obtain ⟨s3, e3, q3⟩ := (Res.new hp ho dp_rg : Res c.K F1 H1 _ _ _ _).sim s1
    exact q _ _ _ s3 (e1.trans e3) q3
/-! ### repr -/
def uRepr (K : PySem.W.Frag) : List V → Hp → VK → Prop := fun xs H Q => rReprD K xs H Q ∨ ∃ i : Int, xs = [.int i] ∧ i.natAbs.log2 < 1920 ∧ Q (.str (toString i)) H
theorem cr_uRepr {X : Cx} (gA : X.A.guards = some []) (hu : X.A.units + 70 < cLine) : CallR X (.builtin "repr") (uRepr X.K) := fun pins s σ H xs us Q I r h => by
  rcases h with h | h
  · exact cr_repr gA hu pins s σ H xs us Q I r h
  · exact SkE.call_repr_int pins s σ H xs us Q I r h
theorem rc_uReprD {K : PySem.W.Frag} {d : D} (hl : (∃ ds, d = .list ds) ∨ ∃ ds, d = .tuple ds) (h1 : d.showable = true) (h2 : d.hasDict = false) (h3 : d.depth ≤ 64) (h4 : d.shown.length ≤ sizeLine) : RCD K (uRepr K) [d] (.str d.shown) :=
  fun F H xs Q f a q => .inl (rc_repr hl h1 h2 h3 h4 F H xs Q f a q)
theorem rc_uReprI {K : PySem.W.Frag} {i : Int} (h : i.natAbs.log2 < 1920) : RCD K (uRepr K) [.int i] (.str (toString i)) := fun F H xs Q f a q => by
  obtain ⟨v, rfl, a1⟩ := a.one
  exact .inr ⟨i, by rw [a1.int], h, q _ F H (.at (.str _))⟩
/-! ### d.setdefault(k, v), d an own dict -/
theorem ed_setd {g : Gm} {ty tx : TE} {ρ ρ1 ρ2 : Rho} {i : Nat} {k : Key} {d : D} {kvs kvs0 : List (Key × D)} (h0 : ρ[i]? = some (.own (.dK kvs0))) (hk : EvD g ty ρ (keyOf k) ρ1) (hd : EvD g tx ρ1 d ρ2) (h1 : ρ2[i]? = some (.own (.dK kvs))) (hz : kvs.length < sizeLine) :
    EvD g (tDSetd (tVar i) ty tx) ρ ((valD kvs k).getD d) (ρ2.set i (.own (.dK (if (valD kvs k).isSome then kvs else putD kvs k d)))) := fun c F H σ kk s Q q => by
  obtain ⟨a, xs, f1, f2, f3, _⟩ := s.dkAt h0
  refine ⟨.ref a, f1, a, rfl, .inl ⟨_, .inl f2⟩, hk c F H σ kk s _ fun v F1 H1 s1 e1 x => hd c F1 H1 σ kk s1 _ fun u F2 H2 s2 e2 y => ?_⟩
  obtain ⟨a', ys, g1, g2, g3, g4⟩ := s2.dkAt h1
  have := some_inj2 f1 g1
  subst this
  refine ⟨ys, k, g2, dp_key x, by rw [kd_len g3]; exact hz, fun v' hv => ?_, fun hv => ?_⟩
  · rcases kd_val k g3 with ⟨z1, z2⟩ | ⟨w, d', z1, z2, z3⟩
    · rw [z1] at hv; cases hv
    · rw [z1] at hv
      cases hv
      rw [z2] at q
      have e : (ρ2.set i (.own (.dK kvs))) = ρ2 := by
        apply List.ext_getElem?
        intro j
        by_cases z : j = i
        · subst z
          rw [List.getElem?_set_self (List.getElem?_eq_some_iff.mp h1).1, h1]
        · rw [List.getElem?_set_ne (Ne.symm z)]
      simp only [Option.isSome_some, if_true, Option.getD_some, e] at q
      exact q _ F2 H2 s2 (e1.trans e2) z3
  · rcases kd_val k g3 with ⟨z1, z2⟩ | ⟨w, d', z1, z2, z3⟩
    · rw [z2] at q
      simp only [Option.isSome_none, Option.getD_none, Bool.false_eq_true, if_false] at q
      exact q _ F2 _ (g4 _ _ ⟨rfl, _, upd_same, kd_put y g3⟩) (e1.trans e2) y
    · rw [z1] at hv; cases hv
/-! ### (x,) * n -/
def rRepX (K : PySem.W.Frag) : R2 := fun x y H Q => ∃ l k xs, x = .ref l ∧ y = .int k ∧ SqT K H l xs ∧ xs ≠ [] ∧ 2 ≤ k ∧ k ≤ 1000 ∧ xs.length ≤ 1000 ∧ NewT H Q (List.replicate k.toNat xs).flatten
theorem op_repX {X : Cx} : OpR X (binaryOp .Mult) (rRepX X.K) := by
  rintro pins s σ H x y v u Q I rx ry ⟨l, k, xs, rfl, rfl, hT, hne, k2, k3, lx, q⟩
  cases rx
  obtain ⟨t, rfl⟩ := ry
  obtain ⟨its, r, ⟨⟨cls, dd, data, sl⟩, ho, hc, n, hd⟩, _⟩ := I.tuple hT
  simp only at hc hd
  subst hc hd
  have le : its.length = xs.length := r.length.symm
  have nonempty : its.toArray.isEmpty = false := by
    cases its with
    | nil => exact absurd (List.eq_nil_of_length_eq_zero le.symm) hne
    | cons _ _ => rfl
  have bound : k.toNat * xs.length ≤ 1000000 := Nat.le_trans (Nat.mul_le_mul (show k.toNat ≤ 1000 by omega) lx) (by decide)
  have flen : (List.replicate k.toNat its).flatten.length ≤ sizeLine := by
    rw [PyProof.Rows.lm_len_rep_flat, le, sizeLine_eq]
    omega
  have boundI : ((its.toArray.size : Nat) : Int) * k ≤ 1000000 := by
    rw [List.size_toArray, le]
    have : ((xs.length : Nat) : Int) * k ≤ 1000 * k := Int.mul_le_mul_of_nonneg_right (by omega) (by omega)
    omega
  refine wpAny_binaryOp_repeat_ref (T := "tuple") (U := "int") (by decide) ⟨_, ho, rfl⟩ (fun s' => typeIs_int s' k t) noFill_tuple_mul F.fills_int_mul F.slot_int_rmul repeat_tuple F.slot_int_index.lookup ?_
  refine call_meets F.slot_int_rmul (typeIs_int s k t) F.entry_int_rmul (F.args_int_rmul_2 _ _) (int_rmul_tuple k t l its.toArray n dd sl) ⟨ho, rfl, ⟨_, ho, rfl⟩, ?_⟩
  refine call_meets F.slot_tuple_mul ⟨_, ho, rfl⟩ F.entry_tuple_mul (F.args_tuple_mul_2 _ _) (tuple_mulW l its.toArray n dd sl k t ?_ ?_ ?_ (by omega) ?_ (by rw [size_rep, List.size_toArray]; exact flen)) ⟨ho, ?_⟩
  · rw [decide_eq_false (by omega), decide_eq_false (by omega)]; rfl
  · rw [nonempty, Bool.false_or]; exact beq_eq_false_iff_ne.mpr (by omega)
  · rw [nonempty, Bool.or_false]; exact decide_eq_false (by omega)
  · unfold Builtin.Tuple.tupleTooMany
    rw [sizeLine_eq]
    exact decide_eq_false (by omega)
  · rw [size_rep]
    exact Inv.laidE (Q := Q) I (r.rep k.toNat) (by rw [PyProof.Rows.lm_len_rep_flat, sizeLine_eq]; omega) q
theorem r2_rep {K : PySem.W.Frag} {ds : List D} {n : Int} (h : ds ≠ []) (h0 : 2 ≤ n) (h1 : n ≤ 1000) (h2 : ds.length ≤ 1000) : R2D K (rRepX K) (.tuple ds) (.int n) (.tuple (List.replicate n.toNat ds).flatten) := fun F H x y Q f a b q => by
  obtain ⟨p, vs, rfl, k1, k2⟩ := a.tup f
  have hl := dpAllLen k2
  refine ⟨p, n, vs, rfl, b.int, k1, fun z => h ?_, h0, h1, by omega, fun l o hl' ho => q _ _ _ (.new hl' ho (rep n.toNat k2))⟩
  rw [z] at hl
  exact List.eq_nil_of_length_eq_zero hl.symm
where
  rep {K : PySem.W.Frag} {F : Hp} : ∀ (m : Nat) {vs : List V} {ds : List D}, DxAll K F vs ds → DxAll K F (List.replicate m vs).flatten (List.replicate m ds).flatten
    | 0, _, _, _ => .nil
    | m + 1, _, _, h => by
      rw [List.replicate_succ, List.replicate_succ, List.flatten_cons, List.flatten_cons]
      exact dpAllApp h (rep m h)
end DL

namespace DL
open PySem PySem.Spec PyProof.Rows L2
/-! ### x in l: texts in a list or a tuple of texts; data in a list -/
def uIn (K : PySem.W.Frag) : R2 := fun x y H Q => rIn K false x y H Q ∨ rInD K x y H Q
def uNotIn (K : PySem.W.Frag) : R2 := fun x y H Q => rIn K true x y H Q ∨ rNotInD K x y H Q
theorem op_uIn {X : Cx} (hu : X.A.units + 65 < cLine) : OpR X (compareOp .In) (uIn X.K) := OpR.or op_in_seq (op_inD hu)
theorem op_uNotIn {X : Cx} (hu : X.A.units + 65 < cLine) : OpR X (compareOp .NotIn) (uNotIn X.K) := OpR.or op_notIn_seq (op_notInD hu)
theorem inV_strs (y : Str) (ys : List Str) : inV (.str y) (ys.map .str) = ys.any fun z => z == y := by
  unfold inV
  rw [List.any_map]
  rfl
theorem flatStrs (ys : List Str) : (ys.map V.str).all flatV = true := by
  rw [List.all_map]
  exact List.all_eq_true.mpr fun _ _ => rfl
section
variable {K : PySem.W.Frag} {y : Str} {ys : List Str} {d : D} {ds : List D}
theorem ri_strT : R2D K (uIn K) (.str y) (.tuple (ys.map .str)) (.bool (ys.any fun z => z == y)) := fun F H x l Q f a b q => by
  obtain ⟨p, vs, rfl, k1, k2⟩ := b.tup f
  have e := dp_strs k2
  subst e
  cases a.str
  exact .inl ⟨p, _, rfl, .inr k1, rfl, flatStrs ys, by rw [inV_strs]; exact q _ F H (.at (.bl _))⟩
theorem ri_strL : R2D K (uIn K) (.str y) (.list (ys.map .str)) (.bool (ys.any fun z => z == y)) := fun F H x l Q f a b q => by
  obtain ⟨p, vs, rfl, k1, k2⟩ := b.list f
  have e := dp_strs k2
  subst e
  cases a.str
  exact .inl ⟨p, _, rfl, .inl k1, rfl, flatStrs ys, by rw [inV_strs]; exact q _ F H (.at (.bl _))⟩
theorem ri_dat (h1 : SeqAt.shaped d = true) (h2 : SeqAt.shaped (.list ds) = true) : R2D K (uIn K) d (.list ds) (.bool (ds.any fun z => PyData.eqv z d)) := fun F H x l Q f a b q => .inr (r2_inD h1 h2 F H x l Q f a b q)
theorem rn_dat (h1 : SeqAt.shaped d = true) (h2 : SeqAt.shaped (.list ds) = true) : R2D K (uNotIn K) d (.list ds) (.bool (!ds.any fun z => PyData.eqv z d)) := fun F H x l Q f a b q => .inr (r2_notInD h1 h2 F H x l Q f a b q)
end
/-! ### x + [..], x an own list -/
theorem en_catO {g : Gm} {te : TE} {ρ ρ1 : Rho} {i : Nat} {ds ds0 es : List D} (h0 : ρ[i]? = some (.own (.lst ds0))) (he : EvN g te ρ es ρ1) (h1 : ρ1[i]? = some (.own (.lst ds))) (hz : ds.length + es.length ≤ sizeLine) : EvN g (tOp rCat (tVar i) te) ρ (ds ++ es) ρ1 := fun c F H σ k s Q q => by
  obtain ⟨a, ws, f1, f2, f3, f4⟩ := s.lstAt h0
  refine ⟨.ref a, f1, he c F H σ k s _ fun p vs F1 H1 s1 e1 hp ha => ?_⟩
  obtain ⟨b, us, g1, g2, g3, g4⟩ := s1.lstAt h1
  have := some_inj2 f1 g1
  subst this
  have ne : a ≠ p := fun z => by
    rw [z, hp] at g2
    cases g2
  refine ⟨a, p, us, vs, rfl, rfl, by rw [upd_ne ne]; exact g2, upd_same, by rw [dpAllLen g4, dpAllLen ha]; exact hz, fun p2 h2 => ?_⟩
  have e2 : Same F1 (upd F1 p (.lst vs)) := sameNew (freeF s1.fh hp)
  exact q p2 (us ++ vs) _ _ (s1.grow hp) (e1.trans e2) h2 (dpAllApp (dpAllUp e2 g4) (dpAllUp e2 ha))
end DL

namespace EV
open PySem PySem.Spec PyProof.Rows L2 DL
variable {K : PySem.W.Frag} {g : Gm}
/-! ### operations on data, told by functions -/
inductive Op where
  | add | sub | mul | fdiv | mod | pow | eq | ne | lt | le | gt | ge | isIn | notIn | ix
/-- data, or a new list -/
inductive Rz where
  | d (z : D)
  | n (zs : List D)
def flatD : D → Bool
  | .none => true
  | .bool _ => true
  | .int _ => true
  | .str _ => true
  | _ => false
def inD (d : D) (ds : List D) : Bool := ds.any fun z => PyData.eqv z d
def op2 : Op → D → D → Option Rz
  | .add, .int i, .int j => some (.d (.int (i + j)))
  | .add, .str i, .str j => if i.length + j.length ≤ sizeLine then some (.d (.str (i ++ j))) else none
  | .add, .tuple xs, .tuple ys => if xs.length + ys.length ≤ sizeLine then some (.d (.tuple (xs ++ ys))) else none
  | .add, .list xs, .list ys => if xs.length + ys.length ≤ sizeLine then some (.n (xs ++ ys)) else none
  | .sub, .int i, .int j => some (.d (.int (i - j)))
  | .mul, .int i, .int j => if (-(2 ^ 64) < i ∧ i < 2 ^ 64) ∨ (-(2 ^ 64) < j ∧ j < 2 ^ 64) then some (.d (.int (i * j))) else none
  | .mul, .tuple xs, .int k => if xs ≠ [] ∧ 2 ≤ k ∧ k ≤ 1000 ∧ xs.length ≤ 1000 then some (.d (.tuple (List.replicate k.toNat xs).flatten)) else none
  | .fdiv, .int i, .int j => if 0 < j ∧ j < 1073741824 then some (.d (.int (i / j))) else none
  | .mod, .int i, .int j => if 0 < j then some (.d (.int (i % j))) else none
  | .pow, .int i, .int j => if 0 ≤ j ∧ j ≤ 1000000 ∧ i.natAbs < 2 ^ 64 then some (.d (.int (i ^ j.toNat))) else none
  | .eq, .str i, .str j => some (.d (.bool (i == j)))
  | .eq, d, e => if SeqAt.shaped d = true ∧ SeqAt.shaped e = true then some (.d (.bool (PyData.eqv d e))) else none
  | .ne, .str i, .str j => some (.d (.bool (!(i == j))))
  | .ne, d, e => if SeqAt.shaped d = true ∧ SeqAt.shaped e = true then some (.d (.bool (!PyData.eqv d e))) else none
  | .lt, .int i, .int j => some (.d (.bool (decide (i < j))))
  | .le, .int i, .int j => some (.d (.bool (decide (i ≤ j))))
  | .gt, .int i, .int j => some (.d (.bool (decide (j < i))))
  | .ge, .int i, .int j => some (.d (.bool (decide (j ≤ i))))
  | .isIn, d, .list ds => if SeqAt.shaped d = true ∧ SeqAt.shaped (.list ds) = true then some (.d (.bool (inD d ds))) else none
  | .isIn, d, .tuple ds => if flatD d = true ∧ ds.all flatD = true then some (.d (.bool (inD d ds))) else none
  | .notIn, d, .list ds => if SeqAt.shaped d = true ∧ SeqAt.shaped (.list ds) = true then some (.d (.bool (!inD d ds))) else none
  | .notIn, d, .tuple ds => if flatD d = true ∧ ds.all flatD = true then some (.d (.bool (!inD d ds))) else none
  | .ix, .list ds, .int i => (atI ds i).map .d
  | .ix, .tuple ds, .int i => (atI ds i).map .d
  | .ix, .str z, .int i => if z.length ≤ sizeLine then (atI z.cps.toList i).map fun cp => .d (.str ⟨#[cp]⟩) else none
  | _, _, _ => none
/-- list + list, of any lists -/
def rCatL (K : PySem.W.Frag) : R2 := fun x y H Q => ∃ a b xs ys, x = .ref a ∧ y = .ref b ∧ SqL K H a xs ∧ SqL K H b ys ∧ xs.length + ys.length ≤ sizeLine ∧ ∀ p, H p = none → Q (.ref p) (upd H p (.lst (xs ++ ys)))
theorem op_catL {X : Cx} : OpR X (binaryOp .Add) (rCatL X.K) := by
  rintro pins s σ H x y v u Q I rx ry ⟨a, b, xs, ys, rfl, rfl, ha, hb, hz, q⟩
  cases rx
  cases ry
  obtain ⟨its, r, ⟨⟨cls, dd, data, sl⟩, n, e, hc, hd, hl⟩, _⟩ := I.list ha
  obtain ⟨its2, r2, ⟨⟨cls2, dd2, data2, sl2⟩, n2, e2, hc2, hd2, hl2⟩, _⟩ := I.list hb
  simp only at hc hd hl hc2 hd2 hl2
  subst hc hd hl hc2 hd2 hl2
  have ee : its.toArray ++ its2.toArray = (its ++ its2).toArray := by simp
  refine concat_meets ⟨_, e, rfl⟩ ⟨_, e2, rfl⟩ noFill_list_add seq_list_add PySem.F.slot_list_add PySem.F.entry_list_add (PySem.F.args_list_add_2 _ _) (list_addW a b its.toArray its2.toArray n n2 none none sl sl2 (by simp; rw [← r.length, ← r2.length]; exact hz)) ⟨e, e2, ?_⟩
  rw [ee]
  exact ⟨.ref _, _, I.lnew (t' := s.toks) (r.append r2) (by rw [List.length_append]; omega), rfl, q _ I.fresh⟩
def opK (K : PySem.W.Frag) : Op → R2
  | .add => fun x y H Q => uAdd K x y H Q ∨ rCatL K x y H Q
  | .sub => rI0 fun i j => .int (i - j)
  | .mul => fun x y H Q => rI CMul (fun i j => .int (i * j)) x y H Q ∨ rRepX K x y H Q
  | .fdiv => rI CDiv fun i j => .int (i / j)
  | .mod => rI (fun _ j => 0 < j) fun i j => .int (i % j)
  | .pow => rI CPow fun i j => .int (i ^ j.toNat)
  | .eq => fun x y H Q => rEqD K x y H Q ∨ rEq x y H Q
  | .ne => fun x y H Q => rNeD K x y H Q ∨ rNe x y H Q
  | .lt => rI0 fun i j => .bl (decide (i < j))
  | .le => rI0 fun i j => .bl (decide (i ≤ j))
  | .gt => rI0 fun i j => .bl (decide (j < i))
  | .ge => rI0 fun i j => .bl (decide (j ≤ i))
  | .isIn => uIn K
  | .notIn => uNotIn K
  | .ix => rIx K
theorem opr_add {X : Cx} : OpR X (binaryOp .Add) (opK X.K .add) := OpR.or op_uAdd op_catL
theorem opr_sub {X : Cx} : OpR X (binaryOp .Sub) (opK X.K .sub) := op_sub
theorem opr_mul {X : Cx} : OpR X (binaryOp .Mult) (opK X.K .mul) := OpR.or op_mul op_repX
theorem opr_fdiv {X : Cx} : OpR X (binaryOp .FloorDiv) (opK X.K .fdiv) := op_fdiv
theorem opr_mod {X : Cx} : OpR X (binaryOp .Mod) (opK X.K .mod) := op_mod
theorem opr_pow {X : Cx} : OpR X (binaryOp .Pow) (opK X.K .pow) := op_pow
theorem opr_eq {X : Cx} (hu : X.A.units + 64 < cLine) : OpR X (compareOp .Eq) (opK X.K .eq) := OpR.or (op_eqD hu) op_eq
theorem opr_ne {X : Cx} (hu : X.A.units + 64 < cLine) : OpR X (compareOp .NotEq) (opK X.K .ne) := OpR.or (op_neD hu) op_ne
theorem opr_lt {X : Cx} : OpR X (compareOp .Lt) (opK X.K .lt) := op_lt
theorem opr_le {X : Cx} : OpR X (compareOp .LtE) (opK X.K .le) := op_le
theorem opr_gt {X : Cx} : OpR X (compareOp .Gt) (opK X.K .gt) := op_gt
theorem opr_ge {X : Cx} : OpR X (compareOp .GtE) (opK X.K .ge) := op_ge
theorem opr_in {X : Cx} (hu : X.A.units + 65 < cLine) : OpR X (compareOp .In) (opK X.K .isIn) := op_uIn hu
theorem opr_notIn {X : Cx} (hu : X.A.units + 65 < cLine) : OpR X (compareOp .NotIn) (opK X.K .notIn) := op_uNotIn hu
/-! the operations keep to their functions -/
theorem flat_v {F : Hp} {v : V} {d : D} (h : Dx K F v d) (hf : flatD d = true) : flatV v = true := by
  cases h <;> first | rfl | cases hf
theorem flats_v {F : Hp} : ∀ {vs : List V} {ds : List D}, DxAll K F vs ds → ds.all flatD = true → vs.all flatV = true
  | _, _, .nil, _ => rfl
  | _, _, .cons h t, hf => by
    rw [List.all_cons, Bool.and_eq_true] at hf ⊢
    exact ⟨flat_v h hf.1, flats_v t hf.2⟩
theorem eqV_D {F : Hp} {u v : V} {d e : D} (h : Dx K F u d) (h2 : Dx K F v e) (hd : flatD d = true) (he : flatD e = true) : eqV u v = PyData.eqv d e := by
  cases h <;> first | (cases h2 <;> first | rfl | cases he) | cases hd
theorem inV_D {F : Hp} {v : V} {d : D} (h : Dx K F v d) (hd : flatD d = true) : ∀ {vs : List V} {ds : List D}, DxAll K F vs ds → ds.all flatD = true → inV v vs = inD d ds
  | _, _, .nil, _ => rfl
  | _, _, .cons a t, hf => by
    rw [List.all_cons, Bool.and_eq_true] at hf
    have e := inV_D h hd t hf.2
    unfold inV inD at e ⊢
    rw [List.any_cons, List.any_cons, e, eqV_D a h hf.1 hd]
theorem Opd.flat {F H : Hp} {v : V} {d : D} (h : Opd K F H v d) (hd : flatD d = true) : Dx K F v d := by
  rcases h with h | ⟨a, vs, ds, rfl, rfl, _⟩
  · exact h
  · cases hd
theorem inT {d : D} {ds : List D} {neg : Bool} (h1 : flatD d = true) (h2 : ds.all flatD = true) : R2D K (rIn K neg) d (.tuple ds) (.bool (if neg then !inD d ds else inD d ds)) := fun F H x l Q f a b q => by
  obtain ⟨p, vs, rfl, k1, k2⟩ := b.tup f
  have a' := Opd.flat a h1
  refine ⟨p, vs, rfl, .inr k1, flat_v a' h1, flats_v k2 h2, ?_⟩
  rw [inV_D a' h1 k2 h2]
  exact q _ F H (.at (.bl _))
theorem catLN {xs ys : List D} (hz : xs.length + ys.length ≤ sizeLine) : R2N K (rCatL K) (.list xs) (.list ys) (xs ++ ys) := fun F H x y Q f a b q => by
  obtain ⟨p, vs, rfl, k1, k2⟩ := a.list f
  obtain ⟨r, ws, rfl, m1, m2⟩ := b.list f
  exact ⟨p, r, vs, ws, rfl, rfl, k1, m1, by rw [dpAllLen k2, dpAllLen m2]; exact hz, fun t ht => q t _ ht (dpAllApp k2 m2)⟩
theorem r2n_or2 {r r' : R2} {d e : D} {zs : List D} (h : R2N K r' d e zs) : R2N K (fun x y H Q => r x y H Q ∨ r' x y H Q) d e zs := fun F H x y Q f a b q => .inr (h F H x y Q f a b q)
def RzOk (K : PySem.W.Frag) (r : R2) (d e : D) : Rz → Prop
  | .d z => R2D K r d e z
  | .n zs => R2N K r d e zs
theorem op2_ok (o : Op) (d e : D) (z : Rz) (h : op2 o d e = some z) : RzOk K (opK K o) d e z := by
  revert h
  unfold op2
  split <;> intro h
  case h_1 => cases h; exact r2_or1 ra_int
  case h_2 =>
    split at h
    · cases h; exact r2_or1 (ra_str ‹_›)
    · cases h
  case h_3 =>
    split at h
    · cases h; exact r2_or1 (ra_tup ‹_›)
    · cases h
  case h_4 =>
    split at h
    · cases h; exact r2n_or2 (catLN ‹_›)
    · cases h
  case h_5 => cases h; exact r2_int
  case h_6 =>
    split at h
    · cases h; exact r2_or1 (r2_intC ‹_›)
    · cases h
  case h_7 =>
    split at h
    · rename_i hh
      cases h; exact r2_or2 (r2_rep hh.1 hh.2.1 hh.2.2.1 hh.2.2.2)
    · cases h
  case h_8 =>
    split at h
    · cases h; exact r2_intC ‹_›
    · cases h
  case h_9 =>
    split at h
    · cases h; exact r2_intC ‹_›
    · cases h
  case h_10 =>
    split at h
    · rename_i hh
      cases h; exact r2_intC (C := CPow) (f := fun i j => i ^ j.toNat) hh
    · cases h
  case h_11 => cases h; exact r2_or2 fun F H x y Q f a b q => ⟨by rw [a.str, b.str]; rfl, by rw [a.str, b.str, dec_str]; exact q _ F H (.at (.bl _))⟩
  case h_13 => cases h; exact r2_or2 fun F H x y Q f a b q => ⟨by rw [a.str, b.str]; rfl, by rw [a.str, b.str, dec_str]; exact q _ F H (.at (.bl _))⟩
  case h_12 =>
    split at h
    · rename_i hh
      cases h; exact r2_or1 (r2_eqD hh.1 hh.2)
    · cases h
  case h_14 =>
    split at h
    · rename_i hh
      cases h; exact r2_or1 (r2_neD hh.1 hh.2)
    · cases h
  case h_15 => cases h; exact r2_bl (f := fun i j => decide (i < j))
  case h_16 => cases h; exact r2_bl (f := fun i j => decide (i ≤ j))
  case h_17 => cases h; exact r2_bl (f := fun i j => decide (j < i))
  case h_18 => cases h; exact r2_bl (f := fun i j => decide (j ≤ i))
  case h_19 =>
    split at h
    · rename_i hh
      cases h; exact ri_dat hh.1 hh.2
    · cases h
  case h_20 =>
    split at h
    · rename_i hh
      cases h; exact fun F H x l Q f a b q => .inl (inT (neg := false) hh.1 hh.2 F H x l Q f a b q)
    · cases h
  case h_21 =>
    split at h
    · rename_i hh
      cases h; exact rn_dat hh.1 hh.2
    · cases h
  case h_22 =>
    split at h
    · rename_i hh
      cases h; exact fun F H x l Q f a b q => .inl (inT (neg := true) hh.1 hh.2 F H x l Q f a b q)
    · cases h
  case h_23 =>
    obtain ⟨a, h1, rfl⟩ := Option.map_eq_some_iff.mp h
    exact rx_L h1
  case h_24 =>
    obtain ⟨a, h1, rfl⟩ := Option.map_eq_some_iff.mp h
    exact rx_T h1
  case h_25 =>
    split at h
    · rename_i hh
      obtain ⟨a, h1, rfl⟩ := Option.map_eq_some_iff.mp h
      exact rx_S hh h1
    · cases h
  case h_26 => cases h
end EV

namespace EV
open PySem PySem.Spec PyProof.Rows L2 DL
variable {K : PySem.W.Frag} {g : Gm}
/-! ### built-in functions over data -/
inductive Bf where
  | len | abs | int | tuple | list | all | any | max | min | sum | sorted | repr | str
def intsOf : List D → Option (List Int)
  | [] => some []
  | .int i :: ds => (intsOf ds).map (i :: ·)
  | _ => none
def boolsOf : List D → Option (List Bool)
  | [] => some []
  | .bool i :: ds => (boolsOf ds).map (i :: ·)
  | _ => none
def strsOf : List D → Option (List Str)
  | [] => some []
  | .str i :: ds => (strsOf ds).map (i :: ·)
  | _ => none
theorem intsOf_eq : ∀ {ds : List D} {ns : List Int}, intsOf ds = some ns → ds = ns.map .int
  | [], ns, h => by cases h; rfl
  | .int i :: ds, ns, h => by
    obtain ⟨ms, h1, rfl⟩ := Option.map_eq_some_iff.mp (show (intsOf ds).map (i :: ·) = some ns from h)
    rw [intsOf_eq h1]; rfl
  | .none :: _, _, h | .bool _ :: _, _, h | .str _ :: _, _, h | .list _ :: _, _, h | .tuple _ :: _, _, h | .dict _ :: _, _, h => by cases h
theorem boolsOf_eq : ∀ {ds : List D} {ns : List Bool}, boolsOf ds = some ns → ds = ns.map .bool
  | [], ns, h => by cases h; rfl
  | .bool i :: ds, ns, h => by
    obtain ⟨ms, h1, rfl⟩ := Option.map_eq_some_iff.mp (show (boolsOf ds).map (i :: ·) = some ns from h)
    rw [boolsOf_eq h1]; rfl
  | .none :: _, _, h | .int _ :: _, _, h | .str _ :: _, _, h | .list _ :: _, _, h | .tuple _ :: _, _, h | .dict _ :: _, _, h => by cases h
theorem strsOf_eq : ∀ {ds : List D} {ns : List Str}, strsOf ds = some ns → ds = ns.map .str
  | [], ns, h => by cases h; rfl
  | .str i :: ds, ns, h => by
    obtain ⟨ms, h1, rfl⟩ := Option.map_eq_some_iff.mp (show (strsOf ds).map (i :: ·) = some ns from h)
    rw [strsOf_eq h1]; rfl
  | .none :: _, _, h | .int _ :: _, _, h | .bool _ :: _, _, h | .list _ :: _, _, h | .tuple _ :: _, _, h | .dict _ :: _, _, h => by cases h
@[simp] theorem intsOf_map : ∀ ns : List Int, intsOf (ns.map .int) = some ns
  | [] => rfl
  | n :: ns => by simp [intsOf, intsOf_map ns]
@[simp] theorem boolsOf_map : ∀ ns : List Bool, boolsOf (ns.map .bool) = some ns
  | [] => rfl
  | n :: ns => by simp [boolsOf, boolsOf_map ns]
@[simp] theorem strsOf_map : ∀ ns : List Str, strsOf (ns.map .str) = some ns
  | [] => rfl
  | n :: ns => by simp [strsOf, strsOf_map ns]
def insI (x : Int) : List Int → List Int
  | [] => [x]
  | y :: l => if x ≤ y then x :: y :: l else y :: insI x l
def sortI : List Int → List Int
  | [] => []
  | x :: l => insI x (sortI l)
theorem insI_perm (x : Int) : ∀ l : List Int, (insI x l).Perm (x :: l)
  | [] => .refl _
  | y :: l => by
    unfold insI
    split
    · exact .refl _
    · exact ((insI_perm x l).cons y).trans (.swap x y l)
theorem sortI_perm : ∀ l : List Int, (sortI l).Perm l
  | [] => .refl _
  | x :: l => (insI_perm x _).trans ((sortI_perm l).cons x)
theorem insI_sorted (x : Int) : ∀ l : List Int, l.Pairwise (· ≤ ·) → (insI x l).Pairwise (· ≤ ·)
  | [], _ => by simp [insI]
  | y :: l, h => by
    unfold insI
    obtain ⟨h1, h2⟩ := List.pairwise_cons.mp h
    split
    · rename_i hx
      refine List.pairwise_cons.mpr ⟨fun z m => ?_, h⟩
      rcases List.mem_cons.mp m with m | m
      · rw [m]; exact hx
      · have := h1 z m; omega
    · rename_i hx
      refine List.pairwise_cons.mpr ⟨fun z m => ?_, insI_sorted x l h2⟩
      rcases List.mem_cons.mp ((insI_perm x l).mem_iff.mp m) with m | m
      · omega
      · exact h1 z m
theorem sortI_sorted : ∀ l : List Int, (sortI l).Pairwise (· ≤ ·)
  | [] => .nil
  | x :: l => insI_sorted x _ (sortI_sorted l)
theorem sorted_one {a b : List Int} (p : a.Perm b) (ha : a.Pairwise (· ≤ ·)) (hb : b.Pairwise (· ≤ ·)) : a = b :=
  p.eq_of_pairwise (fun x y _ _ h1 h2 => by omega) ha hb
def cb1 : Bf → List D → Option Rz
  | .len, [.list ds] => some (.d (.int ds.length))
  | .len, [.tuple ds] => some (.d (.int ds.length))
  | .abs, [.int i] => some (.d (.int (if i < 0 then -i else i)))
  | .int, [.int i] => some (.d (.int i))
  | .int, [.bool b] => some (.d (.int (if b then 1 else 0)))
  | .tuple, [.list ds] => some (.d (.tuple ds))
  | .list, [.list ds] => some (.n ds)
  | .list, [.tuple ds] => some (.n ds)
  | .all, [.list ds] => (boolsOf ds).map fun bs => .d (.bool (bs.all id))
  | .any, [.list ds] => (boolsOf ds).map fun bs => .d (.bool (bs.any id))
  | .max, [.list ds] => (intsOf ds).bind fun ns => match ns with | [] => none | n :: ns => some (.d (.int (ns.foldl max n)))
  | .max, [.tuple ds] => (intsOf ds).bind fun ns => match ns with | [] => none | n :: ns => some (.d (.int (ns.foldl max n)))
  | .min, [.list ds] => (intsOf ds).bind fun ns => match ns with | [] => none | n :: ns => some (.d (.int (ns.foldl min n)))
  | .max, [.int i, .int j] => some (.d (.int (if j > i then j else i)))
  | .min, [.int i, .int j] => some (.d (.int (if j < i then j else i)))
  | .sum, [.list ds] => (intsOf ds).map fun ns => .d (.int ns.sum)
  | .sorted, [.list ds] => (intsOf ds).map fun ns => .n ((sortI ns).map .int)
  | .repr, [.int i] => if i.natAbs.log2 < 1920 then some (.d (.str (toString i))) else none
  | .repr, [.list ds] => if (PyData.list ds).showable = true ∧ (PyData.list ds).hasDict = false ∧ (PyData.list ds).depth ≤ 64 ∧ (PyData.list ds).shown.length ≤ sizeLine then some (.d (.str (PyData.list ds).shown)) else none
  | .repr, [.tuple ds] => if (PyData.tuple ds).showable = true ∧ (PyData.tuple ds).hasDict = false ∧ (PyData.tuple ds).depth ≤ 64 ∧ (PyData.tuple ds).shown.length ≤ sizeLine then some (.d (.str (PyData.tuple ds).shown)) else none
  | .str, [.int i] => if i.natAbs.log2 < 1920 then some (.d (.str (toString i))) else none
  | _, _ => none
abbrev CRd := List V → Hp → VK → Prop
def rMax2 : CRd := fun xs H Q => ∃ i j, xs = [.int i, .int j] ∧ Q (.int (if j > i then j else i)) H
def rMin2 : CRd := fun xs H Q => ∃ i j, xs = [.int i, .int j] ∧ Q (.int (if j < i then j else i)) H
def rStrI : CRd := fun xs H Q => ∃ i : Int, xs = [.int i] ∧ i.natAbs.log2 < 1920 ∧ Q (.str (toString i)) H
def bfK (K : PySem.W.Frag) : Bf → CRd
  | .len => DL.rLen K
  | .abs => DL.rAbs
  | .int => DL.rInt1
  | .tuple => DL.rTuple K
  | .list => DL.rList K
  | .all => rAll K
  | .any => rAny K
  | .max => fun xs H Q => uMax K xs H Q ∨ rMax2 xs H Q
  | .min => fun xs H Q => rMin K xs H Q ∨ rMin2 xs H Q
  | .sum => rSum K
  | .sorted => rSortedI K
  | .repr => uRepr K
  | .str => rStrI
theorem CallR.or {X : Cx} {f : Value} {r r' : CRd} (h : CallR X f r) (h' : CallR X f r') : CallR X f (fun xs H Q => r xs H Q ∨ r' xs H Q) := by
  intro pins s σ H xs us Q I r q
  rcases q with q | q
  · exact h pins s σ H xs us Q I r q
  · exact h' pins s σ H xs us Q I r q
theorem cf_len {X : Cx} : CallR X (.builtin "len") (bfK X.K .len) := cr_len
theorem cf_abs {X : Cx} : CallR X (.builtin "abs") (bfK X.K .abs) := cr_abs
theorem cf_int {X : Cx} : CallR X (.type "int") (bfK X.K .int) := cr_int
theorem cf_tuple {X : Cx} : CallR X (.type "tuple") (bfK X.K .tuple) := cr_tuple
theorem cf_list {X : Cx} : CallR X (.type "list") (bfK X.K .list) := cr_list
theorem cf_all {X : Cx} (hc : X.calm = true) : CallR X (.builtin "all") (bfK X.K .all) := cr_all hc
theorem cf_any {X : Cx} (hc : X.calm = true) : CallR X (.builtin "any") (bfK X.K .any) := cr_any hc
theorem cf_max {X : Cx} (hc : X.calm = true) (hu : X.A.units + 65 < cLine) : CallR X (.builtin "max") (bfK X.K .max) := CallR.or (cr_uMax hc hu) (call_max2 hc)
theorem cf_min {X : Cx} (hc : X.calm = true) : CallR X (.builtin "min") (bfK X.K .min) := CallR.or (cr_min hc) (call_min2 hc)
theorem cf_sum {X : Cx} (hc : X.calm = true) : CallR X (.builtin "sum") (bfK X.K .sum) := cr_sum hc
theorem cf_sorted {X : Cx} : CallR X (.builtin "sorted") (bfK X.K .sorted) := cr_sortedI
theorem cf_repr {X : Cx} (gA : X.A.guards = some []) (hu : X.A.units + 70 < cLine) : CallR X (.builtin "repr") (bfK X.K .repr) := cr_uRepr gA hu
theorem cf_str {X : Cx} : CallR X (.type "str") (bfK X.K .str) := call_str_int
def CzOk (K : PySem.W.Frag) (r : CRd) (ds : List D) : Rz → Prop
  | .d z => RCD K r ds z
  | .n zs => RCN K r ds zs
theorem min_mem : ∀ (ns : List Int) (n : Int), (ns.foldl min n = n ∨ ns.foldl min n ∈ ns) ∧ ns.foldl min n ≤ n ∧ ∀ y ∈ ns, ns.foldl min n ≤ y
  | [], n => ⟨.inl rfl, Int.le_refl _, fun y m => nomatch m⟩
  | m :: ns, n => by
    obtain ⟨h1, h2, h3⟩ := min_mem ns (min n m)
    rw [List.foldl_cons]
    refine ⟨?_, by omega, fun y my => ?_⟩
    · rcases h1 with h1 | h1
      · rw [h1]
        rcases Int.le_total n m with q | q
        · exact .inl (by omega)
        · exact .inr (by rw [show min n m = m by omega]; exact List.mem_cons_self)
      · exact .inr (List.mem_cons_of_mem _ h1)
    · rcases List.mem_cons.mp my with my | my
      · rw [my]; omega
      · exact h3 y my
theorem rc_minL {n : Int} {ns : List Int} : RCD K (rMin K) [.list ((n :: ns).map .int)] (.int (ns.foldl min n)) := fun F H xs Q f a q => by
  obtain ⟨v, rfl, a1⟩ := a.one
  obtain ⟨p, vs, rfl, h1, k1⟩ := a1.list f
  rw [dp_ints k1] at h1
  refine ⟨p, n :: ns, rfl, h1, by simp, fun m hm hy => ?_⟩
  obtain ⟨m1, m2, m3⟩ := min_mem ns n
  have e1 : m ≤ ns.foldl min n := by
    rcases m1 with z | z
    · rw [z]; exact hy n List.mem_cons_self
    · exact hy _ (List.mem_cons_of_mem _ z)
  have e2 : ns.foldl min n ≤ m := by
    rcases List.mem_cons.mp hm with z | z
    · rw [z]; exact m2
    · exact m3 m z
  rw [show m = ns.foldl min n by omega]
  exact q _ F H (.at (.int _))
theorem rc_two {f : Int → Int → Int} {i j : Int} : RCD K (fun xs H Q => ∃ i j, xs = [.int i, .int j] ∧ Q (.int (f i j)) H) [.int i, .int j] (.int (f i j)) := fun F H xs Q _ a q => by
  obtain ⟨v, w, rfl, a1, a2⟩ := a.two
  exact ⟨i, j, by rw [a1.int, a2.int], q _ F H (.at (.int _))⟩
theorem rc_sum {ns : List Int} : RCD K (rSum K) [.list (ns.map .int)] (.int ns.sum) := fun F H xs Q f a q => by
  obtain ⟨v, rfl, a1⟩ := a.one
  obtain ⟨p, vs, rfl, h1, k1⟩ := a1.list f
  rw [dp_ints k1] at h1
  exact ⟨p, ns, rfl, h1, q _ F H (.at (.int _))⟩
theorem rc_strI {i : Int} (h : i.natAbs.log2 < 1920) : RCD K rStrI [.int i] (.str (toString i)) := fun F H xs Q f a q => by
  obtain ⟨v, rfl, a1⟩ := a.one
  exact ⟨i, by rw [a1.int], h, q _ F H (.at (.str _))⟩
theorem rcd_or1 {r r' : CRd} {ds : List D} {z : D} (h : RCD K r ds z) : RCD K (fun xs H Q => r xs H Q ∨ r' xs H Q) ds z := fun F H xs Q f a q => .inl (h F H xs Q f a q)
theorem rcd_or2 {r r' : CRd} {ds : List D} {z : D} (h : RCD K r' ds z) : RCD K (fun xs H Q => r xs H Q ∨ r' xs H Q) ds z := fun F H xs Q f a q => .inr (h F H xs Q f a q)
theorem cb1_ok (f : Bf) (ds : List D) (z : Rz) (h : cb1 f ds = some z) : CzOk K (bfK K f) ds z := by
  revert h
  unfold cb1
  split <;> intro h
  case h_1 => cases h; exact rc_lenL
  case h_2 => cases h; exact rc_lenT
  case h_3 => cases h; exact rc_abs
  case h_4 => cases h; exact rc_int
  case h_5 => cases h; exact rc_intB
  case h_6 => cases h; exact rc_tupL
  case h_7 => cases h; exact rc_listL
  case h_8 => cases h; exact rc_listT
  case h_9 =>
    obtain ⟨bs, h1, rfl⟩ := Option.map_eq_some_iff.mp h
    rw [boolsOf_eq h1]; exact rc_all
  case h_10 =>
    obtain ⟨bs, h1, rfl⟩ := Option.map_eq_some_iff.mp h
    rw [boolsOf_eq h1]; exact rc_any
  case h_11 =>
    obtain ⟨ns, h1, h2⟩ := Option.bind_eq_some_iff.mp h
    rw [intsOf_eq h1]
    cases ns with
    | nil => cases h2
    | cons n ns => cases h2; exact rcd_or1 rc_maxL
  case h_12 =>
    obtain ⟨ns, h1, h2⟩ := Option.bind_eq_some_iff.mp h
    rw [intsOf_eq h1]
    cases ns with
    | nil => cases h2
    | cons n ns => cases h2; exact rcd_or1 rc_maxT
  case h_13 =>
    obtain ⟨ns, h1, h2⟩ := Option.bind_eq_some_iff.mp h
    rw [intsOf_eq h1]
    cases ns with
    | nil => cases h2
    | cons n ns => cases h2; exact rcd_or1 rc_minL
  case h_14 => cases h; exact rcd_or2 (rc_two (f := fun i j => if j > i then j else i))
  case h_15 => cases h; exact rcd_or2 (rc_two (f := fun i j => if j < i then j else i))
  case h_16 =>
    obtain ⟨ns, h1, rfl⟩ := Option.map_eq_some_iff.mp h
    rw [intsOf_eq h1]; exact rc_sum
  case h_17 =>
    obtain ⟨ns, h1, rfl⟩ := Option.map_eq_some_iff.mp h
    rw [intsOf_eq h1]; exact rc_sorted fun ns' p s => sorted_one (p.trans (sortI_perm ns).symm) s (sortI_sorted ns)
  case h_18 =>
    split at h
    · cases h; exact rc_uReprI ‹_›
    · cases h
  case h_19 =>
    split at h
    · rename_i hh
      cases h; exact rc_uReprD (.inl ⟨_, rfl⟩) hh.1 hh.2.1 hh.2.2.1 hh.2.2.2
    · cases h
  case h_20 =>
    split at h
    · rename_i hh
      cases h; exact rc_uReprD (.inr ⟨_, rfl⟩) hh.1 hh.2.1 hh.2.2.1 hh.2.2.2
    · cases h
  case h_21 =>
    split at h
    · cases h; exact rc_strI ‹_›
    · cases h
  case h_22 => cases h
end EV

namespace EV
open PySem PySem.Spec PyProof.Rows L2 DL
/-! ### the text, the reading of it, and what it does to data -/
mutual
inductive Ex where
  | int (i : Int)
  | bl (b : Bool)
  | str (s : Str)
  | non
  | var (i : Nat)
  | op (o : Op) (a b : Ex)
  | neg (a : Ex)
  | nt (a : Ex)
  | an (a b : Ex)
  | or (a b : Ex)
  | ch (o o' : Op) (a b c : Ex)
  | isN (a : Ex)
  | notN (a : Ex)
  | ife (t : Tx) (a b : Ex)
  | tup (as : Exs)
  | lst (as : Exs)
  | sl (a : Ex) (lo hi : Px)
  | cb (f : Bf) (as : Exs)
  | isa (a : Ex) (T : String)
  | call (f : List D → Option RetV) (as : Exs)
  | callS (f : List D → List D → Option (RetV × List D)) (i : Nat) (as : Exs)
  | lc (it : Ix) (j : Nat) (t : Tx) (e : Ex)
  | lrg (a : Ex)
  | trg (a : Ex)
  | pop (i : Nat) (a : Ex)
  | idxL (a b : Ex)
  | idxT (a b : Ex)
  | dget (i : Nat) (a : Ex)
  | din (a : Ex) (i : Nat)
  | dnin (a : Ex) (i : Nat)
  | dset (i : Nat) (a b : Ex)
inductive Exs where
  | nil
  | cons (a : Ex) (as : Exs)
inductive Tx where
  | te (a : Ex)
  | tb (a : Ex)
  | nt (t : Tx)
  | an (t u : Tx)
  | or (t u : Tx)
  | yes
  | lend (t : Tx)
inductive Px where
  | no
  | at (a : Ex)
inductive Ix where
  | rng1 (a : Ex)
  | rng2 (a b : Ex)
  | u (a : Ex)
  | en (a : Ex)
end
mutual
inductive Tg where
  | nm (i : Nat)
  | tup (n : Nat) (ts : Tgs)
inductive Tgs where
  | nil
  | cons (t : Tg) (ts : Tgs)
end
inductive St where
  | set (i : Nat) (e : Ex)
  | asg (e : Ex) (t : Tg)
  | seti (i : Nat) (a e : Ex)
  | app (i : Nat) (e : Ex)
  | newD (i : Nat)
  | dput (i : Nat) (a e : Ex)
  | drop (e : Ex)
  | ret (e : Ex)
  | retN
  | iff (t : Tx) (a b : St)
  | for (it : Ix) (t : Tg) (b : St)
  | wh (n : Nat) (t : Tx) (b : St)
  | brk
  | cont
  | nx
  | seq (a b : St)
  | fz (i : Nat) (s : St)
/-- a[lo:hi] of a tuple or a list -/
def rSlU (K : PySem.W.Frag) : V → Option Int → Option Int → Hp → VK → Prop := fun x lo hi H Q => rSlX K x lo hi H Q ∨ rSlL K x lo hi H Q
theorem sl_u {X : Cx} : SlR X (rSlU X.K) := SlR.or sl_tupX sl_list
mutual
def denE (K : PySem.W.Frag) : Ex → TE
  | .int i => tC (.int i)
  | .bl b => tC (.bl b)
  | .str s => tC (.str s)
  | .non => tC .non
  | .var i => tVar i
  | .op o a b => tOp (opK K o) (denE K a) (denE K b)
  | .neg a => tUn (rU fun i => .int (-i)) (denE K a)
  | .nt a => tNotV (denE K a)
  | .an a b => tAndV (denE K a) (denE K b)
  | .or a b => tOrV (denE K a) (denE K b)
  | .ch o o' a b c => tChain (opK K o) (opK K o') (denE K a) (denE K b) (denE K c)
  | .isN a => tIsN (denE K a)
  | .notN a => tNotN (denE K a)
  | .ife t a b => tIf (denT K t) (denE K a) (denE K b)
  | .tup as => tTupX (denA K as)
  | .lst as => tLst (denA K as)
  | .sl a lo hi => tSl (rSlU K) (denE K a) (denP K lo) (denP K hi)
  | .cb f as => tCB (bfK K f) (denA K as)
  | .isa a T => tCB (rIsaB K) (tCons (denE K a) (tCons (tC (.ty T)) tNil))
  | .call f as => tCall (spD (fun ds r => f ds = some r) K) [] E0 (denA K as)
  | .callS f i as => tCall (spS (fun st ds r st' => f st ds = some (r, st')) K) [] E0 (tCons (tVar i) (denA K as))
  | .lc it j t e => tLc (denI K it) (gName j) (denT K t) (denE K e) [j]
  | .lrg a => tLstRg (tRg1 (denE K a))
  | .trg a => tTupRgX (tRg1 (denE K a))
  | .pop i a => tBM K "list" rPopAt (tVar i) (tCons (denE K a) tNil)
  | .idxL a b => tBM K "list" (rIndexD K) (denE K a) (tCons (denE K b) tNil)
  | .idxT a b => tBMX K (rTIx K) (denE K a) (tCons (denE K b) tNil)
  | .dget i a => tDGet (tVar i) (denE K a)
  | .din a i => tDIn (denE K a) (tVar i)
  | .dnin a i => tDNotIn (denE K a) (tVar i)
  | .dset i a b => tDSetd (tVar i) (denE K a) (denE K b)
def denA (K : PySem.W.Frag) : Exs → TA
  | .nil => tNil
  | .cons a as => tCons (denE K a) (denA K as)
def denT (K : PySem.W.Frag) : Tx → TT
  | .te a => tTest (denE K a)
  | .tb a => tB (denE K a)
  | .nt t => tNot (denT K t)
  | .an t u => tAnd (denT K t) (denT K u)
  | .or t u => tOr (denT K t) (denT K u)
  | .yes => tYes
  | .lend t => denT K t
def denP (K : PySem.W.Frag) : Px → TO
  | .no => tNoPart
  | .at a => tPart (denE K a)
def denI (K : PySem.W.Frag) : Ix → TI
  | .rng1 a => iRng1 (tCons (denE K a) tNil)
  | .rng2 a b => iRng2 (tCons (denE K a) (tCons (denE K b) tNil))
  | .u a => uIter K (denE K a)
  | .en a => iEnT K (tCons (denE K a) tNil)
end
mutual
def denG (K : PySem.W.Frag) : Tg → TG
  | .nm i => gName i
  | .tup n ts => gTup K n (denGs K ts)
def denGs (K : PySem.W.Frag) : Tgs → TGs
  | .nil => gNil
  | .cons t ts => gCons (denG K t) (denGs K ts)
end
def denS (K : PySem.W.Frag) : St → TS
  | .set i e => tAsg (denE K e) (gName i)
  | .asg e t => tAsg (denE K e) (denG K t)
  | .seti i a e => tAsg (denE K e) (gSub (tVar i) (denE K a) rSetL)
  | .app i e => tDrop (tBM K "list" rAppend (tVar i) (tCons (denE K e) tNil))
  | .newD i => tAsg tDNewK (gName i)
  | .dput i a e => sDPut (tVar i) (denE K a) (denE K e)
  | .drop e => tDrop (denE K e)
  | .ret e => tRet (denE K e)
  | .retN => tRetN
  | .iff t a b => tIfS (denT K t) (denS K a) (denS K b)
  | .for it t b => tFor (denI K it) (denG K t) (denS K b)
  | .wh _ t b => tWhile (denT K t) (denS K b)
  | .brk => tBreak
  | .cont => tCont
  | .nx => tNext
  | .seq a b => tSeq (denS K a) (denS K b)
  | .fz _ s => denS K s
/-! ### the functions -/
/-- what an expression's value is: data, an own list, a new list, a new thing of one's own -/
inductive Vl where
  | d (x : D)
  | o (i : Nat)
  | n (ds : List D)
  | w (w : Ow)
def rzV : Rz → Vl
  | .d z => .d z
  | .n zs => .n zs
def rvV : RetV → Vl
  | .dat d => .d d
  | .new w => .w w
def toA : Vl → Option DL.Arg
  | .d x => some (.d x)
  | .o i => some (.o i)
  | .n ds => some (.d (.list ds))
  | .w (.lst ds) => some (.d (.list ds))
  | .w (.lls dss) => some (.d (.list (dss.map .list)))
  | .w (.dK _) => none
def toD : Vl → Option D
  | .d x => some x
  | .o _ => none
  | .n ds => some (.list ds)
  | .w (.lst ds) => some (.list ds)
  | .w (.lls dss) => some (.list (dss.map .list))
  | .w (.dK _) => none
def ownL (ρ : Rho) (i : Nat) : Option (List D) := match ρ[i]? with
  | some (.own (.lst ds)) => some ds
  | _ => none
def ownD (ρ : Rho) (i : Nat) : Option (List (Key × D)) := match ρ[i]? with
  | some (.own (.dK ds)) => some ds
  | _ => none
def varV (ρ : Rho) (i : Nat) : Option Vl := match ρ[i]? with
  | some (.dat d) => some (.d d)
  | some (.own (.lst _)) => some (.o i)
  | _ => none
def asI : D → Option Int
  | .int i => some i
  | _ => none
def asB : D → Option Bool
  | .bool i => some i
  | _ => none
def asRz : Rz → Option D
  | .d z => some z
  | .n _ => none
def lcGo (f : D → Rho → Option (Option D × Rho)) : List D → Rho → Option (List D × Rho)
  | [], ρ => some ([], ρ)
  | x :: xs, ρ => (f x ρ).bind fun p => (lcGo f xs p.2).bind fun q => some ((match p.1 with | some d => d :: q.1 | none => q.1), q.2)
def idxOf (d : D) : List D → Option Nat
  | [] => none
  | z :: ds => if PyData.eqv z d then some 0 else (idxOf d ds).map (· + 1)
def idxS (x : Str) : List Str → Option Nat
  | [] => none
  | z :: ds => if z = x then some 0 else (idxS x ds).map (· + 1)
def rgD (a : Int) (n : Nat) : List D := (List.range n).map fun i => .int (a + (i : Nat))
def enD (ds : List D) : List D := (List.range ds.length).map (pairD ds)
def sl1 : D → Option Int → Option Int → Option Rz
  | .tuple ds, lo, hi => some (.d (.tuple (cutD ds lo hi)))
  | .list ds, lo, hi => some (.n (cutD ds lo hi))
  | _, _, _ => none
mutual
def evE (ps : List Nat) : Ex → Rho → Option (Vl × Rho)
  | .int i, ρ => some (.d (.int i), ρ)
  | .bl b, ρ => some (.d (.bool b), ρ)
  | .str s, ρ => some (.d (.str s), ρ)
  | .non, ρ => some (.d .none, ρ)
  | .var i, ρ => (varV ρ i).map fun v => (v, ρ)
  | .op o a b, ρ => (evE ps a ρ).bind fun p => (toA p.1).bind fun A => (evE ps b p.2).bind fun q => (toA q.1).bind fun B =>
      (A.den q.2).bind fun d => (B.den q.2).bind fun e => (op2 o d e).map fun z => (rzV z, q.2)
  | .neg a, ρ => (evE ps a ρ).bind fun p => (toA p.1).bind fun A => (A.den p.2).bind fun d => (asI d).map fun i => (.d (.int (-i)), p.2)
  | .nt a, ρ => (evE ps a ρ).bind fun p => (toD p.1).bind fun d => (asB d).map fun b => (.d (.bool (!b)), p.2)
  | .an a b, ρ => (evE ps a ρ).bind fun p => (toD p.1).bind fun d => (asB d).bind fun x =>
      if x then (evE ps b p.2).bind fun q => (toD q.1).bind fun e => (asB e).map fun y => (.d (.bool y), q.2) else some (.d (.bool false), p.2)
  | .or a b, ρ => (evE ps a ρ).bind fun p => (toD p.1).bind fun d => (asB d).bind fun x =>
      if x then some (.d (.bool true), p.2) else (evE ps b p.2).bind fun q => (toD q.1).bind fun e => (asB e).map fun y => (.d (.bool y), q.2)
  | .ch o o' a b c, ρ => (evE ps a ρ).bind fun p => (toA p.1).bind fun A => (evE ps b p.2).bind fun q => (toA q.1).bind fun B =>
      (A.den q.2).bind fun d => (B.den q.2).bind fun e => (op2 o d e).bind fun z => (asRz z).bind fun z => (asB z).bind fun x =>
      if x then (evE ps c q.2).bind fun r => (toA r.1).bind fun C => (B.den r.2).bind fun e => (C.den r.2).bind fun f => (op2 o' e f).bind fun z => (asRz z).bind fun z => (asB z).map fun y => (.d (.bool y), r.2)
      else some (.d (.bool false), q.2)
  | .isN a, ρ => (evE ps a ρ).bind fun p => (toD p.1).map fun d => (.d (.bool (!notNone d)), p.2)
  | .notN a, ρ => (evE ps a ρ).bind fun p => (toD p.1).map fun d => (.d (.bool (notNone d)), p.2)
  | .ife t a b, ρ => (evT ps t ρ).bind fun p => if p.1 then evE ps a p.2 else evE ps b p.2
  | .tup as, ρ => (evA ps as ρ).bind fun p => (datas p.1).bind fun ds => if ds.length ≤ sizeLine then some (.d (.tuple ds), p.2) else none
  | .lst as, ρ => (evA ps as ρ).bind fun p => (datas p.1).bind fun ds => if ds.length ≤ sizeLine then some (.n ds, p.2) else none
  | .sl a lo hi, ρ => (evE ps a ρ).bind fun p => (toA p.1).bind fun A => (evP ps lo p.2).bind fun l => (evP ps hi l.2).bind fun h =>
      (A.den h.2).bind fun d => (sl1 d l.1 h.1).map fun z => (rzV z, h.2)
  | .cb f as, ρ => (evA ps as ρ).bind fun p => (dens p.2 p.1).bind fun ds => (cb1 f ds).map fun z => (rzV z, p.2)
  | .isa a T, ρ => (evE ps a ρ).bind fun p => (toA p.1).bind fun A => (A.den p.2).bind fun d => (kitB (tyN d) T).map fun b => (.d (.bool b), p.2)
  | .call f as, ρ => (evA ps as ρ).bind fun p => (datas p.1).bind fun ds => (f ds).map fun r => (rvV r, p.2)
  | .callS f i as, ρ => (ownL ρ i).bind fun _ => (evA ps as ρ).bind fun p => (datas p.1).bind fun ds => (ownL p.2 i).bind fun st => (f st ds).map fun r => (rvV r.1, p.2.set i (.own (.lst r.2)))
  | .lc it j t e, ρ => (evI ps it ρ).bind fun p => if p.1.length < sizeLine ∧ j ∉ ps then
      (lcGo (fun x ρ' => if j < ρ'.length then (evT ps t (ρ'.set j (.dat x))).bind fun q => if q.1 then (evE ps e q.2).bind fun r => (toD r.1).map fun d => (some d, r.2.set j .no) else some (none, q.2.set j .no) else none) p.1 (p.2.set j .no)).map fun q => (.n q.1, q.2)
      else none
  | .lrg a, ρ => (evE ps a ρ).bind fun p => (toD p.1).bind fun d => (asI d).bind fun n => if 0 ≤ n ∧ n ≤ 1000000 then some (.n (rgD 0 n.toNat), p.2) else none
  | .trg a, ρ => (evE ps a ρ).bind fun p => (toD p.1).bind fun d => (asI d).bind fun n => if 0 ≤ n ∧ n ≤ 1000000 then some (.d (.tuple (rgD 0 n.toNat)), p.2) else none
  | .pop i a, ρ => (ownL ρ i).bind fun _ => (evE ps a ρ).bind fun p => (toD p.1).bind fun d => (asI d).bind fun n => (ownL p.2 i).bind fun ds =>
      if -(2 ^ 63) ≤ n ∧ n < 2 ^ 63 then (ixN ds.length n).bind fun j => (ds[j]?).map fun d => (.d d, p.2.set i (.own (.lst (ds.eraseIdx j)))) else none
  | .idxL a b, ρ => (evE ps a ρ).bind fun p => (toD p.1).bind fun d => (evE ps b p.2).bind fun q => (toA q.1).bind fun B => (B.den q.2).bind fun e =>
      match d with
      | .list ds => if SeqAt.shaped (.list ds) = true ∧ SeqAt.shaped e = true then (idxOf e ds).map fun j => (.d (.int (j : Nat)), q.2) else none
      | _ => none
  | .idxT a b, ρ => (evE ps a ρ).bind fun p => (toD p.1).bind fun d => (evE ps b p.2).bind fun q => (toA q.1).bind fun B => (B.den q.2).bind fun e =>
      match d, e with
      | .tuple ds, .str x => (strsOf ds).bind fun xs => (idxS x xs).map fun j => (.d (.int (j : Nat)), q.2)
      | _, _ => none
  | .dget i a, ρ => (ownD ρ i).bind fun _ => (evE ps a ρ).bind fun p => (toD p.1).bind fun d => (keyD d).bind fun k => (ownD p.2 i).bind fun kvs => (valD kvs k).map fun d => (.d d, p.2)
  | .din a i, ρ => (evE ps a ρ).bind fun p => (toD p.1).bind fun d => (keyD d).bind fun k => (ownD p.2 i).map fun kvs => (.d (.bool (valD kvs k).isSome), p.2)
  | .dnin a i, ρ => (evE ps a ρ).bind fun p => (toD p.1).bind fun d => (keyD d).bind fun k => (ownD p.2 i).map fun kvs => (.d (.bool (!(valD kvs k).isSome)), p.2)
  | .dset i a b, ρ => (ownD ρ i).bind fun _ => (evE ps a ρ).bind fun p => (toD p.1).bind fun d => (keyD d).bind fun k => (evE ps b p.2).bind fun q => (toD q.1).bind fun e => (ownD q.2 i).bind fun kvs =>
      if kvs.length < sizeLine then some (.d ((valD kvs k).getD e), q.2.set i (.own (.dK (if (valD kvs k).isSome then kvs else putD kvs k e)))) else none
def evA (ps : List Nat) : Exs → Rho → Option (List DL.Arg × Rho)
  | .nil, ρ => some ([], ρ)
  | .cons a as, ρ => (evE ps a ρ).bind fun p => (toA p.1).bind fun A => (evA ps as p.2).map fun q => (A :: q.1, q.2)
def evT (ps : List Nat) : Tx → Rho → Option (Bool × Rho)
  | .te a, ρ => (evE ps a ρ).bind fun p => (toD p.1).bind fun d => (asB d).map fun b => (b, p.2)
  | .tb a, ρ => (evE ps a ρ).bind fun p => (toD p.1).bind fun d => (asB d).map fun b => (b, p.2)
  | .nt t, ρ => (evT ps t ρ).map fun p => (!p.1, p.2)
  | .an t u, ρ => (evT ps t ρ).bind fun p => if p.1 then evT ps u p.2 else some (false, p.2)
  | .or t u, ρ => (evT ps t ρ).bind fun p => if p.1 then some (true, p.2) else evT ps u p.2
  | .yes, ρ => some (true, ρ)
  | .lend t, ρ => (evT ps t (ρ.map lentE)).map fun p => (p.1, ρ)
def evP (ps : List Nat) : Px → Rho → Option (Option Int × Rho)
  | .no, ρ => some (none, ρ)
  | .at a, ρ => (evE ps a ρ).bind fun p => (toD p.1).bind fun d => (asI d).map fun i => (some i, p.2)
def evI (ps : List Nat) : Ix → Rho → Option (List D × Rho)
  | .rng1 a, ρ => (evE ps a ρ).bind fun p => (toD p.1).bind fun d => (asI d).bind fun n => if -(2 ^ 62) ≤ n ∧ n < 2 ^ 62 then some (rgD 0 n.toNat, p.2) else none
  | .rng2 a b, ρ => (evE ps a ρ).bind fun p => (toD p.1).bind fun d => (asI d).bind fun m => (evE ps b p.2).bind fun q => (toD q.1).bind fun e => (asI e).bind fun n =>
      if (-(2 ^ 62) ≤ m ∧ m < 2 ^ 62) ∧ -(2 ^ 62) ≤ n ∧ n < 2 ^ 62 then some (rgD m (n - m).toNat, q.2) else none
  | .u a, ρ => (evE ps a ρ).bind fun p => (toD p.1).bind fun d => match d with
      | .list ds => some (ds, p.2)
      | .tuple ds => some (ds, p.2)
      | _ => none
  | .en a, ρ => (evE ps a ρ).bind fun p => (toD p.1).bind fun d => match d with
      | .tuple ds => some (enD ds, p.2)
      | _ => none
end
mutual
def setG (ps : List Nat) : Tg → D → Rho → Option Rho
  | .nm i, d, ρ => if i < ρ.length ∧ i ∉ ps then some (ρ.set i (.dat d)) else none
  | .tup n ts, .tuple ds, ρ => if ds.length = n then setGs ps ts ds ρ else none
  | .tup _ _, _, _ => none
def setGs (ps : List Nat) : Tgs → List D → Rho → Option Rho
  | .nil, [], ρ => some ρ
  | .cons t ts, d :: ds, ρ => (setG ps t d ρ).bind fun ρ1 => setGs ps ts ds ρ1
  | _, _, _ => none
end
def forGo (f : D → Rho → Option Out) : List D → Rho → Option Out
  | [], ρ => some (.nx ρ)
  | x :: xs, ρ => (f x ρ).bind fun o => match o with
    | .nx ρ1 => forGo f xs ρ1
    | .ct ρ1 => forGo f xs ρ1
    | .bk ρ1 => some (.nx ρ1)
    | .rt ρ1 r => some (.rt ρ1 r)
    | .ex C ρ1 => some (.ex C ρ1)
def whGo (t : Rho → Option (Bool × Rho)) (f : Rho → Option Out) : Nat → Rho → Option Out
  | 0, _ => none
  | n + 1, ρ => (t ρ).bind fun p => if p.1 then (f p.2).bind fun o => match o with
    | .nx ρ1 => whGo t f n ρ1
    | .ct ρ1 => whGo t f n ρ1
    | .bk ρ1 => some (.nx ρ1)
    | .rt ρ1 r => some (.rt ρ1 r)
    | .ex C ρ1 => some (.ex C ρ1)
    else some (.nx p.2)
def setV (ps : List Nat) (ρ : Rho) (i : Nat) : Vl → Option Out
  | .d x => if i < ρ.length ∧ i ∉ ps then some (.nx (ρ.set i (.dat x))) else none
  | .n ds => if i < ρ.length ∧ i ∉ ps then some (.nx (ρ.set i (.own (.lst ds)))) else none
  | .w w => if i < ρ.length ∧ i ∉ ps then some (.nx (ρ.set i (.own w))) else none
  | .o _ => none
def retO (ps : List Nat) (ρ : Rho) : Vl → Option Out
  | .d x => some (.rt ρ (.dat x))
  | .n ds => some (.rt ρ (.new (.lst ds)))
  | .w w => some (.rt ρ (.new w))
  | .o i => (ownL ρ i).bind fun ds => if i ∉ ps then some (.rt (ρ.set i .no) (.new (.lst ds))) else none
def exS (ps : List Nat) : St → Rho → Option Out
  | .set i e, ρ => (evE ps e ρ).bind fun p => setV ps p.2 i p.1
  | .asg e t, ρ => (evE ps e ρ).bind fun p => (toD p.1).bind fun d => (setG ps t d p.2).map .nx
  | .seti i a e, ρ => (evE ps e ρ).bind fun p => (toD p.1).bind fun d => (ownL p.2 i).bind fun _ => (evE ps a p.2).bind fun q => (toD q.1).bind fun x => (asI x).bind fun n => (ownL q.2 i).bind fun ds =>
      (ixN ds.length n).map fun j => .nx (q.2.set i (.own (.lst (ds.set j d))))
  | .app i e, ρ => (ownL ρ i).bind fun _ => (evE ps e ρ).bind fun p => (toD p.1).bind fun d => (ownL p.2 i).bind fun ds => if ds.length < sizeLine then some (.nx (p.2.set i (.own (.lst (ds ++ [d]))))) else none
  | .newD i, ρ => if i < ρ.length ∧ i ∉ ps then some (.nx (ρ.set i (.own (.dK [])))) else none
  | .dput i a e, ρ => (evE ps e ρ).bind fun p => (toD p.1).bind fun d => (ownD p.2 i).bind fun _ => (evE ps a p.2).bind fun q => (toD q.1).bind fun x => (keyD x).bind fun k => (ownD q.2 i).bind fun kvs =>
      if kvs.length < sizeLine then some (.nx (q.2.set i (.own (.dK (putD kvs k d))))) else none
  | .drop e, ρ => (evE ps e ρ).bind fun p => (toD p.1).map fun _ => .nx p.2
  | .ret e, ρ => (evE ps e ρ).bind fun p => retO ps p.2 p.1
  | .retN, ρ => some (.rt ρ (.dat .none))
  | .iff t a b, ρ => (evT ps t ρ).bind fun p => if p.1 then exS ps a p.2 else exS ps b p.2
  | .for it t b, ρ => (evI ps it ρ).bind fun p => forGo (fun x ρ' => (setG ps t x ρ').bind fun ρ1 => exS ps b ρ1) p.1 p.2
  | .wh n t b, ρ => whGo (fun ρ' => evT ps t ρ') (fun ρ' => exS ps b ρ') n ρ
  | .brk, ρ => some (.bk ρ)
  | .cont, ρ => some (.ct ρ)
  | .nx, ρ => some (.nx ρ)
  | .seq a b, ρ => (exS ps a ρ).bind fun o => match o with
      | .nx ρ1 => exS ps b ρ1
      | o => some o
  | .fz i s, ρ => (match ρ[i]? with
      | some (.own (.lst ds)) => if i ∈ ps then none else exS ps s (ρ.set i (.dat (.list ds)))
      | _ => exS ps s ρ)
end EV

namespace EV
open PySem PySem.Spec PyProof.Rows L2 DL
variable {K : PySem.W.Frag} {g : Gm}
def EvV (g : Gm) (te : TE) (ρ : Rho) : Vl → Rho → Prop
  | .d x, ρ' => EvD g te ρ x ρ'
  | .o i, ρ' => EvO g te ρ (.o i) ρ'
  | .n ds, ρ' => EvN g te ρ ds ρ'
  | .w w, ρ' => EvW g te ρ w ρ'
theorem toD_ok {te : TE} {ρ ρ' : Rho} {v : Vl} {d : D} (h : EvV g te ρ v ρ') (e : toD v = some d) : EvD g te ρ d ρ' := by
  cases v with
  | d x => cases e; exact h
  | o i => cases e
  | n ds => cases e; exact ed_ofN h
  | w w =>
    cases w with
    | lst ds => cases e; exact ed_ofW h
    | lls dss => cases e; exact ed_ofWl h
    | dK kvs => cases e
theorem toA_ok {te : TE} {ρ ρ' : Rho} {v : Vl} {A : DL.Arg} (h : EvV g te ρ v ρ') (e : toA v = some A) : EvO g te ρ A ρ' := by
  cases v with
  | d x => cases e; exact eo_of h
  | o i => cases e; exact h
  | n ds => cases e; exact eo_of (ed_ofN h)
  | w w =>
    cases w with
    | lst ds => cases e; exact eo_of (ed_ofW h)
    | lls dss => cases e; exact eo_of (ed_ofWl h)
    | dK kvs => cases e
theorem asI_eq {d : D} {i : Int} (h : asI d = some i) : d = .int i := by
  cases d <;> first | (cases h; rfl) | cases h
theorem asB_eq {d : D} {i : Bool} (h : asB d = some i) : d = .bool i := by
  cases d <;> first | (cases h; rfl) | cases h
theorem keyD_eq {d : D} {k : Key} (h : keyD d = some k) : d = keyOf k := by
  cases d <;> first | (cases h; rfl) | cases h
theorem asRz_eq {z : Rz} {d : D} (h : asRz z = some d) : z = .d d := by
  cases z <;> first | (cases h; rfl) | cases h
theorem ownL_eq {ρ : Rho} {i : Nat} {ds : List D} (h : ownL ρ i = some ds) : ρ[i]? = some (.own (.lst ds)) := by
  unfold ownL at h
  split at h
  · rename_i q; cases h; exact q
  · cases h
theorem ownD_eq {ρ : Rho} {i : Nat} {ds : List (Key × D)} (h : ownD ρ i = some ds) : ρ[i]? = some (.own (.dK ds)) := by
  unfold ownD at h
  split at h
  · rename_i q; cases h; exact q
  · cases h
section
variable {ta tb tc te : TE} {ρ ρ1 ρ2 ρ3 : Rho} {A B C : DL.Arg} {a b x : Bool}
theorem evV_if {t : TT} {v : Vl} (h : EvT g t ρ b ρ1) (h1 : b = true → EvV g ta ρ1 v ρ2) (h2 : b = false → EvV g tb ρ1 v ρ2) : EvV g (tIf t ta tb) ρ v ρ2 := by
  cases v with
  | d z =>
    refine fun c F H σ k s Q q => h c F H σ k s _ fun F1 H1 s1 e1 => ?_
    cases b with
    | true => exact h1 rfl c F1 H1 σ k s1 Q fun v F' H' s' e y => q v F' H' s' (e1.trans e) y
    | false => exact h2 rfl c F1 H1 σ k s1 Q fun v F' H' s' e y => q v F' H' s' (e1.trans e) y
  | o z =>
    refine fun c F H σ k s Q q => h c F H σ k s _ fun F1 H1 s1 e1 => ?_
    cases b with
    | true => exact h1 rfl c F1 H1 σ k s1 Q fun v F' H' s' e y => q v F' H' s' (e1.trans e) y
    | false => exact h2 rfl c F1 H1 σ k s1 Q fun v F' H' s' e y => q v F' H' s' (e1.trans e) y
  | n z =>
    refine fun c F H σ k s Q q => h c F H σ k s _ fun F1 H1 s1 e1 => ?_
    cases b with
    | true => exact h1 rfl c F1 H1 σ k s1 Q fun v w F' H' s' e y => q v w F' H' s' (e1.trans e) y
    | false => exact h2 rfl c F1 H1 σ k s1 Q fun v w F' H' s' e y => q v w F' H' s' (e1.trans e) y
  | w z =>
    refine fun c F H σ k s Q q => h c F H σ k s _ fun F1 H1 s1 e1 => ?_
    cases b with
    | true => exact h1 rfl c F1 H1 σ k s1 Q fun v F' H' s' e => q v F' H' s' (e1.trans e)
    | false => exact h2 rfl c F1 H1 σ k s1 Q fun v F' H' s' e => q v F' H' s' (e1.trans e)
theorem ed_andT (h1 : EvD g ta ρ (.bool true) ρ1) (h2 : EvD g tb ρ1 (.bool b) ρ2) : EvD g (tAndV ta tb) ρ (.bool b) ρ2 := fun c F H σ k s Q q => h1 c F H σ k s _ fun v F1 H1 s1 e1 y => by
  cases y
  refine ⟨true, rfl, ?_⟩
  rw [if_pos rfl]
  exact h2 c F1 H1 σ k s1 Q fun v F' H' s' e y => q v F' H' s' (e1.trans e) y
theorem ed_andF (h1 : EvD g ta ρ (.bool false) ρ1) : EvD g (tAndV ta tb) ρ (.bool false) ρ1 := fun c F H σ k s Q q => h1 c F H σ k s _ fun v F1 H1 s1 e1 y => by
  cases y
  refine ⟨false, rfl, ?_⟩
  rw [if_neg (by decide)]
  exact q _ F1 H1 s1 e1 (.bl _)
theorem ed_orF (h1 : EvD g ta ρ (.bool false) ρ1) (h2 : EvD g tb ρ1 (.bool b) ρ2) : EvD g (tOrV ta tb) ρ (.bool b) ρ2 := fun c F H σ k s Q q => h1 c F H σ k s _ fun v F1 H1 s1 e1 y => by
  cases y
  refine ⟨false, rfl, ?_⟩
  rw [if_neg (by decide)]
  exact h2 c F1 H1 σ k s1 Q fun v F' H' s' e y => q v F' H' s' (e1.trans e) y
theorem ed_orT (h1 : EvD g ta ρ (.bool true) ρ1) : EvD g (tOrV ta tb) ρ (.bool true) ρ1 := fun c F H σ k s Q q => h1 c F H σ k s _ fun v F1 H1 s1 e1 y => by
  cases y
  refine ⟨true, rfl, ?_⟩
  rw [if_pos rfl]
  exact q _ F1 H1 s1 e1 (.bl _)
theorem et_andT {t u : TT} (h1 : EvT g t ρ true ρ1) (h2 : EvT g u ρ1 b ρ2) : EvT g (tAnd t u) ρ b ρ2 := fun c F H σ k s Q q => h1 c F H σ k s _ fun F1 H1 s1 e1 => by
  rw [if_pos rfl]
  exact h2 c F1 H1 σ k s1 Q fun F' H' s' e => q F' H' s' (e1.trans e)
theorem et_andF {t u : TT} (h1 : EvT g t ρ false ρ1) : EvT g (tAnd t u) ρ false ρ1 := fun c F H σ k s Q q => h1 c F H σ k s _ fun F1 H1 s1 e1 => by
  rw [if_neg (by decide)]
  exact q F1 H1 s1 e1
theorem et_orF {t u : TT} (h1 : EvT g t ρ false ρ1) (h2 : EvT g u ρ1 b ρ2) : EvT g (tOr t u) ρ b ρ2 := fun c F H σ k s Q q => h1 c F H σ k s _ fun F1 H1 s1 e1 => by
  rw [if_neg (by decide)]
  exact h2 c F1 H1 σ k s1 Q fun F' H' s' e => q F' H' s' (e1.trans e)
theorem et_orT {t u : TT} (h1 : EvT g t ρ true ρ1) : EvT g (tOr t u) ρ true ρ1 := fun c F H σ k s Q q => h1 c F H σ k s _ fun F1 H1 s1 e1 => by
  rw [if_pos rfl]
  exact q F1 H1 s1 e1
theorem et_yes' : EvT g tYes ρ true ρ := fun c F H σ k s Q q => q F H s (Same.refl _)
theorem ed_chT {r r' : R2} {d e e2 f z : D} (ha : EvO g ta ρ A ρ1) (hb : EvO g tb ρ1 B ρ2) (hr : R2D g.K r d e (.bool true)) (hc : EvO g tc ρ2 C ρ3) (hr' : R2D g.K r' e2 f z)
    (dA : A.den ρ2 = some d) (dB : B.den ρ2 = some e) (dB2 : B.den ρ3 = some e2) (dC : C.den ρ3 = some f) : EvD g (tChain r r' ta tb tc) ρ z ρ3 := fun c F H σ k s Q q => by
  refine ha c F H σ k s _ fun x F1 H1 s1 e1 h1 => hb c F1 H1 σ k s1 _ fun y F2 H2 s2 q2 h2 => ?_
  have kk : c.K = g.K := k.1
  have o1 := Arg.opd s2 (h1.up q2) dA
  have o2 := Arg.opd s2 h2 dB
  rw [kk] at o1 o2
  refine hr F2 H2 x y _ s2.fh o1 o2 fun v F3 H3 rs => ?_
  rw [← kk] at rs
  obtain ⟨s3, e3, q3⟩ := rs.sim s2
  cases q3
  refine ⟨true, rfl, ?_⟩
  rw [if_pos rfl]
  refine hc c F3 H3 σ k s3 _ fun w F4 H4 s4 e4 h4 => ?_
  have o2' := Arg.opd s4 (h2.up (e3.trans e4)) dB2
  have o3 := Arg.opd s4 h4 dC
  rw [kk] at o2' o3
  refine hr' F4 H4 y w Q s4.fh o2' o3 fun v F5 H5 rs => ?_
  rw [← kk] at rs
  obtain ⟨s5, e5, q5⟩ := rs.sim s4
  exact q v F5 H5 s5 ((((e1.trans q2).trans e3).trans e4).trans e5) q5
theorem ed_chF {r r' : R2} {d e : D} (ha : EvO g ta ρ A ρ1) (hb : EvO g tb ρ1 B ρ2) (hr : R2D g.K r d e (.bool false)) (dA : A.den ρ2 = some d) (dB : B.den ρ2 = some e) : EvD g (tChain r r' ta tb tc) ρ (.bool false) ρ2 := fun c F H σ k s Q q => by
  refine ha c F H σ k s _ fun x F1 H1 s1 e1 h1 => hb c F1 H1 σ k s1 _ fun y F2 H2 s2 q2 h2 => ?_
  have kk : c.K = g.K := k.1
  have o1 := Arg.opd s2 (h1.up q2) dA
  have o2 := Arg.opd s2 h2 dB
  rw [kk] at o1 o2
  refine hr F2 H2 x y _ s2.fh o1 o2 fun v F3 H3 rs => ?_
  rw [← kk] at rs
  obtain ⟨s3, e3, q3⟩ := rs.sim s2
  cases q3
  refine ⟨false, rfl, ?_⟩
  rw [if_neg (by decide)]
  exact q _ F3 H3 s3 ((e1.trans q2).trans e3) (.bl _)
/-- the environment told less -/
theorem evI_wk {wi : TI} {n : Nat} {xs : Nat → D} {j : Nat} (h : EvI g wi ρ n xs ρ1) : EvI g wi ρ n xs (ρ1.set j .no) := fun c F H σ k s R q => h c F H σ k s R fun J F' H' s' e w => q J F' H' (s'.weak (by simp) fun i => by
  by_cases z : i = j
  · subst z
    right
    intro e q
    by_cases hl : i < ρ1.length
    · rw [List.getElem?_set_self hl] at q; exact (Option.some.inj q).symm
    · rw [List.getElem?_eq_none (by simp; omega)] at q; cases q
  · left
    rw [List.getElem?_set_ne (Ne.symm z)]) e w
theorem evI_congr {wi : TI} {n : Nat} {xs ys : Nat → D} (h : EvI g wi ρ n xs ρ1) (e : ∀ i, i < n → xs i = ys i) : EvI g wi ρ n ys ρ1 := fun c F H σ k s R q => h c F H σ k s R fun J F' H' s' q2 w => q J F' H' s' q2 fun F2 H2 a1 a2 => by
  obtain ⟨w1, w2, w3⟩ := w F2 H2 a1 a2
  refine ⟨w1, w2, fun i x H' hi y => ?_⟩
  obtain ⟨F3, r⟩ := w3 i x H' hi y
  exact ⟨F3, e i hi ▸ r⟩
theorem back_set {ρ4 : Rho} {j : Nat} (hj : j < ρ4.length ∨ True) : Back [j] ρ4 (ρ4.set j .no) := by
  refine ⟨by simp, fun i m e q => ?_, fun i m => ?_⟩
  · rw [List.mem_singleton.mp m] at q
    by_cases hl : j < ρ4.length
    · rw [List.getElem?_set_self hl] at q; exact (Option.some.inj q).symm
    · rw [List.getElem?_eq_none (by simp; omega)] at q; cases q
  · rw [List.getElem?_set_ne (fun z => m (by simp [z]))]
theorem set_no {ρ4 : Rho} {j : Nat} : ∀ e : Ent, (ρ4.set j .no)[j]? = some e → e = .no := fun e q => by
  by_cases hl : j < ρ4.length
  · rw [List.getElem?_set_self hl] at q; exact (Option.some.inj q).symm
  · rw [List.getElem?_eq_none (by simp; omega)] at q; cases q
/-- a comprehension's turns, numbered -/
theorem lcGo_turns {f : D → Rho → Option (Option D × Rho)} : ∀ {l : List D} {ρ ρ' : Rho} {ds : List D}, lcGo f l ρ = some (ds, ρ') →
    ∃ (E : Nat → Rho) (bs : Nat → Bool) (dd : Nat → D), E 0 = ρ ∧ E l.length = ρ' ∧ ds = ((List.range l.length).filter bs).map dd ∧
      ∀ i, i < l.length → f (nthD l i) (E i) = some (if bs i then some (dd i) else none, E (i + 1))
  | [], ρ, ρ', ds, h => by
    cases h
    exact ⟨fun _ => ρ, fun _ => true, fun _ => .none, rfl, rfl, rfl, fun i hi => absurd hi (by simp)⟩
  | x :: xs, ρ, ρ', ds, h => by
    obtain ⟨⟨od, ρ1⟩, h1, h2⟩ := Option.bind_eq_some_iff.mp (show (f x ρ).bind _ = _ from h)
    obtain ⟨⟨es, ρ2⟩, h3, h4⟩ := Option.bind_eq_some_iff.mp h2
    obtain ⟨E, bs, dd, e0, en, ed, st⟩ := lcGo_turns h3
    refine ⟨fun i => match i with | 0 => ρ | i + 1 => E i, fun i => match i with | 0 => od.isSome | i + 1 => bs i, fun i => match i with | 0 => od.getD .none | i + 1 => dd i, rfl, ?_, ?_, ?_⟩
    · have h4 := Option.some.inj h4
      rw [show (x :: xs).length = xs.length + 1 from rfl]
      show E xs.length = ρ'
      rw [en]
      exact (congrArg Prod.snd h4)
    · have h4 := Option.some.inj h4
      have h5 := congrArg Prod.fst h4
      simp only at h5
      rw [← h5, List.length_cons, List.range_succ_eq_map, List.filter_cons]
      cases od with
      | none =>
        simp only [Option.isSome_none, Bool.false_eq_true, if_false]
        rw [List.filter_map, List.map_map, ed]
        rfl
      | some d =>
        simp only [Option.isSome_some, if_true, List.map_cons, Option.getD_some]
        rw [List.filter_map, List.map_map, ed]
        rfl
    · intro i hi
      cases i with
      | zero =>
        show f x ρ = some (if od.isSome = true then some (od.getD .none) else none, E 0)
        rw [h1, e0]
        cases od <;> rfl
      | succ i =>
        have := st i (by simpa using hi)
        exact this
end
theorem idxOf_ok {d : D} : ∀ {ds : List D} {j : Nat}, idxOf d ds = some j → ∃ z, ds[j]? = some z ∧ PyData.eqv z d = true ∧ ∀ (m : Nat) (z' : D), m < j → ds[m]? = some z' → PyData.eqv z' d = false
  | [], _, h => by cases h
  | z :: ds, j, h => by
    unfold idxOf at h
    split at h
    · rename_i hz
      cases h
      exact ⟨z, rfl, hz, fun m z' hm => by omega⟩
    · rename_i hz
      obtain ⟨i, h1, rfl⟩ := Option.map_eq_some_iff.mp h
      obtain ⟨y, h2, h3, h4⟩ := idxOf_ok h1
      refine ⟨y, h2, h3, fun m z' hm q => ?_⟩
      cases m with
      | zero => cases (Option.some.inj q); simpa using hz
      | succ m => exact h4 m z' (by omega) q
theorem idxS_ok {x : Str} : ∀ {ds : List Str} {j : Nat}, idxS x ds = some j → ds[j]? = some x ∧ ∀ m, m < j → ds[m]? ≠ some x
  | [], _, h => by cases h
  | z :: ds, j, h => by
    unfold idxS at h
    split at h
    · rename_i hz
      cases h
      exact ⟨by rw [hz]; rfl, fun m hm => by omega⟩
    · rename_i hz
      obtain ⟨i, h1, rfl⟩ := Option.map_eq_some_iff.mp h
      obtain ⟨h2, h3⟩ := idxS_ok h1
      refine ⟨h2, fun m hm q => ?_⟩
      cases m with
      | zero => exact hz (Option.some.inj q)
      | succ m => exact h3 m (by omega) q
theorem rgD_len {a : Int} {n : Nat} : (rgD a n).length = n := by simp [rgD]
theorem rgD_at {a : Int} {n i : Nat} (h : i < n) : nthD (rgD a n) i = .int (a + (i : Nat)) := by
  unfold nthD rgD
  rw [List.getD_eq_getElem?_getD, List.getElem?_map, List.getElem?_range h]
  rfl
theorem enD_len {ds : List D} : (enD ds).length = ds.length := by simp [enD]
theorem enD_at {ds : List D} {i : Nat} (h : i < ds.length) : nthD (enD ds) i = pairD ds i := by
  unfold nthD enD
  rw [List.getD_eq_getElem?_getD, List.getElem?_map, List.getElem?_range h]
  rfl
theorem rg_map {n : Int} : ((List.range (n - 0).toNat).map fun i => (0 : Int) + (i : Nat)).map PyData.int = rgD 0 n.toNat := by
  unfold rgD
  rw [List.map_map, Int.sub_zero]
  rfl
end EV

namespace EV
open PySem PySem.Spec PyProof.Rows L2 DL
variable {K : PySem.W.Frag} {g : Gm}
theorem rzV_ok {r : R2} {ta tb : TE} {ρ ρ1 ρ2 : Rho} {A B : DL.Arg} {d e : D} {z : Rz} (ha : EvO g ta ρ A ρ1) (hb : EvO g tb ρ1 B ρ2) (dA : A.den ρ2 = some d) (dB : B.den ρ2 = some e) (h : RzOk g.K r d e z) : EvV g (tOp r ta tb) ρ (rzV z) ρ2 := by
  cases z with
  | d z => exact ed_op ha hb h dA dB
  | n z => exact en_op ha hb h dA dB
theorem bnd {α β : Type} {o : Option α} {f : α → Option β} {b : β} (h : o.bind f = some b) : ∃ a, o = some a ∧ f a = some b := Option.bind_eq_some_iff.mp h
theorem mpd {α β : Type} {o : Option α} {f : α → β} {b : β} (h : o.map f = some b) : ∃ a, o = some a ∧ f a = b := Option.map_eq_some_iff.mp h
mutual
theorem evE_ok : ∀ (e : Ex) (ρ : Rho) (v : Vl) (ρ' : Rho), evE g.ps e ρ = some (v, ρ') → EvV g (denE g.K e) ρ v ρ'
  | .int i, ρ, v, ρ', h => by cases h; exact ed_int
  | .bl i, ρ, v, ρ', h => by cases h; exact ed_bl
  | .str i, ρ, v, ρ', h => by cases h; exact ed_str
  | .non, ρ, v, ρ', h => by cases h; exact ed_non
  | .var i, ρ, v, ρ', h => by
    obtain ⟨w, h1, h2⟩ := mpd (show (varV ρ i).map (fun v => (v, ρ)) = some (v, ρ') from h)
    cases h2
    unfold varV at h1
    split at h1
    · rename_i q; cases h1; exact ed_var q
    · rename_i q; cases h1; exact eo_own q
    · cases h1
  | .op o a b, ρ, v, ρ', h => by
    unfold evE at h
    replace h := bnd h; obtain ⟨⟨va, ρ1⟩, h1, h⟩ := h
    replace h := bnd h; obtain ⟨A, hA, h⟩ := h
    replace h := bnd h; obtain ⟨⟨vb, ρ2⟩, h2, h⟩ := h
    replace h := bnd h; obtain ⟨B, hB, h⟩ := h
    replace h := bnd h; obtain ⟨d, dA, h⟩ := h
    replace h := bnd h; obtain ⟨e, dB, h⟩ := h
    replace h := mpd h; obtain ⟨z, hz, h⟩ := h
    cases h
    exact rzV_ok (toA_ok (evE_ok a _ _ _ h1) hA) (toA_ok (evE_ok b _ _ _ h2) hB) dA dB (op2_ok o d e z hz)
  | .neg a, ρ, v, ρ', h => by
    unfold evE at h
    replace h := bnd h; obtain ⟨⟨va, ρ1⟩, h1, h⟩ := h
    replace h := bnd h; obtain ⟨A, hA, h⟩ := h
    replace h := bnd h; obtain ⟨d, dA, h⟩ := h
    replace h := mpd h; obtain ⟨i, hi, h⟩ := h
    cases h
    cases asI_eq hi
    exact ed_un (toA_ok (evE_ok a _ _ _ h1) hA) ru_neg dA
  | .nt a, ρ, v, ρ', h => by
    unfold evE at h
    replace h := bnd h; obtain ⟨⟨va, ρ1⟩, h1, h⟩ := h
    replace h := bnd h; obtain ⟨d, hd, h⟩ := h
    replace h := mpd h; obtain ⟨i, hi, h⟩ := h
    cases h
    cases asB_eq hi
    exact ed_not (toD_ok (evE_ok a _ _ _ h1) hd)
  | .an a b, ρ, v, ρ', h => by
    unfold evE at h
    replace h := bnd h; obtain ⟨⟨va, ρ1⟩, h1, h⟩ := h
    replace h := bnd h; obtain ⟨d, hd, h⟩ := h
    replace h := bnd h; obtain ⟨x, hx, h⟩ := h
    cases asB_eq hx
    have k1 := toD_ok (evE_ok a _ _ _ h1) hd
    cases x with
    | true =>
      rw [if_pos rfl] at h
      replace h := bnd h; obtain ⟨⟨vb, ρ2⟩, h2, h⟩ := h
      replace h := bnd h; obtain ⟨e, he, h⟩ := h
      replace h := mpd h; obtain ⟨y, hy, h⟩ := h
      cases h
      cases asB_eq hy
      exact ed_andT k1 (toD_ok (evE_ok b _ _ _ h2) he)
    | false =>
      rw [if_neg (by decide)] at h
      cases h
      exact ed_andF k1
  | .or a b, ρ, v, ρ', h => by
    unfold evE at h
    replace h := bnd h; obtain ⟨⟨va, ρ1⟩, h1, h⟩ := h
    replace h := bnd h; obtain ⟨d, hd, h⟩ := h
    replace h := bnd h; obtain ⟨x, hx, h⟩ := h
    cases asB_eq hx
    have k1 := toD_ok (evE_ok a _ _ _ h1) hd
    cases x with
    | false =>
      rw [if_neg (by decide)] at h
      replace h := bnd h; obtain ⟨⟨vb, ρ2⟩, h2, h⟩ := h
      replace h := bnd h; obtain ⟨e, he, h⟩ := h
      replace h := mpd h; obtain ⟨y, hy, h⟩ := h
      cases h
      cases asB_eq hy
      exact ed_orF k1 (toD_ok (evE_ok b _ _ _ h2) he)
    | true =>
      rw [if_pos rfl] at h
      cases h
      exact ed_orT k1
  | .ch o o' a b c, ρ, v, ρ', h => by
    unfold evE at h
    replace h := bnd h; obtain ⟨⟨va, ρ1⟩, h1, h⟩ := h
    replace h := bnd h; obtain ⟨A, hA, h⟩ := h
    replace h := bnd h; obtain ⟨⟨vb, ρ2⟩, h2, h⟩ := h
    replace h := bnd h; obtain ⟨B, hB, h⟩ := h
    replace h := bnd h; obtain ⟨d, dA, h⟩ := h
    replace h := bnd h; obtain ⟨e, dB, h⟩ := h
    replace h := bnd h; obtain ⟨z, hz, h⟩ := h
    replace h := bnd h; obtain ⟨z', hz', h⟩ := h
    replace h := bnd h; obtain ⟨x, hx, h⟩ := h
    cases asRz_eq hz'
    cases asB_eq hx
    have r1 := op2_ok (K := g.K) o d e _ hz
    cases x with
    | true =>
      rw [if_pos rfl] at h
      replace h := bnd h; obtain ⟨⟨vc, ρ3⟩, h3, h⟩ := h
      replace h := bnd h; obtain ⟨C, hC, h⟩ := h
      replace h := bnd h; obtain ⟨e2, dB2, h⟩ := h
      replace h := bnd h; obtain ⟨f, dC, h⟩ := h
      replace h := bnd h; obtain ⟨y, hy, h⟩ := h
      replace h := bnd h; obtain ⟨y', hy', h⟩ := h
      replace h := mpd h; obtain ⟨w, hw, h⟩ := h
      cases h
      cases asRz_eq hy'
      cases asB_eq hw
      exact ed_chT (toA_ok (evE_ok a _ _ _ h1) hA) (toA_ok (evE_ok b _ _ _ h2) hB) r1 (toA_ok (evE_ok c _ _ _ h3) hC) (op2_ok (K := g.K) o' e2 f _ hy) dA dB dB2 dC
    | false =>
      rw [if_neg (by decide)] at h
      cases h
      exact ed_chF (toA_ok (evE_ok a _ _ _ h1) hA) (toA_ok (evE_ok b _ _ _ h2) hB) r1 dA dB
  | .isN a, ρ, v, ρ', h => by
    unfold evE at h
    replace h := bnd h; obtain ⟨⟨va, ρ1⟩, h1, h⟩ := h
    replace h := mpd h; obtain ⟨d, hd, h⟩ := h
    cases h
    exact ed_isN (toD_ok (evE_ok a _ _ _ h1) hd)
  | .notN a, ρ, v, ρ', h => by
    unfold evE at h
    replace h := bnd h; obtain ⟨⟨va, ρ1⟩, h1, h⟩ := h
    replace h := mpd h; obtain ⟨d, hd, h⟩ := h
    cases h
    exact ed_notN (toD_ok (evE_ok a _ _ _ h1) hd)
  | .ife t a b, ρ, v, ρ', h => by
    unfold evE at h
    replace h := bnd h; obtain ⟨⟨x, ρ1⟩, h1, h⟩ := h
    refine evV_if (evT_ok t _ _ _ h1) (fun hx => ?_) (fun hx => ?_)
    · simp only [hx, if_true] at h
      exact evE_ok a _ _ _ h
    · simp only [hx, Bool.false_eq_true, if_false] at h
      exact evE_ok b _ _ _ h
  | .tup as, ρ, v, ρ', h => by
    unfold evE at h
    replace h := bnd h; obtain ⟨⟨As, ρ1⟩, h1, h⟩ := h
    replace h := bnd h; obtain ⟨ds, hd, h⟩ := h
    split at h
    · cases h
      exact ed_tup (evA_ok as _ _ _ h1) hd ‹_›
    · cases h
  | .lst as, ρ, v, ρ', h => by
    unfold evE at h
    replace h := bnd h; obtain ⟨⟨As, ρ1⟩, h1, h⟩ := h
    replace h := bnd h; obtain ⟨ds, hd, h⟩ := h
    split at h
    · cases h
      exact en_lst (evA_ok as _ _ _ h1) hd ‹_›
    · cases h
  | .sl a lo hi, ρ, v, ρ', h => by
    unfold evE at h
    replace h := bnd h; obtain ⟨⟨va, ρ1⟩, h1, h⟩ := h
    replace h := bnd h; obtain ⟨A, hA, h⟩ := h
    replace h := bnd h; obtain ⟨⟨l, ρ2⟩, h2, h⟩ := h
    replace h := bnd h; obtain ⟨⟨u, ρ3⟩, h3, h⟩ := h
    replace h := bnd h; obtain ⟨d, dA, h⟩ := h
    replace h := mpd h; obtain ⟨z, hz, h⟩ := h
    cases h
    have k1 := toA_ok (evE_ok a _ _ _ h1) hA
    have k2 := evP_ok lo _ _ _ h2
    have k3 := evP_ok hi _ _ _ h3
    unfold sl1 at hz
    split at hz
    · cases hz
      exact ed_sl k1 k2 k3 (fun F H x Q f o q => .inl (rs_tup F H x Q f o q)) dA
    · cases hz
      exact en_sl k1 k2 k3 (fun F H x Q f o q => .inr (rs_list F H x Q f o q)) dA
    · cases hz
  | .cb f as, ρ, v, ρ', h => by
    unfold evE at h
    replace h := bnd h; obtain ⟨⟨As, ρ1⟩, h1, h⟩ := h
    replace h := bnd h; obtain ⟨ds, hd, h⟩ := h
    replace h := mpd h; obtain ⟨z, hz, h⟩ := h
    cases h
    have k := cb1_ok (K := g.K) f ds z hz
    cases z with
    | d z => exact ed_cb (evA_ok as _ _ _ h1) k hd
    | n z => exact en_cb (evA_ok as _ _ _ h1) k hd
  | .isa a T, ρ, v, ρ', h => by
    unfold evE at h
    replace h := bnd h; obtain ⟨⟨va, ρ1⟩, h1, h⟩ := h
    replace h := bnd h; obtain ⟨A, hA, h⟩ := h
    replace h := bnd h; obtain ⟨d, dA, h⟩ := h
    replace h := mpd h; obtain ⟨b, hb, h⟩ := h
    cases h
    exact ed_isaB (toA_ok (evE_ok a _ _ _ h1) hA) dA hb
  | .call f as, ρ, v, ρ', h => by
    unfold evE at h
    replace h := bnd h; obtain ⟨⟨As, ρ1⟩, h1, h⟩ := h
    replace h := bnd h; obtain ⟨ds, hd, h⟩ := h
    replace h := mpd h; obtain ⟨r, hr, h⟩ := h
    cases h
    cases r with
    | dat d => exact ed_call (evA_ok as _ _ _ h1) hr hd
    | new w => exact ew_call (evA_ok as _ _ _ h1) hr hd
  | .callS f i as, ρ, v, ρ', h => by
    unfold evE at h
    replace h := bnd h; obtain ⟨s0, h0, h⟩ := h
    replace h := bnd h; obtain ⟨⟨As, ρ1⟩, h1, h⟩ := h
    replace h := bnd h; obtain ⟨ds, hd, h⟩ := h
    replace h := bnd h; obtain ⟨st, hst, h⟩ := h
    replace h := mpd h; obtain ⟨⟨r, st'⟩, hr, h⟩ := h
    cases h
    have k := ea_cons (eo_own (g := g) (ownL_eq h0)) (evA_ok as _ _ _ h1)
    cases r with
    | dat d => exact ed_callS k (ownL_eq hst) hr hd
    | new w => exact ew_callS k (ownL_eq hst) hr hd
  | .lc it j t e, ρ, v, ρ', h => by
    unfold evE at h
    replace h := bnd h; obtain ⟨⟨l, ρ1⟩, h1, h⟩ := h
    split at h
    · rename_i hc
      replace h := mpd h; obtain ⟨⟨ds, ρ2⟩, h2, h⟩ := h
      cases h
      obtain ⟨E, bs, dd, e0, en, ed, st⟩ := lcGo_turns h2
      have hno : ∀ i, i ≤ l.length → ∀ e : Ent, (E i)[j]? = some e → e = .no := fun i hi => by
        cases i with
        | zero => rw [e0]; exact set_no
        | succ i =>
          have := st i (Nat.lt_of_succ_le hi)
          split at this
          case isFalse => cases this
          obtain ⟨⟨b, ρ3⟩, q1, q2⟩ := bnd this
          simp only at q2
          split at q2
          · obtain ⟨⟨w, ρ4⟩, q3, q4⟩ := bnd q2
            obtain ⟨d, q5, q6⟩ := mpd q4
            have z := congrArg Prod.snd q6
            simp only at z
            rw [← z]; exact set_no
          · have z := congrArg Prod.snd (Option.some.inj q2)
            simp only at z
            rw [← z]; exact set_no
      simp only at ed en
      show EvN g _ ρ ds ρ2
      rw [← en, ed]
      refine en_lc (vs := [j]) (ρ1 := ρ1.set j .no) (evI_wk (evI_ok it _ _ _ h1)) E bs dd e0 hc.1 (fun i m => by rw [List.mem_singleton.mp m]; exact hc.2) (fun i hi k m => by rw [List.mem_singleton.mp m]; exact hno i hi) fun i hi => ?_
      have sti := st i hi
      split at sti
      case isFalse => cases sti
      rename_i lenE
      obtain ⟨⟨b, ρ3⟩, q1, q2⟩ := bnd sti
      have kt := evT_ok t _ _ _ q1
      simp only at q2
      refine ⟨_, ρ3, tgc_name lenE hc.2 (by simp), ?_⟩
      cases b with
      | true =>
        rw [if_pos rfl] at q2
        obtain ⟨⟨w, ρ4⟩, q3, q4⟩ := bnd q2
        obtain ⟨d, q5, q6⟩ := mpd q4
        cases hb : bs i with
        | false => rw [hb] at q6; simp only [Bool.false_eq_true, if_false] at q6; cases (congrArg Prod.fst q6)
        | true =>
          rw [hb] at q6
          have z1 : some d = some (dd i) := congrArg Prod.fst q6
          have z2 : ρ4.set j .no = E (i + 1) := congrArg Prod.snd q6
          cases z1
          refine ⟨kt, fun _ => ⟨ρ4, toD_ok (evE_ok e _ _ _ q3) q5, z2 ▸ back_set (.inr trivial)⟩, fun z => nomatch z⟩
      | false =>
        rw [if_neg (by decide)] at q2
        have q2 := Option.some.inj q2
        cases hb : bs i with
        | true => rw [hb] at q2; cases (congrArg Prod.fst q2)
        | false =>
          have z2 : ρ3.set j .no = E (i + 1) := congrArg Prod.snd q2
          exact And.intro kt (And.intro (fun z => absurd z (by decide)) (fun _ => z2 ▸ back_set (.inr trivial)))
    · cases h
  | .lrg a, ρ, v, ρ', h => by
    unfold evE at h
    replace h := bnd h; obtain ⟨⟨va, ρ1⟩, h1, h⟩ := h
    replace h := bnd h; obtain ⟨d, hd, h⟩ := h
    replace h := bnd h; obtain ⟨n, hn, h⟩ := h
    cases asI_eq hn
    split at h
    · rename_i hr
      cases h
      have := en_rg1 (toD_ok (evE_ok a _ _ _ h1) hd) (RgOk.of_le (by omega) (by omega) (by omega) (by omega))
      rw [rg_map] at this
      exact this
    · cases h
  | .trg a, ρ, v, ρ', h => by
    unfold evE at h
    replace h := bnd h; obtain ⟨⟨va, ρ1⟩, h1, h⟩ := h
    replace h := bnd h; obtain ⟨d, hd, h⟩ := h
    replace h := bnd h; obtain ⟨n, hn, h⟩ := h
    cases asI_eq hn
    split at h
    · rename_i hr
      cases h
      have := ed_tupRg1 (toD_ok (evE_ok a _ _ _ h1) hd) (RgOk.of_le (by omega) (by omega) (by omega) (by omega))
      rw [rg_map] at this
      exact this
    · cases h
  | .pop i a, ρ, v, ρ', h => by
    unfold evE at h
    replace h := bnd h; obtain ⟨d0, h0, h⟩ := h
    replace h := bnd h; obtain ⟨⟨va, ρ1⟩, h1, h⟩ := h
    replace h := bnd h; obtain ⟨d, hd, h⟩ := h
    replace h := bnd h; obtain ⟨n, hn, h⟩ := h
    replace h := bnd h; obtain ⟨ds, hds, h⟩ := h
    cases asI_eq hn
    split at h
    · rename_i hb
      replace h := bnd h; obtain ⟨j, hj, h⟩ := h
      replace h := mpd h; obtain ⟨x, hx, h⟩ := h
      cases h
      exact ed_popAt (ownL_eq h0) (toD_ok (evE_ok a _ _ _ h1) hd) (ownL_eq hds) hb (ixN_seq hj).1 hx
    · cases h
  | .idxL a b, ρ, v, ρ', h => by
    unfold evE at h
    replace h := bnd h; obtain ⟨⟨va, ρ1⟩, h1, h⟩ := h
    replace h := bnd h; obtain ⟨d, hd, h⟩ := h
    replace h := bnd h; obtain ⟨⟨vb, ρ2⟩, h2, h⟩ := h
    replace h := bnd h; obtain ⟨B, hB, h⟩ := h
    replace h := bnd h; obtain ⟨e, dB, h⟩ := h
    split at h
    · split at h
      · rename_i hs
        replace h := mpd h; obtain ⟨j, hj, h⟩ := h
        cases h
        obtain ⟨z, z1, z2, z3⟩ := idxOf_ok hj
        exact ed_bm (dA := by show (match B.den ρ2, some ([] : List D) with | some d, some ds => some (d :: ds) | _, _ => none) = _; rw [dB]) (toD_ok (evE_ok a _ _ _ h1) hd) (ea_cons (toA_ok (evE_ok b _ _ _ h2) hB) ea_nil) rfl (rm_index hs.1 hs.2 z1 z2 z3)
      · cases h
    · cases h
  | .idxT a b, ρ, v, ρ', h => by
    unfold evE at h
    replace h := bnd h; obtain ⟨⟨va, ρ1⟩, h1, h⟩ := h
    replace h := bnd h; obtain ⟨d, hd, h⟩ := h
    replace h := bnd h; obtain ⟨⟨vb, ρ2⟩, h2, h⟩ := h
    replace h := bnd h; obtain ⟨B, hB, h⟩ := h
    replace h := bnd h; obtain ⟨e, dB, h⟩ := h
    split at h
    · replace h := bnd h; obtain ⟨xs, hx, h⟩ := h
      replace h := mpd h; obtain ⟨j, hj, h⟩ := h
      cases h
      cases strsOf_eq hx
      obtain ⟨z1, z2⟩ := idxS_ok hj
      exact ed_bmX (dA := by show (match B.den ρ2, some ([] : List D) with | some d, some ds => some (d :: ds) | _, _ => none) = _; rw [dB]) (toD_ok (evE_ok a _ _ _ h1) hd) (ea_cons (toA_ok (evE_ok b _ _ _ h2) hB) ea_nil) (rm_tix z1 z2)
    · cases h
  | .dget i a, ρ, v, ρ', h => by
    unfold evE at h
    replace h := bnd h; obtain ⟨d0, h0, h⟩ := h
    replace h := bnd h; obtain ⟨⟨va, ρ1⟩, h1, h⟩ := h
    replace h := bnd h; obtain ⟨d, hd, h⟩ := h
    replace h := bnd h; obtain ⟨k, hk, h⟩ := h
    replace h := bnd h; obtain ⟨kvs, hv, h⟩ := h
    replace h := mpd h; obtain ⟨x, hx, h⟩ := h
    cases h
    cases keyD_eq hk
    exact ed_dget (ownD_eq h0) (toD_ok (evE_ok a _ _ _ h1) hd) (ownD_eq hv) hx
  | .din a i, ρ, v, ρ', h => by
    unfold evE at h
    replace h := bnd h; obtain ⟨⟨va, ρ1⟩, h1, h⟩ := h
    replace h := bnd h; obtain ⟨d, hd, h⟩ := h
    replace h := bnd h; obtain ⟨k, hk, h⟩ := h
    replace h := mpd h; obtain ⟨kvs, hv, h⟩ := h
    cases h
    cases keyD_eq hk
    exact ed_din (toD_ok (evE_ok a _ _ _ h1) hd) (ownD_eq hv)
  | .dnin a i, ρ, v, ρ', h => by
    unfold evE at h
    replace h := bnd h; obtain ⟨⟨va, ρ1⟩, h1, h⟩ := h
    replace h := bnd h; obtain ⟨d, hd, h⟩ := h
    replace h := bnd h; obtain ⟨k, hk, h⟩ := h
    replace h := mpd h; obtain ⟨kvs, hv, h⟩ := h
    cases h
    cases keyD_eq hk
    exact ed_dnotin (toD_ok (evE_ok a _ _ _ h1) hd) (ownD_eq hv)
  | .dset i a b, ρ, v, ρ', h => by
    unfold evE at h
    replace h := bnd h; obtain ⟨d0, h0, h⟩ := h
    replace h := bnd h; obtain ⟨⟨va, ρ1⟩, h1, h⟩ := h
    replace h := bnd h; obtain ⟨d, hd, h⟩ := h
    replace h := bnd h; obtain ⟨k, hk, h⟩ := h
    replace h := bnd h; obtain ⟨⟨vb, ρ2⟩, h2, h⟩ := h
    replace h := bnd h; obtain ⟨e, he, h⟩ := h
    replace h := bnd h; obtain ⟨kvs, hv, h⟩ := h
    split at h
    · cases h
      cases keyD_eq hk
      exact ed_setd (ownD_eq h0) (toD_ok (evE_ok a _ _ _ h1) hd) (toD_ok (evE_ok b _ _ _ h2) he) (ownD_eq hv) ‹_›
    · cases h
theorem evA_ok : ∀ (e : Exs) (ρ : Rho) (As : List DL.Arg) (ρ' : Rho), evA g.ps e ρ = some (As, ρ') → EvA g (denA g.K e) ρ As ρ'
  | .nil, ρ, As, ρ', h => by cases h; exact ea_nil
  | .cons a as, ρ, As, ρ', h => by
    unfold evA at h
    replace h := bnd h; obtain ⟨⟨va, ρ1⟩, h1, h⟩ := h
    replace h := bnd h; obtain ⟨A, hA, h⟩ := h
    replace h := mpd h; obtain ⟨⟨Bs, ρ2⟩, h2, h⟩ := h
    cases h
    exact ea_cons (toA_ok (evE_ok a _ _ _ h1) hA) (evA_ok as _ _ _ h2)
theorem evT_ok : ∀ (e : Tx) (ρ : Rho) (b : Bool) (ρ' : Rho), evT g.ps e ρ = some (b, ρ') → EvT g (denT g.K e) ρ b ρ'
  | .te a, ρ, b, ρ', h => by
    unfold evT at h
    replace h := bnd h; obtain ⟨⟨va, ρ1⟩, h1, h⟩ := h
    replace h := bnd h; obtain ⟨d, hd, h⟩ := h
    replace h := mpd h; obtain ⟨x, hx, h⟩ := h
    cases h
    cases asB_eq hx
    exact et_test (toD_ok (evE_ok a _ _ _ h1) hd)
  | .tb a, ρ, b, ρ', h => by
    unfold evT at h
    replace h := bnd h; obtain ⟨⟨va, ρ1⟩, h1, h⟩ := h
    replace h := bnd h; obtain ⟨d, hd, h⟩ := h
    replace h := mpd h; obtain ⟨x, hx, h⟩ := h
    cases h
    cases asB_eq hx
    exact et_B (toD_ok (evE_ok a _ _ _ h1) hd)
  | .nt t, ρ, b, ρ', h => by
    unfold evT at h
    replace h := mpd h; obtain ⟨⟨x, ρ1⟩, h1, h⟩ := h
    cases h
    exact et_not (evT_ok t _ _ _ h1)
  | .an t u, ρ, b, ρ', h => by
    unfold evT at h
    replace h := bnd h; obtain ⟨⟨x, ρ1⟩, h1, h⟩ := h
    cases x with
    | true =>
      simp only [if_true] at h
      exact et_andT (evT_ok t _ _ _ h1) (evT_ok u _ _ _ h)
    | false =>
      simp only [Bool.false_eq_true, if_false] at h
      cases h
      exact et_andF (evT_ok t _ _ _ h1)
  | .or t u, ρ, b, ρ', h => by
    unfold evT at h
    replace h := bnd h; obtain ⟨⟨x, ρ1⟩, h1, h⟩ := h
    cases x with
    | true =>
      simp only [if_true] at h
      cases h
      exact et_orT (evT_ok t _ _ _ h1)
    | false =>
      simp only [Bool.false_eq_true, if_false] at h
      exact et_orF (evT_ok t _ _ _ h1) (evT_ok u _ _ _ h)
  | .yes, ρ, b, ρ', h => by cases h; exact et_yes'
  | .lend t, ρ, b, ρ', h => by
    unfold evT at h
    replace h := mpd h; obtain ⟨⟨x, ρ1⟩, h1, h⟩ := h
    cases h
    exact et_lend (evT_ok t _ _ _ h1)
theorem evP_ok : ∀ (e : Px) (ρ : Rho) (b : Option Int) (ρ' : Rho), evP g.ps e ρ = some (b, ρ') → EvP g (denP g.K e) ρ b ρ'
  | .no, ρ, b, ρ', h => by cases h; exact ep_no
  | .at a, ρ, b, ρ', h => by
    unfold evP at h
    replace h := bnd h; obtain ⟨⟨va, ρ1⟩, h1, h⟩ := h
    replace h := bnd h; obtain ⟨d, hd, h⟩ := h
    replace h := mpd h; obtain ⟨x, hx, h⟩ := h
    cases h
    cases asI_eq hx
    exact ep_some (toD_ok (evE_ok a _ _ _ h1) hd)
theorem evI_ok : ∀ (e : Ix) (ρ : Rho) (l : List D) (ρ' : Rho), evI g.ps e ρ = some (l, ρ') → EvI g (denI g.K e) ρ l.length (nthD l) ρ'
  | .rng1 a, ρ, l, ρ', h => by
    unfold evI at h
    replace h := bnd h; obtain ⟨⟨va, ρ1⟩, h1, h⟩ := h
    replace h := bnd h; obtain ⟨d, hd, h⟩ := h
    replace h := bnd h; obtain ⟨n, hn, h⟩ := h
    cases asI_eq hn
    split at h
    · rename_i hb
      cases h
      rw [rgD_len]
      exact evI_congr (ei_rng1 (ea_cons (eo_of (toD_ok (evE_ok a _ _ _ h1) hd)) ea_nil) rfl hb) fun i hi => (rgD_at hi).symm
    · cases h
  | .rng2 a b, ρ, l, ρ', h => by
    unfold evI at h
    replace h := bnd h; obtain ⟨⟨va, ρ1⟩, h1, h⟩ := h
    replace h := bnd h; obtain ⟨d, hd, h⟩ := h
    replace h := bnd h; obtain ⟨m, hm, h⟩ := h
    replace h := bnd h; obtain ⟨⟨vb, ρ2⟩, h2, h⟩ := h
    replace h := bnd h; obtain ⟨e, he, h⟩ := h
    replace h := bnd h; obtain ⟨n, hn, h⟩ := h
    cases asI_eq hm
    cases asI_eq hn
    split at h
    · rename_i hb
      cases h
      rw [rgD_len]
      exact evI_congr (ei_rng2 (ea_cons (eo_of (toD_ok (evE_ok a _ _ _ h1) hd)) (ea_cons (eo_of (toD_ok (evE_ok b _ _ _ h2) he)) ea_nil)) rfl rfl hb) fun i hi => (rgD_at hi).symm
    · cases h
  | .u a, ρ, l, ρ', h => by
    unfold evI at h
    replace h := bnd h; obtain ⟨⟨va, ρ1⟩, h1, h⟩ := h
    replace h := bnd h; obtain ⟨d, hd, h⟩ := h
    split at h
    · cases h
      exact ei_uL (toD_ok (evE_ok a _ _ _ h1) hd)
    · cases h
      exact ei_uT (toD_ok (evE_ok a _ _ _ h1) hd)
    · cases h
  | .en a, ρ, l, ρ', h => by
    unfold evI at h
    replace h := bnd h; obtain ⟨⟨va, ρ1⟩, h1, h⟩ := h
    replace h := bnd h; obtain ⟨d, hd, h⟩ := h
    split at h
    · cases h
      rw [enD_len]
      exact evI_congr (ei_enT (toD_ok (evE_ok a _ _ _ h1) hd)) fun i hi => (enD_at hi).symm
    · cases h
end
end EV

namespace EV
open PySem PySem.Spec PyProof.Rows L2 DL
variable {K : PySem.W.Frag} {g : Gm}
mutual
theorem setG_ok : ∀ (t : Tg) (d : D) (ρ ρ' : Rho), setG g.ps t d ρ = some ρ' → DL.Tg g (denG g.K t) d ρ ρ'
  | .nm i, d, ρ, ρ', h => by
    unfold setG at h
    split at h
    · rename_i hh
      cases h
      exact tg_name hh.1 hh.2
    · cases h
  | .tup n ts, d, ρ, ρ', h => by
    cases d with
    | tuple ds =>
      unfold setG at h
      split at h
      · exact tg_tup (setGs_ok ts ds _ _ h) ‹_›
      · cases h
    | _ => simp [setG] at h
theorem setGs_ok : ∀ (t : Tgs) (ds : List D) (ρ ρ' : Rho), setGs g.ps t ds ρ = some ρ' → DL.Tgs g (denGs g.K t) ds ρ ρ'
  | .nil, ds, ρ, ρ', h => by
    cases ds with
    | nil => simp [setGs] at h; subst h; exact tgs_nil
    | cons d ds => simp [setGs] at h
  | .cons t ts, ds, ρ, ρ', h => by
    cases ds with
    | nil => simp [setGs] at h
    | cons d ds =>
      unfold setGs at h
      replace h := bnd h; obtain ⟨ρ1, h1, h⟩ := h
      exact tgs_cons (setG_ok t d _ _ h1) (setGs_ok ts ds _ _ h)
end
theorem et_congr {t : TT} {ρ ρ' : Rho} {b c : Bool} (h : EvT g t ρ b ρ') (e : b = c) : EvT g t ρ c ρ' := e ▸ h
theorem sv_retL {te : TE} {ρ ρ1 : Rho} {ds : List D} {i : Nat} {P : Out → Prop} (he : EvO g te ρ (.o i) ρ1) (hi : ρ1[i]? = some (.own (.lst ds))) (hp : i ∉ g.ps) (h : P (.rt (ρ1.set i .no) (.new (.lst ds)))) : Sv g (tRet te) ρ P := fun c F H σ E k s p => by
  refine he c F H σ k.ok s _ fun v F1 H1 s1 e1 x => ?_
  have q : σ[i]? = some (some v) := by cases x with | o x => exact x
  have := sv_retOwn (g := g) (i := i) hi h hp c F1 H1 σ E k s1 (p.up e1)
  obtain ⟨v', q1, q2⟩ := this
  rw [q] at q1
  cases q1
  exact q2
theorem exS_ok : ∀ (st : St) (ρ : Rho) (o : Out), exS g.ps st ρ = some o → Sv g (denS g.K st) ρ (fun o' => o' = o)
  | .set i e, ρ, o, h => by
    unfold exS at h
    replace h := bnd h; obtain ⟨⟨v, ρ1⟩, h1, h⟩ := h
    have k := evE_ok e _ _ _ h1
    cases v with
    | d x =>
      change (if i < ρ1.length ∧ i ∉ g.ps then _ else _) = _ at h
      split at h
      · rename_i hh; cases h; exact sv_set k rfl hh.1 hh.2
      · cases h
    | o j => cases h
    | n ds =>
      change (if i < ρ1.length ∧ i ∉ g.ps then _ else _) = _ at h
      split at h
      · rename_i hh; cases h; exact sv_setN k rfl hh.1 hh.2
      · cases h
    | w w =>
      change (if i < ρ1.length ∧ i ∉ g.ps then _ else _) = _ at h
      split at h
      · rename_i hh; cases h; exact sv_setW k rfl hh.1 hh.2
      · cases h
  | .asg e t, ρ, o, h => by
    unfold exS at h
    replace h := bnd h; obtain ⟨⟨v, ρ1⟩, h1, h⟩ := h
    replace h := bnd h; obtain ⟨d, hd, h⟩ := h
    replace h := mpd h; obtain ⟨ρ2, h2, h⟩ := h
    subst h
    exact sv_asgT (toD_ok (evE_ok e _ _ _ h1) hd) (setG_ok t d _ _ h2) rfl
  | .seti i a e, ρ, o, h => by
    unfold exS at h
    replace h := bnd h; obtain ⟨⟨v, ρ1⟩, h1, h⟩ := h
    replace h := bnd h; obtain ⟨d, hd, h⟩ := h
    replace h := bnd h; obtain ⟨d0, h0, h⟩ := h
    replace h := bnd h; obtain ⟨⟨w, ρ2⟩, h2, h⟩ := h
    replace h := bnd h; obtain ⟨x, hx, h⟩ := h
    replace h := bnd h; obtain ⟨n, hn, h⟩ := h
    replace h := bnd h; obtain ⟨ds, hds, h⟩ := h
    replace h := mpd h; obtain ⟨j, hj, h⟩ := h
    subst h
    have e1 := asI_eq hn
    subst e1
    exact sv_setItem (toD_ok (evE_ok e _ _ _ h1) hd) (toD_ok (evE_ok a _ _ _ h2) hx) (ownL_eq h0) (ownL_eq hds) hj rfl
  | .app i e, ρ, o, h => by
    unfold exS at h
    replace h := bnd h; obtain ⟨d0, h0, h⟩ := h
    replace h := bnd h; obtain ⟨⟨v, ρ1⟩, h1, h⟩ := h
    replace h := bnd h; obtain ⟨d, hd, h⟩ := h
    replace h := bnd h; obtain ⟨ds, hds, h⟩ := h
    split at h
    · cases h
      exact sv_append (ownL_eq h0) (toD_ok (evE_ok e _ _ _ h1) hd) (ownL_eq hds) ‹_› rfl
    · cases h
  | .newD i, ρ, o, h => by
    unfold exS at h
    split at h
    · rename_i hh; cases h; exact sv_newDict rfl hh.1 hh.2
    · cases h
  | .dput i a e, ρ, o, h => by
    unfold exS at h
    replace h := bnd h; obtain ⟨⟨v, ρ1⟩, h1, h⟩ := h
    replace h := bnd h; obtain ⟨d, hd, h⟩ := h
    replace h := bnd h; obtain ⟨d0, h0, h⟩ := h
    replace h := bnd h; obtain ⟨⟨w, ρ2⟩, h2, h⟩ := h
    replace h := bnd h; obtain ⟨x, hx, h⟩ := h
    replace h := bnd h; obtain ⟨k, hk, h⟩ := h
    replace h := bnd h; obtain ⟨kvs, hv, h⟩ := h
    split at h
    · cases h
      have e1 := keyD_eq hk
      subst e1
      exact sv_dput (toD_ok (evE_ok e _ _ _ h1) hd) (ownD_eq h0) (toD_ok (evE_ok a _ _ _ h2) hx) (ownD_eq hv) ‹_› rfl
    · cases h
  | .drop e, ρ, o, h => by
    unfold exS at h
    replace h := bnd h; obtain ⟨⟨v, ρ1⟩, h1, h⟩ := h
    replace h := mpd h; obtain ⟨d, hd, h⟩ := h
    subst h
    exact sv_drop (toD_ok (evE_ok e _ _ _ h1) hd) rfl
  | .ret e, ρ, o, h => by
    unfold exS at h
    replace h := bnd h; obtain ⟨⟨v, ρ1⟩, h1, h⟩ := h
    have k := evE_ok e _ _ _ h1
    cases v with
    | d x => cases h; exact sv_ret k rfl
    | n ds => cases h; exact sv_retN k rfl
    | w w => cases h; exact sv_retW k rfl
    | o i =>
      change (ownL ρ1 i).bind _ = _ at h
      replace h := bnd h; obtain ⟨ds, hds, h⟩ := h
      split at h
      · cases h; exact sv_retL k (ownL_eq hds) ‹_› rfl
      · cases h
  | .retN, ρ, o, h => by cases h; exact sv_retNone rfl
  | .iff t a b, ρ, o, h => by
    unfold exS at h
    replace h := bnd h; obtain ⟨⟨x, ρ1⟩, h1, h⟩ := h
    refine sv_if (evT_ok t _ _ _ h1) (fun hx => ?_) (fun hx => ?_)
    · simp only [hx, if_true] at h
      exact exS_ok a _ _ h
    · simp only [hx, Bool.false_eq_true, if_false] at h
      exact exS_ok b _ _ h
  | .for it t b, ρ, o, h => by
    unfold exS at h
    replace h := bnd h; obtain ⟨⟨l, ρ1⟩, h1, h⟩ := h
    refine sv_for (fun i ρ' => forGo (fun x ρ' => (setG g.ps t x ρ').bind fun ρ1 => exS g.ps b ρ1) (l.drop i) ρ' = some o) (evI_ok it _ _ _ h1) h (fun i ρ' hi hI => ?_) (fun ρ' hI => ?_)
    · have e : l.drop i = nthD l i :: l.drop (i + 1) := by
        rw [List.drop_eq_getElem_cons hi]
        congr 1
        unfold nthD
        rw [List.getD_eq_getElem?_getD, List.getElem?_eq_getElem hi]
        rfl
      simp only [e] at hI
      unfold forGo at hI
      replace hI := bnd hI; obtain ⟨oo, h2, hI⟩ := hI
      replace h2 := bnd h2; obtain ⟨ρ2, h2, h3⟩ := h2
      refine ⟨ρ2, setG_ok t _ _ _ h2, (exS_ok b _ _ h3).mono fun o' eo => ?_⟩
      subst eo
      cases o' with
      | nx ρ3 => exact hI
      | ct ρ3 => exact hI
      | bk ρ3 => exact Option.some.inj hI
      | rt ρ3 r => exact Option.some.inj hI
      | ex C ρ3 => exact Option.some.inj hI
    · simp only [List.drop_length] at hI
      exact Option.some.inj hI
  | .wh n t b, ρ, o, h => by
    unfold exS at h
    refine sv_while (fun m ρ' => whGo (fun ρ' => evT g.ps t ρ') (fun ρ' => exS g.ps b ρ') m ρ' = some o) n h (fun m ρ' hI => ?_)
    cases m with
    | zero => cases hI
    | succ m =>
      unfold whGo at hI
      replace hI := bnd hI; obtain ⟨⟨x, ρ2⟩, h2, hI⟩ := hI
      refine ⟨x, ρ2, evT_ok t _ _ _ h2, fun hx => ?_, fun hx => ?_⟩
      · simp only [hx, if_true] at hI
        replace hI := bnd hI; obtain ⟨oo, h3, hI⟩ := hI
        refine (exS_ok b _ _ h3).mono fun o' eo => ?_
        subst eo
        cases o' with
        | nx ρ3 => exact ⟨m, by omega, hI⟩
        | ct ρ3 => exact ⟨m, by omega, hI⟩
        | bk ρ3 => exact Option.some.inj hI
        | rt ρ3 r => exact Option.some.inj hI
        | ex C ρ3 => exact Option.some.inj hI
      · simp only [hx, Bool.false_eq_true, if_false] at hI
        exact Option.some.inj hI
  | .brk, ρ, o, h => by cases h; exact sv_break rfl
  | .cont, ρ, o, h => by cases h; exact sv_cont rfl
  | .nx, ρ, o, h => by cases h; exact sv_next rfl
  | .seq a b, ρ, o, h => by
    unfold exS at h
    replace h := bnd h; obtain ⟨oo, h1, h⟩ := h
    refine sv_seq ((exS_ok a _ _ h1).mono fun o' eo => ?_)
    subst eo
    cases o' with
    | nx ρ3 => exact exS_ok b _ _ h
    | ct ρ3 => exact Option.some.inj h
    | bk ρ3 => exact Option.some.inj h
    | rt ρ3 r => exact Option.some.inj h
    | ex C ρ3 => exact Option.some.inj h
  | .fz i s, ρ, o, h => by
    unfold exS at h
    split at h
    · rename_i ds q
      split at h
      · cases h
      · exact sv_frz q (exS_ok s _ _ h) ‹_›
    · exact exS_ok s _ _ h
/-! ### a def as a function -/
def out1 : Out → Option RetV
  | .nx _ => some (.dat .none)
  | .rt _ r => some r
  | _ => none
def runD (st : St) (m n : Nat) (ds : List D) : Option RetV := if ds.length = m then (exS [] st (ds.map .dat ++ List.replicate (n - ds.length) .no)).bind out1 else none
def out2 : Out → Option (RetV × List D)
  | .nx ρ => (ownL ρ 0).map fun s => (.dat .none, s)
  | .rt ρ r => (ownL ρ 0).map fun s => (r, s)
  | _ => none
def runS (st : St) (m n : Nat) (s0 : List D) (ds : List D) : Option (RetV × List D) := if ds.length + 1 = m then (exS [0] st ((.own (.lst s0) :: ds.map .dat) ++ List.replicate (n - (ds.length + 1)) .no)).bind out2 else none
theorem len_D {st : St} {m n : Nat} {ds : List D} {r : RetV} (h : runD st m n ds = some r) : ds.length = m := by
  unfold runD at h
  split at h
  · assumption
  · cases h
theorem len_S {st : St} {m n : Nat} {s0 s1 ds : List D} {r : RetV} (h : runS st m n s0 ds = some (r, s1)) : ds.length + 1 = m := by
  unfold runS at h
  split at h
  · assumption
  · cases h
theorem run_D {st : St} {m : Nat} {N : List Str} {ds : List D} {r : RetV} (h : runD st m N.length ds = some r) : Sv (gm K []) (denS K st) (rho0 N (ds.map .dat)) (RetP r) := by
  unfold runD at h
  split at h
  case isFalse => cases h
  replace h := bnd h; obtain ⟨o, h1, h⟩ := h
  have e : rho0 N (ds.map .dat) = ds.map .dat ++ List.replicate (N.length - ds.length) .no := by unfold rho0; rw [List.length_map]
  rw [e]
  refine (exS_ok (g := gm K []) st _ _ h1).mono fun o' eo => ?_
  subst eo
  cases o' with
  | nx ρ => exact (Option.some.inj h).symm
  | rt ρ r' => exact Option.some.inj h
  | _ => cases h
theorem run_S {st : St} {m : Nat} {N : List Str} {s0 s1 ds : List D} {r : RetV} (h : runS st m N.length s0 ds = some (r, s1)) : Sv (gm K [0]) (denS K st) (rho0 N (.own (.lst s0) :: ds.map .dat)) (RetS r s1) := by
  unfold runS at h
  split at h
  case isFalse => cases h
  replace h := bnd h; obtain ⟨o, h1, h⟩ := h
  have e : rho0 N (.own (.lst s0) :: ds.map .dat) = (.own (.lst s0) :: ds.map .dat) ++ List.replicate (N.length - (ds.length + 1)) .no := by unfold rho0; simp
  rw [e]
  refine (exS_ok (g := gm K [0]) st _ _ h1).mono fun o' eo => ?_
  subst eo
  cases o' with
  | nx ρ =>
    replace h := mpd h; obtain ⟨s, h2, h⟩ := h
    cases h
    exact ⟨rfl, ownL_eq h2⟩
  | rt ρ r' =>
    replace h := mpd h; obtain ⟨s, h2, h⟩ := h
    cases h
    exact ⟨rfl, ownL_eq h2⟩
  | _ => cases h
end EV

namespace EV
open PySem PySem.Spec PyProof.Rows L2 DL
/-! ### the functions run step by step, each step a row for simp that is used ahead of what stands inside -/
section
variable {β : Type} {ps : List Nat} {ρ ρ' : Rho}
def aV (v : Vl) (k : DL.Arg → Option β) : Option β := (toA v).bind k
def dV (v : Vl) (k : D → Option β) : Option β := (toD v).bind k
def nA (A : DL.Arg) (ρ : Rho) (k : D → Option β) : Option β := (A.den ρ).bind k
def gE (ρ : Rho) (i : Nat) (k : Ent → Option β) : Option β := (ρ[i]?).bind k
def eL (e : Ent) (k : List D → Option β) : Option β := match e with | .own (.lst ds) => k ds | _ => none
def eD (e : Ent) (k : List (Key × D) → Option β) : Option β := match e with | .own (.dK ds) => k ds | _ => none
def eV (e : Ent) (i : Nat) (k : Vl → Option β) : Option β := match e with | .dat d => k (.d d) | .own (.lst _) => k (.o i) | _ => none
def iD (d : D) (k : Int → Option β) : Option β := (asI d).bind k
def bD (d : D) (k : Bool → Option β) : Option β := (asB d).bind k
def kD (d : D) (k : Key → Option β) : Option β := (keyD d).bind k
def zD (z : Rz) (k : D → Option β) : Option β := (asRz z).bind k
def sR (ρ : Rho) (i : Nat) (e : Ent) (k : Rho → Option β) : Option β := if i < ρ.length then k (ρ.set i e) else none
def sK (ps : List Nat) (ρ : Rho) (i : Nat) (e : Ent) (k : Rho → Option β) : Option β := if i < ρ.length ∧ i ∉ ps then k (ρ.set i e) else none
def oZ (o : Op) (d e : D) (k : Rz → Option β) : Option β := (op2 o d e).bind k
def cZ (f : Bf) (ds : List D) (k : Rz → Option β) : Option β := (cb1 f ds).bind k
def vZ (z : Rz) (k : Vl → Option β) : Option β := k (rzV z)
def xE (ps : List Nat) (e : Ex) (ρ : Rho) (k : Vl → Rho → Option β) : Option β := (evE ps e ρ).bind fun p => k p.1 p.2
def xA (ps : List Nat) (e : Exs) (ρ : Rho) (k : List DL.Arg → Rho → Option β) : Option β := (evA ps e ρ).bind fun p => k p.1 p.2
def xT (ps : List Nat) (e : Tx) (ρ : Rho) (k : Bool → Rho → Option β) : Option β := (evT ps e ρ).bind fun p => k p.1 p.2
def xP (ps : List Nat) (e : Px) (ρ : Rho) (k : Option Int → Rho → Option β) : Option β := (evP ps e ρ).bind fun p => k p.1 p.2
def xI (ps : List Nat) (e : Ix) (ρ : Rho) (k : List D → Rho → Option β) : Option β := (evI ps e ρ).bind fun p => k p.1 p.2
def kS (o : Out) (kn : Rho → Option β) (ka : Out → Option β) : Option β := match o with | .nx ρ => kn ρ | o => ka o
def xS (ps : List Nat) (st : EV.St) (ρ : Rho) (kn : Rho → Option β) (ka : Out → Option β) : Option β := (exS ps st ρ).bind fun o => kS o kn ka
def xG (ps : List Nat) (t : EV.Tg) (d : D) (ρ : Rho) (k : Rho → Option β) : Option β := (setG ps t d ρ).bind k
def xGs (ps : List Nat) (t : EV.Tgs) (d : List D) (ρ : Rho) (k : Rho → Option β) : Option β := (setGs ps t d ρ).bind k
def trn (ps : List Nat) (t : EV.Tg) (b : EV.St) (x : D) (ρ : Rho) : Option Out := (setG ps t x ρ).bind fun ρ1 => exS ps b ρ1
def ltn (ps : List Nat) (j : Nat) (t : Tx) (e : Ex) (x : D) (ρ' : Rho) : Option (Option D × Rho) := if j < ρ'.length then (evT ps t (ρ'.set j (.dat x))).bind fun q => if q.1 then (evE ps e q.2).bind fun r => (toD r.1).map fun d => (some d, r.2.set j .no) else some (none, q.2.set j .no) else none
def fK (f : D → Rho → Option Out) (l : List D) (ρ : Rho) (k : Out → Option β) : Option β := (forGo f l ρ).bind k
def lK (f : D → Rho → Option (Option D × Rho)) (l : List D) (ρ : Rho) (k : List D → Rho → Option β) : Option β := (lcGo f l ρ).bind fun p => k p.1 p.2
def wK (t : Tx) (b : EV.St) (ps : List Nat) (n : Nat) (ρ : Rho) (k : Out → Option β) : Option β := (whGo (fun ρ' => evT ps t ρ') (fun ρ' => exS ps b ρ') n ρ).bind k
def cK (f : List D → Option RetV) (ds : List D) (k : Vl → Option β) : Option β := (f ds).bind fun r => k (rvV r)
def cKS (f : List D → List D → Option (RetV × List D)) (st ds : List D) (k : Vl → List D → Option β) : Option β := (f st ds).bind fun r => k (rvV r.1) r.2
def aI (ds : List D) (i : Int) (k : D → Option β) : Option β := (atI ds i).bind k
def nI (n : Nat) (i : Int) (k : Nat → Option β) : Option β := (ixN n i).bind k
def dA (As : List DL.Arg) (k : List D → Option β) : Option β := (datas As).bind k
def dN (As : List DL.Arg) (ρ : Rho) (k : List D → Option β) : Option β := (dens ρ As).bind k
def lD (d : D) (k : List D → Option β) : Option β := match d with | .list ds => k ds | _ => none
def sD (d : D) (k : List D → Option β) : Option β := match d with | .list ds => k ds | .tuple ds => k ds | _ => none
def tD (d : D) (k : List D → Option β) : Option β := match d with | .tuple ds => k ds | _ => none
/-! rows: values -/
variable {k : Vl → Option β} {kd : D → Option β} {ka : DL.Arg → Option β} {kr : Rho → Option β} {ke : Ent → Option β} {kl : List D → Option β} {kx : List (Key × D) → Option β} {ki : Int → Option β} {kb : Bool → Option β} {kk : Key → Option β} {kz : Rz → Option β} {kn : Nat → Option β}
theorem aV_d {x : D} : aV (.d x) ka = ka (.d x) := rfl
theorem aV_o {i : Nat} : aV (.o i) ka = ka (.o i) := rfl
theorem aV_n {ds : List D} : aV (.n ds) ka = ka (.d (.list ds)) := rfl
theorem aV_w {ds : List D} : aV (.w (.lst ds)) ka = ka (.d (.list ds)) := rfl
theorem dV_d {x : D} : dV (.d x) kd = kd x := rfl
theorem dV_n {ds : List D} : dV (.n ds) kd = kd (.list ds) := rfl
theorem dV_w {ds : List D} : dV (.w (.lst ds)) kd = kd (.list ds) := rfl
theorem gE_0 {e : Ent} : gE (e :: ρ) 0 ke = ke e := rfl
theorem gE_s {e : Ent} {i : Nat} : gE (e :: ρ) (i + 1) ke = gE ρ i ke := rfl
theorem eL_l {ds : List D} : eL (.own (.lst ds)) kl = kl ds := rfl
theorem eD_l {ds : List (Key × D)} : eD (.own (.dK ds)) kx = kx ds := rfl
theorem eV_d {d : D} {i : Nat} : eV (.dat d) i k = k (.d d) := rfl
theorem eV_l {ds : List D} {i : Nat} : eV (.own (.lst ds)) i k = k (.o i) := rfl
theorem nA_d {x : D} : nA (.d x) ρ kd = kd x := rfl
theorem nA_o {i : Nat} : nA (.o i) ρ kd = gE ρ i fun e => eL e fun ds => kd (.list ds) := by
  unfold nA gE eL
  simp only [DL.Arg.den]
  cases h : ρ[i]? with
  | none => rfl
  | some e =>
    cases e with
    | own w => cases w <;> rfl
    | _ => rfl
theorem iD_i {i : Int} : iD (.int i) ki = ki i := rfl
theorem bD_b {b : Bool} : bD (.bool b) kb = kb b := rfl
theorem kD_i {i : Int} : kD (.int i) kk = kk (.inl i) := rfl
theorem kD_s {i : Str} : kD (.str i) kk = kk (.inr i) := rfl
theorem zD_d {z : D} : zD (.d z) kd = kd z := rfl
theorem vZ_d {z : D} : vZ (.d z) k = k (.d z) := rfl
theorem vZ_n {z : List D} : vZ (.n z) k = k (.n z) := rfl
theorem sR_0 {e x : Ent} : sR (e :: ρ) 0 x kr = kr (x :: ρ) := rfl
theorem sR_s {e x : Ent} {i : Nat} : sR (e :: ρ) (i + 1) x kr = sR ρ i x fun ρ' => kr (e :: ρ') := by
  unfold sR
  simp
theorem sK_n {i : Nat} {e : Ent} : sK [] ρ i e kr = sR ρ i e kr := by
  unfold sK sR
  simp
theorem sK_0 {i : Nat} {e : Ent} : sK [0] ρ (i + 1) e kr = sR ρ (i + 1) e kr := by
  unfold sK sR
  simp
theorem lD_l {ds : List D} : lD (.list ds) kl = kl ds := rfl
theorem sD_l {ds : List D} : sD (.list ds) kl = kl ds := rfl
theorem sD_t {ds : List D} : sD (.tuple ds) kl = kl ds := rfl
theorem tD_t {ds : List D} : tD (.tuple ds) kl = kl ds := rfl
theorem dA_nil : dA [] kl = kl [] := rfl
theorem dA_d {x : D} {As : List DL.Arg} : dA (.d x :: As) kl = dA As fun ds => kl (x :: ds) := by
  unfold dA
  rw [datas]
  cases datas As <;> rfl
theorem dN_nil : dN [] ρ kl = kl [] := rfl
theorem dN_c {A : DL.Arg} {As : List DL.Arg} : dN (A :: As) ρ kl = nA A ρ fun d => dN As ρ fun ds => kl (d :: ds) := by
  unfold dN nA
  rw [dens]
  cases A.den ρ with
  | none => rfl
  | some d => cases dens ρ As <;> rfl
/-! rows: operations -/
theorem oZ_addI {i j : Int} : oZ .add (.int i) (.int j) kz = kz (.d (.int (i + j))) := rfl
theorem oZ_addS {i j : Str} (h : i.length + j.length ≤ sizeLine) : oZ .add (.str i) (.str j) kz = kz (.d (.str (i ++ j))) := by show Option.bind (if _ then _ else none) _ = _; rw [if_pos h]; rfl
theorem oZ_addT {i j : List D} (h : i.length + j.length ≤ sizeLine) : oZ .add (.tuple i) (.tuple j) kz = kz (.d (.tuple (i ++ j))) := by show Option.bind (if _ then _ else none) _ = _; rw [if_pos h]; rfl
theorem oZ_addL {i j : List D} (h : i.length + j.length ≤ sizeLine) : oZ .add (.list i) (.list j) kz = kz (.n (i ++ j)) := by show Option.bind (if _ then _ else none) _ = _; rw [if_pos h]; rfl
theorem oZ_sub {i j : Int} : oZ .sub (.int i) (.int j) kz = kz (.d (.int (i - j))) := rfl
theorem oZ_mul {i j : Int} (h : (-(2 ^ 64) < i ∧ i < 2 ^ 64) ∨ (-(2 ^ 64) < j ∧ j < 2 ^ 64)) : oZ .mul (.int i) (.int j) kz = kz (.d (.int (i * j))) := by show Option.bind (if _ then _ else none) _ = _; rw [if_pos h]; rfl
theorem oZ_mulT {xs : List D} {j : Int} (h : xs ≠ [] ∧ 2 ≤ j ∧ j ≤ 1000 ∧ xs.length ≤ 1000) : oZ .mul (.tuple xs) (.int j) kz = kz (.d (.tuple (List.replicate j.toNat xs).flatten)) := by show Option.bind (if _ then _ else none) _ = _; rw [if_pos h]; rfl
theorem oZ_fdiv {i j : Int} (h : 0 < j ∧ j < 1073741824) : oZ .fdiv (.int i) (.int j) kz = kz (.d (.int (i / j))) := by show Option.bind (if _ then _ else none) _ = _; rw [if_pos h]; rfl
theorem oZ_mod {i j : Int} (h : 0 < j) : oZ .mod (.int i) (.int j) kz = kz (.d (.int (i % j))) := by show Option.bind (if _ then _ else none) _ = _; rw [if_pos h]; rfl
theorem oZ_pow {i j : Int} (h : 0 ≤ j ∧ j ≤ 1000000 ∧ i.natAbs < 2 ^ 64) : oZ .pow (.int i) (.int j) kz = kz (.d (.int (i ^ j.toNat))) := by show Option.bind (if _ then _ else none) _ = _; rw [if_pos h]; rfl
theorem oZ_eqI {i j : Int} : oZ .eq (.int i) (.int j) kz = kz (.d (.bool (decide (i = j)))) := by
  show kz (.d (.bool (i == j))) = _
  congr
theorem oZ_neI {i j : Int} : oZ .ne (.int i) (.int j) kz = kz (.d (.bool (!decide (i = j)))) := by
  show kz (.d (.bool (!(i == j)))) = _
  congr
theorem oZ_eq {d e : D} (h : SeqAt.shaped d = true) (h2 : SeqAt.shaped e = true) : oZ .eq d e kz = kz (.d (.bool (PyData.eqv d e))) := by
  have : op2 .eq d e = some (.d (.bool (PyData.eqv d e))) := by
    cases d <;> first | exact if_pos (c := SeqAt.shaped _ = true ∧ SeqAt.shaped _ = true) ⟨h, h2⟩ | (cases e <;> first | rfl | exact if_pos (c := SeqAt.shaped _ = true ∧ SeqAt.shaped _ = true) ⟨h, h2⟩)
  unfold oZ
  rw [this]; rfl
theorem oZ_eqS {i j : Str} : oZ .eq (.str i) (.str j) kz = kz (.d (.bool (i == j))) := rfl
theorem oZ_ne {d e : D} (h : SeqAt.shaped d = true) (h2 : SeqAt.shaped e = true) : oZ .ne d e kz = kz (.d (.bool (!PyData.eqv d e))) := by
  have : op2 .ne d e = some (.d (.bool (!PyData.eqv d e))) := by
    cases d <;> first | exact if_pos (c := SeqAt.shaped _ = true ∧ SeqAt.shaped _ = true) ⟨h, h2⟩ | (cases e <;> first | rfl | exact if_pos (c := SeqAt.shaped _ = true ∧ SeqAt.shaped _ = true) ⟨h, h2⟩)
  unfold oZ
  rw [this]; rfl
theorem oZ_neS {i j : Str} : oZ .ne (.str i) (.str j) kz = kz (.d (.bool (!(i == j)))) := rfl
theorem oZ_lt {i j : Int} : oZ .lt (.int i) (.int j) kz = kz (.d (.bool (decide (i < j)))) := rfl
theorem oZ_le {i j : Int} : oZ .le (.int i) (.int j) kz = kz (.d (.bool (decide (i ≤ j)))) := rfl
theorem oZ_gt {i j : Int} : oZ .gt (.int i) (.int j) kz = kz (.d (.bool (decide (j < i)))) := rfl
theorem oZ_ge {i j : Int} : oZ .ge (.int i) (.int j) kz = kz (.d (.bool (decide (j ≤ i)))) := rfl
theorem oZ_inL {d : D} {ds : List D} (h : SeqAt.shaped d = true) (h2 : SeqAt.shaped (.list ds) = true) : oZ .isIn d (.list ds) kz = kz (.d (.bool (inD d ds))) := by show Option.bind (if _ then _ else none) _ = _; rw [if_pos ⟨h, h2⟩]; rfl
theorem oZ_inT {d : D} {ds : List D} (h : flatD d = true) (h2 : ds.all flatD = true) : oZ .isIn d (.tuple ds) kz = kz (.d (.bool (inD d ds))) := by show Option.bind (if _ then _ else none) _ = _; rw [if_pos ⟨h, h2⟩]; rfl
theorem oZ_ninL {d : D} {ds : List D} (h : SeqAt.shaped d = true) (h2 : SeqAt.shaped (.list ds) = true) : oZ .notIn d (.list ds) kz = kz (.d (.bool (!inD d ds))) := by show Option.bind (if _ then _ else none) _ = _; rw [if_pos ⟨h, h2⟩]; rfl
theorem oZ_ninT {d : D} {ds : List D} (h : flatD d = true) (h2 : ds.all flatD = true) : oZ .notIn d (.tuple ds) kz = kz (.d (.bool (!inD d ds))) := by show Option.bind (if _ then _ else none) _ = _; rw [if_pos ⟨h, h2⟩]; rfl
theorem oZ_ixL {ds : List D} {i : Int} : oZ .ix (.list ds) (.int i) kz = aI ds i fun d => kz (.d d) := by
  show Option.bind ((atI ds i).map Rz.d) kz = (atI ds i).bind fun d => kz (.d d)
  rw [Option.bind_map]; rfl
theorem oZ_ixT {ds : List D} {i : Int} : oZ .ix (.tuple ds) (.int i) kz = aI ds i fun d => kz (.d d) := by
  show Option.bind ((atI ds i).map Rz.d) kz = (atI ds i).bind fun d => kz (.d d)
  rw [Option.bind_map]; rfl
theorem aI_0 {d : D} {ds : List D} : aI (d :: ds) 0 kd = kd d := by
  unfold aI atI ixN
  simp
theorem aI_1 {a d : D} {ds : List D} : aI (a :: d :: ds) 1 kd = kd d := by
  unfold aI
  rw [atI_in (by omega) (by simp only [List.length_cons]; omega)]; rfl
theorem aI_2 {a b d : D} {ds : List D} : aI (a :: b :: d :: ds) 2 kd = kd d := by
  unfold aI
  rw [atI_in (by omega) (by simp only [List.length_cons]; omega)]; rfl
theorem aI_in {ds : List D} {i : Int} (h0 : 0 ≤ i) (h1 : i < ds.length) : aI ds i kd = kd (nthD ds i.toNat) := by
  unfold aI
  rw [atI_in h0 h1]; rfl
theorem aI_at {ds : List D} {i : Int} {d : D} (h : atI ds i = some d) : aI ds i kd = kd d := by
  unfold aI
  rw [h]; rfl
theorem nI_in {n : Nat} {i : Int} (h0 : 0 ≤ i) (h1 : i < n) : nI n i kn = kn i.toNat := by
  unfold nI ixN
  rw [if_pos h0, if_pos h1]; rfl
theorem nI_0 {n : Nat} (h : 0 < n) : nI n 0 kn = kn 0 := nI_in (i := 0) (by omega) (by omega)
theorem nI_1 {n : Nat} (h : 1 < n) : nI n 1 kn = kn 1 := nI_in (i := 1) (by omega) (by omega)
/-! rows: built-in functions -/
theorem cZ_lenL {ds : List D} : cZ .len [.list ds] kz = kz (.d (.int ds.length)) := rfl
theorem cZ_lenT {ds : List D} : cZ .len [.tuple ds] kz = kz (.d (.int ds.length)) := rfl
theorem cZ_lenLm {α : Type} {f : α → D} {xs : List α} : cZ .len [.list (xs.map f)] kz = kz (.d (.int xs.length)) := by rw [cZ_lenL, List.length_map]
theorem cZ_lenTm {α : Type} {f : α → D} {xs : List α} : cZ .len [.tuple (xs.map f)] kz = kz (.d (.int xs.length)) := by rw [cZ_lenT, List.length_map]
theorem cZ_abs {i : Int} : cZ .abs [.int i] kz = kz (.d (.int (if i < 0 then -i else i))) := rfl
theorem cZ_int {i : Int} : cZ .int [.int i] kz = kz (.d (.int i)) := rfl
theorem cZ_intB {i : Bool} : cZ .int [.bool i] kz = kz (.d (.int (if i then 1 else 0))) := rfl
theorem cZ_tup {ds : List D} : cZ .tuple [.list ds] kz = kz (.d (.tuple ds)) := rfl
theorem cZ_lstL {ds : List D} : cZ .list [.list ds] kz = kz (.n ds) := rfl
theorem cZ_lstT {ds : List D} : cZ .list [.tuple ds] kz = kz (.n ds) := rfl
theorem cZ_all {bs : List Bool} : cZ .all [.list (bs.map .bool)] kz = kz (.d (.bool (bs.all id))) := by show Option.bind (Option.map _ (boolsOf _)) _ = _; rw [boolsOf_map]; rfl
theorem cZ_any {bs : List Bool} : cZ .any [.list (bs.map .bool)] kz = kz (.d (.bool (bs.any id))) := by show Option.bind (Option.map _ (boolsOf _)) _ = _; rw [boolsOf_map]; rfl
theorem cZ_max2 {i j : Int} : cZ .max [.int i, .int j] kz = kz (.d (.int (if j > i then j else i))) := rfl
theorem cZ_min2 {i j : Int} : cZ .min [.int i, .int j] kz = kz (.d (.int (if j < i then j else i))) := rfl
theorem cZ_sum {ns : List Int} : cZ .sum [.list (ns.map .int)] kz = kz (.d (.int ns.sum)) := by show Option.bind (Option.map _ (intsOf _)) _ = _; rw [intsOf_map]; rfl
theorem cZ_sorted {ns : List Int} : cZ .sorted [.list (ns.map .int)] kz = kz (.n ((sortI ns).map .int)) := by show Option.bind (Option.map _ (intsOf _)) _ = _; rw [intsOf_map]; rfl
theorem cZ_reprI {i : Int} (h : i.natAbs.log2 < 1920) : cZ .repr [.int i] kz = kz (.d (.str (toString i))) := by show Option.bind (if _ then _ else none) _ = _; rw [if_pos h]; rfl
theorem cZ_reprL {ds : List D} (h1 : (PyData.list ds).showable = true) (h2 : (PyData.list ds).hasDict = false) (h3 : (PyData.list ds).depth ≤ 64) (h4 : (PyData.list ds).shown.length ≤ sizeLine) : cZ .repr [.list ds] kz = kz (.d (.str (PyData.list ds).shown)) := by
  show Option.bind (if _ then _ else none) _ = _; rw [if_pos ⟨h1, h2, h3, h4⟩]; rfl
theorem cZ_reprT {ds : List D} (h1 : (PyData.tuple ds).showable = true) (h2 : (PyData.tuple ds).hasDict = false) (h3 : (PyData.tuple ds).depth ≤ 64) (h4 : (PyData.tuple ds).shown.length ≤ sizeLine) : cZ .repr [.tuple ds] kz = kz (.d (.str (PyData.tuple ds).shown)) := by
  show Option.bind (if _ then _ else none) _ = _; rw [if_pos ⟨h1, h2, h3, h4⟩]; rfl
end
end EV

namespace EV
open PySem PySem.Spec PyProof.Rows L2 DL
section
variable {β : Type} {ps : List Nat} {ρ ρ' : Rho} {k : Vl → Rho → Option β} {kA : List DL.Arg → Rho → Option β} {kT : Bool → Rho → Option β} {kP : Option Int → Rho → Option β} {kI : List D → Rho → Option β} {kn : Rho → Option β} {ka : Out → Option β} {kO : Out → Option β}
theorem bm {α γ : Type} {o : Option α} {f : α → γ} {g : γ → Option β} : (o.map f).bind g = o.bind fun a => g (f a) := by cases o <;> rfl
/-! rows: expressions -/
theorem xE_int {i : Int} : xE ps (.int i) ρ k = k (.d (.int i)) ρ := rfl
theorem xE_bl {i : Bool} : xE ps (.bl i) ρ k = k (.d (.bool i)) ρ := rfl
theorem xE_str {i : Str} : xE ps (.str i) ρ k = k (.d (.str i)) ρ := rfl
theorem xE_non : xE ps .non ρ k = k (.d .none) ρ := rfl
theorem xE_var {i : Nat} : xE ps (.var i) ρ k = gE ρ i fun e => eV e i fun v => k v ρ := by
  unfold xE gE eV
  simp only [evE, varV]
  cases h : ρ[i]? with
  | none => rfl
  | some e =>
    cases e with
    | own w => cases w <;> rfl
    | _ => rfl
theorem xE_op {o : Op} {a b : Ex} : xE ps (.op o a b) ρ k = xE ps a ρ fun v ρ1 => aV v fun A => xE ps b ρ1 fun w ρ2 => aV w fun B => nA A ρ2 fun d => nA B ρ2 fun e => oZ o d e fun z => vZ z fun v => k v ρ2 := by
  simp only [xE, aV, nA, oZ, vZ, evE, Option.bind_assoc, bm]
theorem xE_neg {a : Ex} : xE ps (.neg a) ρ k = xE ps a ρ fun v ρ1 => aV v fun A => nA A ρ1 fun d => iD d fun i => k (.d (.int (-i))) ρ1 := by
  simp only [xE, aV, nA, iD, evE, Option.bind_assoc, bm]
theorem xE_nt {a : Ex} : xE ps (.nt a) ρ k = xE ps a ρ fun v ρ1 => dV v fun d => bD d fun b => k (.d (.bool (!b))) ρ1 := by
  simp only [xE, dV, bD, evE, Option.bind_assoc, bm]
theorem iteb {α : Type} {c : Prop} [Decidable c] {x y : Option α} {f : α → Option β} : (if c then x else y).bind f = if c then x.bind f else y.bind f := by split <;> rfl
theorem xE_an {a b : Ex} : xE ps (.an a b) ρ k = xE ps a ρ fun v ρ1 => dV v fun d => bD d fun x => if x = true then xE ps b ρ1 fun w ρ2 => dV w fun e => bD e fun y => k (.d (.bool y)) ρ2 else k (.d (.bool false)) ρ1 := by
  simp only [xE, dV, bD, evE, Option.bind_assoc, bm, iteb]
  rfl
theorem xE_or {a b : Ex} : xE ps (.or a b) ρ k = xE ps a ρ fun v ρ1 => dV v fun d => bD d fun x => if x = true then k (.d (.bool true)) ρ1 else xE ps b ρ1 fun w ρ2 => dV w fun e => bD e fun y => k (.d (.bool y)) ρ2 := by
  simp only [xE, dV, bD, evE, Option.bind_assoc, bm, iteb]
  rfl
theorem xE_ch {o o' : Op} {a b c : Ex} : xE ps (.ch o o' a b c) ρ k = xE ps a ρ fun v ρ1 => aV v fun A => xE ps b ρ1 fun w ρ2 => aV w fun B => nA A ρ2 fun d => nA B ρ2 fun e => oZ o d e fun z => zD z fun z => bD z fun x =>
    if x = true then xE ps c ρ2 fun u ρ3 => aV u fun C => nA B ρ3 fun e => nA C ρ3 fun f => oZ o' e f fun z => zD z fun z => bD z fun y => k (.d (.bool y)) ρ3 else k (.d (.bool false)) ρ2 := by
  simp only [xE, aV, nA, oZ, zD, bD, evE, Option.bind_assoc, bm, iteb]
  rfl
theorem xE_isN {a : Ex} : xE ps (.isN a) ρ k = xE ps a ρ fun v ρ1 => dV v fun d => k (.d (.bool (!notNone d))) ρ1 := by
  simp only [xE, dV, evE, Option.bind_assoc, bm]
theorem xE_notN {a : Ex} : xE ps (.notN a) ρ k = xE ps a ρ fun v ρ1 => dV v fun d => k (.d (.bool (notNone d))) ρ1 := by
  simp only [xE, dV, evE, Option.bind_assoc, bm]
theorem xE_ife {t : Tx} {a b : Ex} : xE ps (.ife t a b) ρ k = xT ps t ρ fun x ρ1 => if x = true then xE ps a ρ1 k else xE ps b ρ1 k := by
  simp only [xE, xT, evE, Option.bind_assoc, bm, iteb]
theorem xE_tup {as : Exs} : xE ps (.tup as) ρ k = xA ps as ρ fun As ρ1 => dA As fun ds => if ds.length ≤ sizeLine then k (.d (.tuple ds)) ρ1 else none := by
  simp only [xE, xA, dA, evE, Option.bind_assoc, bm, iteb]
  rfl
theorem xE_lst {as : Exs} : xE ps (.lst as) ρ k = xA ps as ρ fun As ρ1 => dA As fun ds => if ds.length ≤ sizeLine then k (.n ds) ρ1 else none := by
  simp only [xE, xA, dA, evE, Option.bind_assoc, bm, iteb]
  rfl
theorem xE_sl {a : Ex} {lo hi : Px} : xE ps (.sl a lo hi) ρ k = xE ps a ρ fun v ρ1 => aV v fun A => xP ps lo ρ1 fun l ρ2 => xP ps hi ρ2 fun h ρ3 => nA A ρ3 fun d => (sl1 d l h).bind fun z => vZ z fun v => k v ρ3 := by
  simp only [xE, xP, aV, nA, vZ, evE, Option.bind_assoc, bm]
theorem sl1_T {ds : List D} {lo hi : Option Int} {kz : Rz → Option β} : (sl1 (.tuple ds) lo hi).bind kz = kz (.d (.tuple (cutD ds lo hi))) := rfl
theorem sl1_L {ds : List D} {lo hi : Option Int} {kz : Rz → Option β} : (sl1 (.list ds) lo hi).bind kz = kz (.n (cutD ds lo hi)) := rfl
theorem xE_cb {f : Bf} {as : Exs} : xE ps (.cb f as) ρ k = xA ps as ρ fun As ρ1 => dN As ρ1 fun ds => cZ f ds fun z => vZ z fun v => k v ρ1 := by
  simp only [xE, xA, dN, cZ, vZ, evE, Option.bind_assoc, bm]
theorem xE_isa {a : Ex} {T : String} : xE ps (.isa a T) ρ k = xE ps a ρ fun v ρ1 => aV v fun A => nA A ρ1 fun d => (kitB (tyN d) T).bind fun b => k (.d (.bool b)) ρ1 := by
  simp only [xE, aV, nA, evE, Option.bind_assoc, bm]
theorem xE_call {f : List D → Option RetV} {as : Exs} : xE ps (.call f as) ρ k = xA ps as ρ fun As ρ1 => dA As fun ds => cK f ds fun v => k v ρ1 := by
  simp only [xE, xA, dA, cK, evE, Option.bind_assoc, bm]
theorem xE_callS {f : List D → List D → Option (RetV × List D)} {i : Nat} {as : Exs} : xE ps (.callS f i as) ρ k = gE ρ i fun e => eL e fun _ => xA ps as ρ fun As ρ1 => dA As fun ds => gE ρ1 i fun e => eL e fun st => cKS f st ds fun v st' => sR ρ1 i (.own (.lst st')) fun ρ2 => k v ρ2 := by
  have g : ∀ (ρ : Rho) (f : List D → Option β), (ownL ρ i).bind f = gE ρ i fun e => eL e f := fun ρ f => by
    unfold ownL gE eL
    cases h : ρ[i]? with
    | none => rfl
    | some e =>
      cases e with
      | own w => cases w <;> rfl
      | _ => rfl
  simp only [xE, xA, dA, cKS, evE, Option.bind_assoc, bm]
  rw [g]
  congr 1
  funext e
  congr 1
  funext s0
  congr 1
  funext p
  congr 1
  funext ds
  unfold ownL gE eL
  cases h : p.2[i]? with
  | none => rfl
  | some e =>
    cases e with
    | own w =>
      cases w with
      | lst st =>
        have hl : i < p.2.length := (List.getElem?_eq_some_iff.mp h).1
        show (f st ds).bind _ = (f st ds).bind _
        congr 1
        funext r
        unfold sR
        rw [if_pos hl]
      | _ => rfl
    | _ => rfl
def sN (ρ : Rho) (j : Nat) (kn : Rho → Option β) : Option β := kn (ρ.set j .no)
theorem sN_0 {e : Ent} : sN (e :: ρ) 0 kn = kn (.no :: ρ) := rfl
theorem sN_s {e : Ent} {j : Nat} : sN (e :: ρ) (j + 1) kn = sN ρ j fun ρ' => kn (e :: ρ') := rfl
theorem xE_lc {it : Ix} {j : Nat} {t : Tx} {e : Ex} : xE ps (.lc it j t e) ρ k = xI ps it ρ fun l ρ1 => if l.length < sizeLine ∧ j ∉ ps then sN ρ1 j fun ρ2 => lK (ltn ps j t e) l ρ2 fun ds ρ3 => k (.n ds) ρ3 else none := by
  simp only [xE, xI, lK, evE, Option.bind_assoc, bm, iteb]
  rfl
theorem xE_lrg {a : Ex} : xE ps (.lrg a) ρ k = xE ps a ρ fun v ρ1 => dV v fun d => iD d fun n => if 0 ≤ n ∧ n ≤ 1000000 then k (.n (rgD 0 n.toNat)) ρ1 else none := by
  simp only [xE, dV, iD, evE, Option.bind_assoc, bm, iteb]
  rfl
theorem xE_trg {a : Ex} : xE ps (.trg a) ρ k = xE ps a ρ fun v ρ1 => dV v fun d => iD d fun n => if 0 ≤ n ∧ n ≤ 1000000 then k (.d (.tuple (rgD 0 n.toNat))) ρ1 else none := by
  simp only [xE, dV, iD, evE, Option.bind_assoc, bm, iteb]
  rfl
theorem gL {ρ : Rho} {i : Nat} {f : List D → Option β} : (ownL ρ i).bind f = gE ρ i fun e => eL e f := by
    unfold ownL gE eL
    cases h : ρ[i]? with
    | none => rfl
    | some e =>
      cases e with
      | own w => cases w <;> rfl
      | _ => rfl
theorem gD {ρ : Rho} {i : Nat} {f : List (Key × D) → Option β} : (ownD ρ i).bind f = gE ρ i fun e => eD e f := by
    unfold ownD gE eD
    cases h : ρ[i]? with
    | none => rfl
    | some e =>
      cases e with
      | own w => cases w <;> rfl
      | _ => rfl
theorem gLs {ρ : Rho} {i : Nat} {f : List D → Rho → Option β} {z : List D → Ent} : ((ownL ρ i).bind fun ds => f ds (ρ.set i (z ds))) = gE ρ i fun e => eL e fun ds => sR ρ i (z ds) fun ρ' => f ds ρ' := by
  unfold ownL gE eL sR
  cases h : ρ[i]? with
  | none => rfl
  | some e =>
    have hl : i < ρ.length := (List.getElem?_eq_some_iff.mp h).1
    cases e with
    | own w => cases w <;> simp [hl]
    | _ => rfl
theorem gDs {ρ : Rho} {i : Nat} {f : List (Key × D) → Rho → Option β} {z : List (Key × D) → Ent} : ((ownD ρ i).bind fun ds => f ds (ρ.set i (z ds))) = gE ρ i fun e => eD e fun ds => sR ρ i (z ds) fun ρ' => f ds ρ' := by
  unfold ownD gE eD sR
  cases h : ρ[i]? with
  | none => rfl
  | some e =>
    have hl : i < ρ.length := (List.getElem?_eq_some_iff.mp h).1
    cases e with
    | own w => cases w <;> simp [hl]
    | _ => rfl
def pK (ds : List D) (j : Nat) (kd : D → Option β) : Option β := (ds[j]?).bind kd
theorem sRp {i : Nat} {e : Ent} (h : i < ρ.length) : sR ρ i e kn = kn (ρ.set i e) := by unfold sR; rw [if_pos h]
theorem ownLt {ds : List D} {i : Nat} (h : ownL ρ i = some ds) : i < ρ.length := (List.getElem?_eq_some_iff.mp (ownL_eq h)).1
theorem ownDt {ds : List (Key × D)} {i : Nat} (h : ownD ρ i = some ds) : i < ρ.length := (List.getElem?_eq_some_iff.mp (ownD_eq h)).1
theorem bindE {α : Type} {o : Option α} {f f' : α → Option β} (h : ∀ a, o = some a → f a = f' a) : o.bind f = o.bind f' := by
  cases o with
  | none => rfl
  | some a => exact h a rfl
theorem xE_pop {i : Nat} {a : Ex} : xE ps (.pop i a) ρ k = gE ρ i fun e => eL e fun _ => xE ps a ρ fun v ρ1 => dV v fun d => iD d fun n => gE ρ1 i fun e => eL e fun ds => if -(2 ^ 63) ≤ n ∧ n < 2 ^ 63 then nI ds.length n fun j => pK ds j fun d => sR ρ1 i (.own (.lst (ds.eraseIdx j))) fun ρ2 => k (.d d) ρ2 else none := by
  simp only [xE, dV, iD, nI, pK, ← gL, evE, Option.bind_assoc, bm]
  refine bindE fun _ _ => bindE fun p _ => bindE fun _ _ => bindE fun _ _ => bindE fun ds h => ?_
  split
  · simp only [Option.bind_assoc, bm]
    refine bindE fun _ _ => bindE fun _ _ => ?_
    rw [sRp (ownLt h)]
  · rfl
def ixK (e : D) (ds : List D) (k : Nat → Option β) : Option β := (idxOf e ds).bind k
def ixS (e : Str) (ds : List D) (k : Nat → Option β) : Option β := (strsOf ds).bind fun xs => (idxS e xs).bind k
theorem xE_idxL {a b : Ex} : xE ps (.idxL a b) ρ k = xE ps a ρ fun v ρ1 => dV v fun d => xE ps b ρ1 fun w ρ2 => aV w fun B => nA B ρ2 fun e => lD d fun ds => if SeqAt.shaped (.list ds) = true ∧ SeqAt.shaped e = true then ixK e ds fun j => k (.d (.int (j : Nat))) ρ2 else none := by
  simp only [xE, dV, aV, nA, ixK, lD, evE, Option.bind_assoc, bm]
  refine bindE fun _ _ => bindE fun d _ => bindE fun _ _ => bindE fun _ _ => bindE fun e h => ?_
  cases d <;> try rfl
  rw [iteb]
  congr 1
  rw [bm]
def sT (d : D) (k : Str → Option β) : Option β := match d with | .str x => k x | _ => none
theorem sT_s {x : Str} {ks : Str → Option β} : sT (.str x) ks = ks x := rfl
theorem xE_idxT {a b : Ex} : xE ps (.idxT a b) ρ k = xE ps a ρ fun v ρ1 => dV v fun d => xE ps b ρ1 fun w ρ2 => aV w fun B => nA B ρ2 fun e => tD d fun ds => sT e fun x => ixS x ds fun j => k (.d (.int (j : Nat))) ρ2 := by
  simp only [xE, dV, aV, nA, ixS, tD, sT, evE, Option.bind_assoc, bm]
  refine bindE fun _ _ => bindE fun d _ => bindE fun _ _ => bindE fun _ _ => bindE fun e h => ?_
  cases d <;> try rfl
  cases e <;> try rfl
  simp only [Option.bind_assoc, bm]
def vK (kvs : List (Key × D)) (q : Key) (kd : D → Option β) : Option β := (valD kvs q).bind kd
theorem vK_s {kvs : List (Key × D)} {q : Key} {kd : D → Option β} {d : D} (h : valD kvs q = some d) : vK kvs q kd = kd d := by unfold vK; rw [h]; rfl
theorem xE_dget {i : Nat} {a : Ex} : xE ps (.dget i a) ρ k = gE ρ i fun e => eD e fun _ => xE ps a ρ fun v ρ1 => dV v fun d => kD d fun q => gE ρ1 i fun e => eD e fun kvs => vK kvs q fun d => k (.d d) ρ1 := by
  simp only [xE, dV, kD, vK, ← gD, evE, Option.bind_assoc, bm]
theorem xE_din {i : Nat} {a : Ex} : xE ps (.din a i) ρ k = xE ps a ρ fun v ρ1 => dV v fun d => kD d fun q => gE ρ1 i fun e => eD e fun kvs => k (.d (.bool (valD kvs q).isSome)) ρ1 := by
  simp only [xE, dV, kD, ← gD, evE, Option.bind_assoc, bm]
theorem xE_dnin {i : Nat} {a : Ex} : xE ps (.dnin a i) ρ k = xE ps a ρ fun v ρ1 => dV v fun d => kD d fun q => gE ρ1 i fun e => eD e fun kvs => k (.d (.bool (!(valD kvs q).isSome))) ρ1 := by
  simp only [xE, dV, kD, ← gD, evE, Option.bind_assoc, bm]
theorem xE_dset {i : Nat} {a b : Ex} : xE ps (.dset i a b) ρ k = gE ρ i fun e => eD e fun _ => xE ps a ρ fun v ρ1 => dV v fun d => kD d fun q => xE ps b ρ1 fun w ρ2 => dV w fun x => gE ρ2 i fun e => eD e fun kvs =>
    if kvs.length < sizeLine then sR ρ2 i (.own (.dK (if (valD kvs q).isSome then kvs else putD kvs q x))) fun ρ3 => k (.d ((valD kvs q).getD x)) ρ3 else none := by
  simp only [xE, dV, kD, ← gD, evE, Option.bind_assoc, bm]
  refine bindE fun _ _ => bindE fun _ _ => bindE fun _ _ => bindE fun _ _ => bindE fun p _ => bindE fun _ _ => bindE fun kvs h => ?_
  split
  · rw [sRp (ownDt h)]; rfl
  · rfl
theorem xA_nil : xA ps .nil ρ kA = kA [] ρ := rfl
theorem xA_cons {a : Ex} {as : Exs} : xA ps (.cons a as) ρ kA = xE ps a ρ fun v ρ1 => aV v fun A => xA ps as ρ1 fun As ρ2 => kA (A :: As) ρ2 := by
  simp only [xE, xA, aV, evA, Option.bind_assoc, bm]
theorem xT_te {a : Ex} : xT ps (.te a) ρ kT = xE ps a ρ fun v ρ1 => dV v fun d => bD d fun b => kT b ρ1 := by
  simp only [xE, xT, dV, bD, evT, Option.bind_assoc, bm]
theorem xT_tb {a : Ex} : xT ps (.tb a) ρ kT = xE ps a ρ fun v ρ1 => dV v fun d => bD d fun b => kT b ρ1 := by
  simp only [xE, xT, dV, bD, evT, Option.bind_assoc, bm]
theorem xT_nt {t : Tx} : xT ps (.nt t) ρ kT = xT ps t ρ fun b ρ1 => kT (!b) ρ1 := by
  simp only [xT, evT, Option.bind_assoc, bm]
theorem xT_an {t u : Tx} : xT ps (.an t u) ρ kT = xT ps t ρ fun b ρ1 => if b = true then xT ps u ρ1 kT else kT false ρ1 := by
  simp only [xT, evT, Option.bind_assoc, bm, iteb]
  rfl
theorem xT_or {t u : Tx} : xT ps (.or t u) ρ kT = xT ps t ρ fun b ρ1 => if b = true then kT true ρ1 else xT ps u ρ1 kT := by
  simp only [xT, evT, Option.bind_assoc, bm, iteb]
  rfl
theorem xT_yes : xT ps .yes ρ kT = kT true ρ := rfl
theorem xT_lend {t : Tx} : xT ps (.lend t) ρ kT = xT ps t (ρ.map lentE) fun b _ => kT b ρ := by
  simp only [xT, evT, Option.bind_assoc, bm]
theorem xP_no : xP ps .no ρ kP = kP none ρ := rfl
theorem xP_at {a : Ex} : xP ps (.at a) ρ kP = xE ps a ρ fun v ρ1 => dV v fun d => iD d fun i => kP (some i) ρ1 := by
  simp only [xE, xP, dV, iD, evP, Option.bind_assoc, bm]
theorem xI_rng1 {a : Ex} : xI ps (.rng1 a) ρ kI = xE ps a ρ fun v ρ1 => dV v fun d => iD d fun n => if -(2 ^ 62) ≤ n ∧ n < 2 ^ 62 then kI (rgD 0 n.toNat) ρ1 else none := by
  simp only [xE, xI, dV, iD, evI, Option.bind_assoc, bm, iteb]
  rfl
theorem xI_rng2 {a b : Ex} : xI ps (.rng2 a b) ρ kI = xE ps a ρ fun v ρ1 => dV v fun d => iD d fun m => xE ps b ρ1 fun w ρ2 => dV w fun e => iD e fun n => if (-(2 ^ 62) ≤ m ∧ m < 2 ^ 62) ∧ -(2 ^ 62) ≤ n ∧ n < 2 ^ 62 then kI (rgD m (n - m).toNat) ρ2 else none := by
  simp only [xE, xI, dV, iD, evI, Option.bind_assoc, bm, iteb]
  rfl
theorem xI_u {a : Ex} : xI ps (.u a) ρ kI = xE ps a ρ fun v ρ1 => dV v fun d => sD d fun ds => kI ds ρ1 := by
  simp only [xE, xI, dV, sD, evI, Option.bind_assoc, bm]
  refine bindE fun p _ => bindE fun d _ => ?_
  cases d <;> rfl
theorem xI_en {a : Ex} : xI ps (.en a) ρ kI = xE ps a ρ fun v ρ1 => dV v fun d => tD d fun ds => kI (enD ds) ρ1 := by
  simp only [xE, xI, dV, tD, evI, Option.bind_assoc, bm]
  refine bindE fun p _ => bindE fun d _ => ?_
  cases d <;> rfl
/-! rows: targets and statements -/
def lS (ds : List D) (j : Nat) (d : D) (kl : List D → Option β) : Option β := kl (ds.set j d)
theorem lS_0 {a d : D} {ds : List D} {kl : List D → Option β} : lS (a :: ds) 0 d kl = kl (d :: ds) := rfl
theorem lS_s {a d : D} {ds : List D} {j : Nat} {kl : List D → Option β} : lS (a :: ds) (j + 1) d kl = lS ds j d fun l => kl (a :: l) := rfl
theorem lS_m {α : Type} {f : α → D} {xs : List α} {y : α} {j : Nat} {kl : List D → Option β} : lS (xs.map f) j (f y) kl = kl ((xs.set j y).map f) := by unfold lS; rw [List.map_set]

theorem xG_nm {i : Nat} {d : D} : xG ps (.nm i) d ρ kn = sK ps ρ i (.dat d) kn := by
  simp only [xG, sK, setG, iteb]
  rfl
theorem xG_tup {n : Nat} {ts : EV.Tgs} {ds : List D} : xG ps (.tup n ts) (.tuple ds) ρ kn = if ds.length = n then xGs ps ts ds ρ kn else none := by
  simp only [xG, xGs, setG, iteb]
  rfl
theorem xGs_nil : xGs ps .nil [] ρ kn = kn ρ := rfl
theorem xGs_cons {t : EV.Tg} {ts : EV.Tgs} {d : D} {ds : List D} : xGs ps (.cons t ts) (d :: ds) ρ kn = xG ps t d ρ fun ρ1 => xGs ps ts ds ρ1 kn := by
  simp only [xG, xGs, setGs, Option.bind_assoc]
def sV (ps : List Nat) (ρ : Rho) (i : Nat) (v : Vl) (kn : Rho → Option β) : Option β := match v with
  | .d x => sK ps ρ i (.dat x) kn
  | .n ds => sK ps ρ i (.own (.lst ds)) kn
  | .w w => sK ps ρ i (.own w) kn
  | .o _ => none
theorem sV_d {i : Nat} {x : D} : sV ps ρ i (.d x) kn = sK ps ρ i (.dat x) kn := rfl
theorem sV_n {i : Nat} {x : List D} : sV ps ρ i (.n x) kn = sK ps ρ i (.own (.lst x)) kn := rfl
theorem sV_w {i : Nat} {x : Ow} : sV ps ρ i (.w x) kn = sK ps ρ i (.own x) kn := rfl
def rV (ps : List Nat) (ρ : Rho) (v : Vl) (ka : Out → Option β) : Option β := (retO ps ρ v).bind ka
theorem rV_d {x : D} : rV ps ρ (.d x) ka = ka (.rt ρ (.dat x)) := rfl
theorem rV_n {x : List D} : rV ps ρ (.n x) ka = ka (.rt ρ (.new (.lst x))) := rfl
theorem rV_w {x : Ow} : rV ps ρ (.w x) ka = ka (.rt ρ (.new x)) := rfl
theorem rV_o {i : Nat} : rV ps ρ (.o i) ka = gE ρ i fun e => eL e fun ds => sK ps ρ i .no fun ρ1 => ka (.rt ρ1 (.new (.lst ds))) := by
  unfold rV
  simp only [retO, sK, ← gL, Option.bind_assoc]
  refine bindE fun ds h => ?_
  rw [iteb]
  have := ownLt h
  by_cases hp : i ∉ ps
  · rw [if_pos hp, if_pos ⟨this, hp⟩]; rfl
  · rw [if_neg hp, if_neg (fun z => hp z.2)]; rfl
theorem xS_set {i : Nat} {e : Ex} : xS ps (.set i e) ρ kn ka = xE ps e ρ fun v ρ1 => sV ps ρ1 i v kn := by
  simp only [xS, xE, exS, Option.bind_assoc]
  refine bindE fun p _ => ?_
  obtain ⟨v, ρ1⟩ := p
  cases v <;> simp only [setV, sV, sK, iteb] <;> rfl
theorem xS_asg {e : Ex} {t : EV.Tg} : xS ps (.asg e t) ρ kn ka = xE ps e ρ fun v ρ1 => dV v fun d => xG ps t d ρ1 kn := by
  simp only [xS, xE, dV, xG, exS, Option.bind_assoc, bm]
  rfl
theorem xS_seti {i : Nat} {a e : Ex} : xS ps (.seti i a e) ρ kn ka = xE ps e ρ fun v ρ1 => dV v fun d => gE ρ1 i fun en => eL en fun _ => xE ps a ρ1 fun w ρ2 => dV w fun x => iD x fun n => gE ρ2 i fun en => eL en fun ds => nI ds.length n fun j => lS ds j d fun ds' => sR ρ2 i (.own (.lst ds')) kn := by
  simp only [xS, xE, dV, iD, nI, ← gL, exS, Option.bind_assoc, bm]
  refine bindE fun p _ => bindE fun d _ => bindE fun _ _ => bindE fun q _ => bindE fun _ _ => bindE fun _ _ => bindE fun ds h => bindE fun j _ => ?_
  show _ = sR q.2 i (.own (.lst (ds.set j d))) kn
  rw [sRp (ownLt h)]; rfl
theorem xS_app {i : Nat} {e : Ex} : xS ps (.app i e) ρ kn ka = gE ρ i fun en => eL en fun _ => xE ps e ρ fun v ρ1 => dV v fun d => gE ρ1 i fun en => eL en fun ds => if ds.length < sizeLine then sR ρ1 i (.own (.lst (ds ++ [d]))) kn else none := by
  simp only [xS, xE, dV, ← gL, exS, Option.bind_assoc, bm]
  refine bindE fun _ _ => bindE fun p _ => bindE fun d _ => bindE fun ds h => ?_
  rw [iteb, sRp (ownLt h)]; rfl
theorem xS_newD {i : Nat} : xS ps (.newD i) ρ kn ka = sK ps ρ i (.own (.dK [])) kn := by
  simp only [xS, sK, exS, iteb]
  rfl
theorem xS_dput {i : Nat} {a e : Ex} : xS ps (.dput i a e) ρ kn ka = xE ps e ρ fun v ρ1 => dV v fun d => gE ρ1 i fun en => eD en fun _ => xE ps a ρ1 fun w ρ2 => dV w fun x => kD x fun q => gE ρ2 i fun en => eD en fun kvs => if kvs.length < sizeLine then sR ρ2 i (.own (.dK (putD kvs q d))) kn else none := by
  simp only [xS, xE, dV, kD, ← gD, exS, Option.bind_assoc, bm]
  refine bindE fun p _ => bindE fun d _ => bindE fun _ _ => bindE fun q _ => bindE fun _ _ => bindE fun _ _ => bindE fun ds h => ?_
  rw [iteb, sRp (ownDt h)]; rfl
theorem xS_drop {e : Ex} : xS ps (.drop e) ρ kn ka = xE ps e ρ fun v ρ1 => dV v fun _ => kn ρ1 := by
  simp only [xS, xE, dV, exS, Option.bind_assoc, bm]
  rfl
theorem xS_ret {e : Ex} : xS ps (.ret e) ρ kn ka = xE ps e ρ fun v ρ1 => rV ps ρ1 v ka := by
  simp only [xS, xE, rV, exS, Option.bind_assoc]
  refine bindE fun p _ => ?_
  obtain ⟨v, ρ1⟩ := p
  cases v with
  | d x => rfl
  | n x => rfl
  | w x => rfl
  | o i =>
    simp only [retO, Option.bind_assoc]
    refine bindE fun ds h => ?_
    rw [iteb, iteb]
    rfl
theorem xS_retN : xS ps .retN ρ kn ka = ka (.rt ρ (.dat .none)) := rfl
theorem xS_iff {t : Tx} {a b : EV.St} : xS ps (.iff t a b) ρ kn ka = xT ps t ρ fun x ρ1 => if x = true then xS ps a ρ1 kn ka else xS ps b ρ1 kn ka := by
  simp only [xS, xT, exS, Option.bind_assoc, iteb]
theorem xS_for {it : Ix} {t : EV.Tg} {b : EV.St} : xS ps (.for it t b) ρ kn ka = xI ps it ρ fun l ρ1 => fK (trn ps t b) l ρ1 fun o => kS o kn ka := by
  simp only [xS, xI, fK, exS, Option.bind_assoc]
  rfl
theorem xS_wh {n : Nat} {t : Tx} {b : EV.St} : xS ps (.wh n t b) ρ kn ka = wK t b ps n ρ fun o => kS o kn ka := by
  simp only [xS, wK, exS]
theorem xS_brk : xS ps .brk ρ kn ka = ka (.bk ρ) := rfl
theorem xS_cont : xS ps .cont ρ kn ka = ka (.ct ρ) := rfl
theorem xS_nx : xS ps .nx ρ kn ka = kn ρ := rfl
theorem xS_seq {a b : EV.St} : xS ps (.seq a b) ρ kn ka = xS ps a ρ (fun ρ1 => xS ps b ρ1 kn ka) ka := by
  simp only [xS, exS, Option.bind_assoc]
  refine bindE fun o _ => ?_
  cases o <;> rfl
def fzK (i : Nat) (e : Ent) (ρ : Rho) (ps : List Nat) (s : EV.St) (kn : Rho → Option β) (ka : Out → Option β) : Option β := match e with
  | .own (.lst ds) => sK ps ρ i (.dat (.list ds)) fun ρ1 => xS ps s ρ1 kn ka
  | _ => xS ps s ρ kn ka
theorem fzK_l {i : Nat} {ds : List D} {s : EV.St} : fzK i (.own (.lst ds)) ρ ps s kn ka = sK ps ρ i (.dat (.list ds)) fun ρ1 => xS ps s ρ1 kn ka := rfl
theorem fzK_d {i : Nat} {d : D} {s : EV.St} : fzK i (.dat d) ρ ps s kn ka = xS ps s ρ kn ka := rfl
theorem fzK_n {i : Nat} {s : EV.St} : fzK i .no ρ ps s kn ka = xS ps s ρ kn ka := rfl
theorem fzK_D {i : Nat} {s : EV.St} {kvs : List (Key × D)} : fzK i (.own (.dK kvs)) ρ ps s kn ka = xS ps s ρ kn ka := rfl
theorem xS_fz {i : Nat} {s : EV.St} (hi : i < ρ.length) : xS ps (.fz i s) ρ kn ka = gE ρ i fun e => fzK i e ρ ps s kn ka := by
  have h : ρ[i]? = some ρ[i] := List.getElem?_eq_getElem hi
  unfold gE
  rw [h]
  unfold xS
  simp only [exS, h]
  show _ = fzK i ρ[i] ρ ps s kn ka
  cases ρ[i] with
  | own w =>
    cases w with
    | lst ds =>
      show Option.bind (if i ∈ ps then none else exS ps s (List.set ρ i (.dat (.list ds)))) (fun o => kS o kn ka) = sK ps ρ i (.dat (.list ds)) fun ρ1 => (exS ps s ρ1).bind fun o => kS o kn ka
      unfold sK
      by_cases hp : i ∈ ps
      · rw [if_pos hp, if_neg (fun z => z.2 hp)]; try rfl
      · rw [if_neg hp, if_pos ⟨hi, hp⟩]; try rfl
    | _ => rfl
  | _ => rfl
theorem kS_nx : kS (.nx ρ) kn ka = kn ρ := rfl
theorem kS_rt {r : RetV} : kS (.rt ρ r) kn ka = ka (.rt ρ r) := rfl
theorem kS_bk : kS (.bk ρ) kn ka = ka (.bk ρ) := rfl
theorem kS_ct : kS (.ct ρ) kn ka = ka (.ct ρ) := rfl
theorem cK_s {f : List D → Option RetV} {ds : List D} {r : RetV} {kv : Vl → Option β} (h : f ds = some r) : cK f ds kv = kv (rvV r) := by unfold cK; rw [h]; rfl
theorem cKS_s {f : List D → List D → Option (RetV × List D)} {st st' ds : List D} {r : RetV} {kv : Vl → List D → Option β} (h : f st ds = some (r, st')) : cKS f st ds kv = kv (rvV r) st' := by unfold cKS; rw [h]; rfl
theorem fK_s {f : D → Rho → Option Out} {l : List D} {o : Out} (h : forGo f l ρ = some o) : fK f l ρ kO = kO o := by unfold fK; rw [h]; rfl
theorem lK_s {f : D → Rho → Option (Option D × Rho)} {l ds : List D} {kl : List D → Rho → Option β} (h : lcGo f l ρ = some (ds, ρ')) : lK f l ρ kl = kl ds ρ' := by unfold lK; rw [h]; rfl
theorem wK_s {t : Tx} {b : EV.St} {n : Nat} {o : Out} (h : whGo (fun ρ' => evT ps t ρ') (fun ρ' => exS ps b ρ') n ρ = some o) : wK t b ps n ρ kO = kO o := by unfold wK; rw [h]; rfl
end
theorem okI {β : Type} {c : Prop} [Decidable c] {x : Option β} (h : c) : (if c then x else none) = x := if_pos h
theorem okI2 {β : Type} {c d : Prop} [Decidable c] [Decidable d] {x : Option β} (h : c) (h2 : d) : (if c ∧ d then x else none) = x := if_pos ⟨h, h2⟩
/-! ### where the steps begin -/
/-- what follows a turn -/
def aft (f : D → Rho → Option Out) (l : List D) (o : Out) : Option Out := match o with
  | .nx ρ1 => forGo f l ρ1
  | .ct ρ1 => forGo f l ρ1
  | .bk ρ1 => some (.nx ρ1)
  | .rt ρ1 r => some (.rt ρ1 r)
  | .ex C ρ1 => some (.ex C ρ1)
theorem aft_ct {f : D → Rho → Option Out} {l : List D} {ρ : Rho} : aft f l (.ct ρ) = forGo f l ρ := rfl
theorem aft_bk {f : D → Rho → Option Out} {l : List D} {ρ : Rho} : aft f l (.bk ρ) = some (.nx ρ) := rfl
theorem aft_rt {f : D → Rho → Option Out} {l : List D} {ρ : Rho} {r : RetV} : aft f l (.rt ρ r) = some (.rt ρ r) := rfl
theorem forGo_nil {f : D → Rho → Option Out} {ρ : Rho} : forGo f [] ρ = some (.nx ρ) := rfl
theorem forGo_x {ps : List Nat} {t : EV.Tg} {b : EV.St} {x : D} {l : List D} {ρ : Rho} : forGo (trn ps t b) (x :: l) ρ = xG ps t x ρ fun ρ1 => xS ps b ρ1 (fun ρ => forGo (trn ps t b) l ρ) (aft (trn ps t b) l) := by
  show (trn ps t b x ρ).bind (aft (trn ps t b) l) = _
  unfold trn xG xS
  rw [Option.bind_assoc]
  congr 1
  funext ρ1
  congr 1
  funext o
  cases o <;> rfl
def aftw (t : Tx) (b : EV.St) (ps : List Nat) (n : Nat) (o : Out) : Option Out := match o with
  | .nx ρ1 => whGo (fun ρ' => evT ps t ρ') (fun ρ' => exS ps b ρ') n ρ1
  | .ct ρ1 => whGo (fun ρ' => evT ps t ρ') (fun ρ' => exS ps b ρ') n ρ1
  | .bk ρ1 => some (.nx ρ1)
  | .rt ρ1 r => some (.rt ρ1 r)
  | .ex C ρ1 => some (.ex C ρ1)
theorem whGo_x {ps : List Nat} {t : Tx} {b : EV.St} {n : Nat} {ρ : Rho} : whGo (fun ρ' => evT ps t ρ') (fun ρ' => exS ps b ρ') (n + 1) ρ = xT ps t ρ fun x ρ1 => if x = true then xS ps b ρ1 (fun ρ => whGo (fun ρ' => evT ps t ρ') (fun ρ' => exS ps b ρ') n ρ) (aftw t b ps n) else some (.nx ρ1) := by
  show (evT ps t ρ).bind _ = _
  unfold xT
  congr 1
  funext p
  show (if p.1 = true then (exS ps b p.2).bind _ else some (Out.nx p.2)) = (if p.1 = true then (exS ps b p.2).bind _ else some (Out.nx p.2))
  congr 2
  funext o
  cases o <;> rfl
theorem trn_x {ps : List Nat} {t : EV.Tg} {b : EV.St} {x : D} {ρ : Rho} : trn ps t b x ρ = xG ps t x ρ fun ρ1 => xS ps b ρ1 (fun ρ => some (.nx ρ)) some := by
  simp only [trn, xG, xS]
  refine bindE fun ρ1 _ => ?_
  cases exS ps b ρ1 with
  | none => rfl
  | some o => cases o <;> rfl
theorem ltn_x {ps : List Nat} {j : Nat} {t : Tx} {e : Ex} {x : D} {ρ : Rho} : ltn ps j t e x ρ = sR ρ j (.dat x) fun ρ1 => xT ps t ρ1 fun b ρ2 => if b = true then xE ps e ρ2 fun v ρ3 => dV v fun d => sN ρ3 j fun ρ4 => some (some d, ρ4) else sN ρ2 j fun ρ4 => some (none, ρ4) := by
  simp only [ltn, sR, xT, xE, dV]
  split
  · refine bindE fun q _ => ?_
    split
    · refine bindE fun r _ => ?_
      cases toD r.1 <;> rfl
    · rfl
  · rfl
theorem runD_x {st : EV.St} {m n : Nat} {ds : List D} (h : ds.length = m) : runD st m n ds = xS [] st (ds.map .dat ++ List.replicate (n - ds.length) .no) (fun _ => some (.dat .none)) out1 := by
  unfold runD xS
  rw [if_pos h]
  refine bindE fun o _ => ?_
  cases o <;> rfl
theorem runS_x {st : EV.St} {m n : Nat} {s0 ds : List D} (h : ds.length + 1 = m) : runS st m n s0 ds = xS [0] st ((.own (.lst s0) :: ds.map .dat) ++ List.replicate (n - (ds.length + 1)) .no) (fun ρ => gE ρ 0 fun e => eL e fun s => some (.dat .none, s)) out2 := by
  unfold runS xS
  rw [if_pos h]
  refine bindE fun o _ => ?_
  cases o with
  | nx ρ =>
    show (ownL ρ 0).map _ = gE ρ 0 _
    rw [← gL]
    cases ownL ρ 0 <;> rfl
  | _ => rfl
theorem out1_rt {ρ : Rho} {r : RetV} : out1 (.rt ρ r) = some r := rfl
theorem out2_rt {ρ : Rho} {r : RetV} : out2 (.rt ρ r) = gE ρ 0 fun e => eL e fun s => some (r, s) := by
  show (ownL ρ 0).map _ = gE ρ 0 _
  rw [← gL]
  cases ownL ρ 0 <;> rfl
/-! ### loops by their turns -/
theorem forGo_inv {f : D → Rho → Option Out} (I : Nat → Rho) : ∀ (l : List D) (i0 : Nat), (∀ i, i < l.length → f (nthD l i) (I (i0 + i)) = some (.nx (I (i0 + i + 1))) ∨ f (nthD l i) (I (i0 + i)) = some (.ct (I (i0 + i + 1)))) → forGo f l (I i0) = some (.nx (I (i0 + l.length)))
  | [], _, _ => rfl
  | x :: xs, i0, h => by
    have h0 := h 0 (by simp)
    have step : forGo f (x :: xs) (I i0) = forGo f xs (I (i0 + 1)) := by
      rcases h0 with h0 | h0
      · show (f x (I i0)).bind _ = _
        rw [show f x (I i0) = _ from h0]; rfl
      · show (f x (I i0)).bind _ = _
        rw [show f x (I i0) = _ from h0]; rfl
    rw [step, forGo_inv I xs (i0 + 1) fun i hi => ?_]
    · rw [List.length_cons, Nat.add_assoc, Nat.add_comm 1]
    · have := h (i + 1) (by simpa using hi)
      rw [show i0 + 1 + i = i0 + (i + 1) by omega]
      exact this
theorem for_inv {f : D → Rho → Option Out} (I : Nat → Rho) {l : List D} {ρ ρ' : Rho} (h0 : I 0 = ρ) (h1 : I l.length = ρ') (h : ∀ i, i < l.length → f (nthD l i) (I i) = some (.nx (I (i + 1)))) : forGo f l ρ = some (.nx ρ') := by
  have := forGo_inv (f := f) I l 0 fun i hi => .inl (by rw [Nat.zero_add]; exact h i hi)
  rw [← h0, this, ← h1, Nat.zero_add]
/-- a comprehension whose turns change nothing -/
theorem lc_pure {f : D → Rho → Option (Option D × Rho)} (F : D → D) {ρ : Rho} : ∀ {l : List D}, (∀ x ∈ l, f x ρ = some (some (F x), ρ)) → lcGo f l ρ = some (l.map F, ρ)
  | [], _ => rfl
  | x :: xs, h => by
    show (f x ρ).bind _ = _
    rw [h x List.mem_cons_self]
    show (lcGo f xs ρ).bind _ = _
    rw [lc_pure F fun y m => h y (List.mem_cons_of_mem _ m)]
    rfl
theorem lc_filter {f : D → Rho → Option (Option D × Rho)} (F : D → D) (p : D → Bool) {ρ : Rho} : ∀ {l : List D}, (∀ x ∈ l, f x ρ = some (if p x then some (F x) else none, ρ)) → lcGo f l ρ = some ((l.filter p).map F, ρ)
  | [], _ => rfl
  | x :: xs, h => by
    show (f x ρ).bind _ = _
    rw [h x List.mem_cons_self]
    show (lcGo f xs ρ).bind _ = _
    rw [lc_filter F p fun y m => h y (List.mem_cons_of_mem _ m), List.filter_cons]
    cases p x <;> rfl
theorem lc_inv0' {f : D → Rho → Option (Option D × Rho)} : True := trivial
/-- .. whose turns take one environment to the next -/
theorem lc_inv {f : D → Rho → Option (Option D × Rho)} (I : Nat → Rho) (G : Nat → D) : ∀ (l : List D) (i0 : Nat), (∀ i, i < l.length → f (nthD l i) (I (i0 + i)) = some (some (G (i0 + i)), I (i0 + i + 1))) → lcGo f l (I i0) = some ((List.range l.length).map (fun i => G (i0 + i)), I (i0 + l.length))
  | [], _, _ => rfl
  | x :: xs, i0, h => by
    have h0 := h 0 (by simp)
    show (f x (I i0)).bind _ = _
    rw [show f x (I i0) = _ from h0]
    show (lcGo f xs (I (i0 + 1))).bind _ = _
    rw [lc_inv I G xs (i0 + 1) fun i hi => ?_]
    · rw [List.length_cons, List.range_succ_eq_map, List.map_cons, List.map_map]
      simp only [Option.bind_some, Option.some.injEq, Prod.mk.injEq, List.cons.injEq, Nat.add_zero, true_and]
      refine ⟨List.map_congr_left fun i _ => ?_, by rw [show i0 + 1 + xs.length = i0 + (xs.length + 1) by omega]⟩
      simp only [Function.comp]
      rw [show i0 + 1 + i = i0 + (i + 1) by omega]
    · have := h (i + 1) (by simpa using hi)
      rw [show i0 + 1 + i = i0 + (i + 1) by omega]
      exact this
theorem lc_inv0 {f : D → Rho → Option (Option D × Rho)} (I : Nat → Rho) (G : Nat → D) {l : List D} {ρ ρ' : Rho} (h0 : I 0 = ρ) (h1 : I l.length = ρ') (h : ∀ i, i < l.length → f (nthD l i) (I i) = some (some (G i), I (i + 1))) : lcGo f l ρ = some ((List.range l.length).map G, ρ') := by
  have := lc_inv (f := f) I G l 0 fun i hi => by rw [Nat.zero_add]; exact h i hi
  rw [← h0, this, ← h1, Nat.zero_add]
  congr 2
  exact List.map_congr_left fun i _ => by rw [Nat.zero_add]
end EV

namespace CS
open PySem PySem.Spec PyProof.Rows L2 DL EV
def c_times : EV.St :=
  .seq (.iff (.te (.op .eq (.var 1) (.neg (.int 1)))) (.ret (.var 2)) (.nx)) (.seq (.iff (.te (.op .eq (.var 2) (.neg (.int 1)))) (.ret (.var 1)) (.nx)) (.ret (.op .ix (.op .ix (.op .ix (.var 0) (.int 2)) (.var 1)) (.var 2))))
theorem u_c_times {β : Type} (ps : List Nat) (ρ : Rho) (kn : Rho → Option β) (ka : Out → Option β) : xS ps c_times ρ kn ka = xS ps (.seq (.iff (.te (.op .eq (.var 1) (.neg (.int 1)))) (.ret (.var 2)) (.nx)) (.seq (.iff (.te (.op .eq (.var 2) (.neg (.int 1)))) (.ret (.var 1)) (.nx)) (.ret (.op .ix (.op .ix (.op .ix (.var 0) (.int 2)) (.var 1)) (.var 2))))) ρ kn ka := rfl
def f_times : List D → Option RetV := runD c_times 3 3
theorem x_times (d0 d1 d2 : D) : f_times [d0, d1, d2] = xS [] c_times [.dat d0, .dat d1, .dat d2] (fun _ => some (.dat .none)) out1 := runD_x rfl
def c_element_of : EV.St :=
  .ret (.op .ix (.op .ix (.var 0) (.int 1)) (.idxT (.op .ix (.var 0) (.int 0)) (.var 1)))
theorem u_c_element_of {β : Type} (ps : List Nat) (ρ : Rho) (kn : Rho → Option β) (ka : Out → Option β) : xS ps c_element_of ρ kn ka = xS ps (.ret (.op .ix (.op .ix (.var 0) (.int 1)) (.idxT (.op .ix (.var 0) (.int 0)) (.var 1)))) ρ kn ka := rfl
def f_element_of : List D → Option RetV := runD c_element_of 2 2
theorem x_element_of (d0 d1 : D) : f_element_of [d0, d1] = xS [] c_element_of [.dat d0, .dat d1] (fun _ => some (.dat .none)) out1 := runD_x rfl
def b_value_of_1 : EV.St :=
  .fz 2 (.set 2 (.call f_times (.cons (.var 0) (.cons (.var 2) (.cons (.call f_element_of (.cons (.var 0) (.cons (.var 3) (.nil)))) (.nil))))))
theorem u_b_value_of_1 {β : Type} (ps : List Nat) (ρ : Rho) (kn : Rho → Option β) (ka : Out → Option β) : xS ps b_value_of_1 ρ kn ka = xS ps (.fz 2 (.set 2 (.call f_times (.cons (.var 0) (.cons (.var 2) (.cons (.call f_element_of (.cons (.var 0) (.cons (.var 3) (.nil)))) (.nil))))))) ρ kn ka := rfl
def c_value_of : EV.St :=
  .seq (.set 2 (.neg (.int 1))) (.seq (.for (.u (.var 1)) (.nm 3) b_value_of_1) (.ret (.var 2)))
theorem u_c_value_of {β : Type} (ps : List Nat) (ρ : Rho) (kn : Rho → Option β) (ka : Out → Option β) : xS ps c_value_of ρ kn ka = xS ps (.seq (.set 2 (.neg (.int 1))) (.seq (.for (.u (.var 1)) (.nm 3) b_value_of_1) (.ret (.var 2)))) ρ kn ka := rfl
def f_value_of : List D → Option RetV := runD c_value_of 2 4
theorem x_value_of (d0 d1 : D) : f_value_of [d0, d1] = xS [] c_value_of [.dat d0, .dat d1, .no, .no] (fun _ => some (.dat .none)) out1 := runD_x rfl
def e_least_logs_1 : Ex :=
  .dget 1 (.var 7)
theorem u_e_least_logs_1 {β : Type} (ps : List Nat) (ρ : Rho) (k : Vl → Rho → Option β) : xE ps e_least_logs_1 ρ k = xE ps (.dget 1 (.var 7)) ρ k := rfl
def b_least_logs_3 : EV.St :=
  .drop (.dset 1 (.op .ix (.var 8) (.op .ix (.var 3) (.var 5))) (.op .add (.dget 1 (.var 7)) (.tup (.cons (.var 6) (.nil)))))
theorem u_b_least_logs_3 {β : Type} (ps : List Nat) (ρ : Rho) (kn : Rho → Option β) (ka : Out → Option β) : xS ps b_least_logs_3 ρ kn ka = xS ps (.drop (.dset 1 (.op .ix (.var 8) (.op .ix (.var 3) (.var 5))) (.op .add (.dget 1 (.var 7)) (.tup (.cons (.var 6) (.nil)))))) ρ kn ka := rfl
def b_least_logs_5 : EV.St :=
  .for (.en (.var 2)) (.tup 2 (.cons (.nm 5) (.cons (.nm 6) (.nil)))) b_least_logs_3
theorem u_b_least_logs_5 {β : Type} (ps : List Nat) (ρ : Rho) (kn : Rho → Option β) (ka : Out → Option β) : xS ps b_least_logs_5 ρ kn ka = xS ps (.for (.en (.var 2)) (.tup 2 (.cons (.nm 5) (.cons (.nm 6) (.nil)))) b_least_logs_3) ρ kn ka := rfl
def b_least_logs_7 : EV.St :=
  .drop (.dset 1 (.op .ix (.var 3) (.var 5)) (.tup (.cons (.var 6) (.nil))))
theorem u_b_least_logs_7 {β : Type} (ps : List Nat) (ρ : Rho) (kn : Rho → Option β) (ka : Out → Option β) : xS ps b_least_logs_7 ρ kn ka = xS ps (.drop (.dset 1 (.op .ix (.var 3) (.var 5)) (.tup (.cons (.var 6) (.nil))))) ρ kn ka := rfl
def c_least_logs : EV.St :=
  .seq (.asg (.var 0) (.tup 3 (.cons (.nm 2) (.cons (.nm 3) (.cons (.nm 4) (.nil)))))) (.seq (.newD 1) (.seq (.for (.en (.var 2)) (.tup 2 (.cons (.nm 5) (.cons (.nm 6) (.nil)))) b_least_logs_7) (.seq (.for (.en (.var 4)) (.tup 2 (.cons (.nm 7) (.cons (.nm 8) (.nil)))) b_least_logs_5) (.ret (.lc (.rng1 (.cb .len (.cons (.var 4) (.nil)))) 7 .yes e_least_logs_1)))))
theorem u_c_least_logs {β : Type} (ps : List Nat) (ρ : Rho) (kn : Rho → Option β) (ka : Out → Option β) : xS ps c_least_logs ρ kn ka = xS ps (.seq (.asg (.var 0) (.tup 3 (.cons (.nm 2) (.cons (.nm 3) (.cons (.nm 4) (.nil)))))) (.seq (.newD 1) (.seq (.for (.en (.var 2)) (.tup 2 (.cons (.nm 5) (.cons (.nm 6) (.nil)))) b_least_logs_7) (.seq (.for (.en (.var 4)) (.tup 2 (.cons (.nm 7) (.cons (.nm 8) (.nil)))) b_least_logs_5) (.ret (.lc (.rng1 (.cb .len (.cons (.var 4) (.nil)))) 7 .yes e_least_logs_1)))))) ρ kn ka := rfl
def f_least_logs : List D → Option RetV := runD c_least_logs 1 9
theorem x_least_logs (d0 : D) : f_least_logs [d0] = xS [] c_least_logs [.dat d0, .no, .no, .no, .no, .no, .no, .no, .no] (fun _ => some (.dat .none)) out1 := runD_x rfl
def b_l_stream_1 : EV.St :=
  .seq (.app 1 (.op .mod (.cb .int (.cons (.var 3) (.nil))) (.int 1009))) (.seq (.set 3 (.op .fdiv (.var 3) (.int 1009))) (.iff (.te (.op .eq (.var 3) (.int 0))) (.brk) (.nx)))
theorem u_b_l_stream_1 {β : Type} (ps : List Nat) (ρ : Rho) (kn : Rho → Option β) (ka : Out → Option β) : xS ps b_l_stream_1 ρ kn ka = xS ps (.seq (.app 1 (.op .mod (.cb .int (.cons (.var 3) (.nil))) (.int 1009))) (.seq (.set 3 (.op .fdiv (.var 3) (.int 1009))) (.iff (.te (.op .eq (.var 3) (.int 0))) (.brk) (.nx)))) ρ kn ka := rfl
def b_l_stream_3 : EV.St :=
  .seq (.set 5 (.op .mod (.cb .int (.cons (.op .add (.op .add (.op .mul (.var 5) (.int 48271)) (.op .mul (.int 7) (.var 4))) (.int 11)) (.nil))) (.int 2147483647))) (.app 1 (.op .mod (.op .mod (.cb .int (.cons (.op .add (.op .mul (.var 5) (.int 69621)) (.var 4)) (.nil))) (.int 2147483629)) (.int 1009)))
theorem u_b_l_stream_3 {β : Type} (ps : List Nat) (ρ : Rho) (kn : Rho → Option β) (ka : Out → Option β) : xS ps b_l_stream_3 ρ kn ka = xS ps (.seq (.set 5 (.op .mod (.cb .int (.cons (.op .add (.op .add (.op .mul (.var 5) (.int 48271)) (.op .mul (.int 7) (.var 4))) (.int 11)) (.nil))) (.int 2147483647))) (.app 1 (.op .mod (.op .mod (.cb .int (.cons (.op .add (.op .mul (.var 5) (.int 69621)) (.var 4)) (.nil))) (.int 2147483629)) (.int 1009)))) ρ kn ka := rfl
def b_l_stream_5 : EV.St :=
  .seq (.set 3 (.cb .abs (.cons (.cb .int (.cons (.var 2) (.nil))) (.nil)))) (.iff (.te (.op .ge (.var 3) (.op .pow (.int 10) (.int 18)))) (.for (.rng1 (.int 60)) (.nm 4) b_l_stream_1) (.seq (.set 5 (.op .mod (.cb .int (.cons (.var 3) (.nil))) (.int 2147483647))) (.for (.rng1 (.int 10)) (.nm 4) b_l_stream_3)))
theorem u_b_l_stream_5 {β : Type} (ps : List Nat) (ρ : Rho) (kn : Rho → Option β) (ka : Out → Option β) : xS ps b_l_stream_5 ρ kn ka = xS ps (.seq (.set 3 (.cb .abs (.cons (.cb .int (.cons (.var 2) (.nil))) (.nil)))) (.iff (.te (.op .ge (.var 3) (.op .pow (.int 10) (.int 18)))) (.for (.rng1 (.int 60)) (.nm 4) b_l_stream_1) (.seq (.set 5 (.op .mod (.cb .int (.cons (.var 3) (.nil))) (.int 2147483647))) (.for (.rng1 (.int 10)) (.nm 4) b_l_stream_3)))) ρ kn ka := rfl
def c_l_stream : EV.St :=
  .seq (.set 1 (.lst (.nil))) (.seq (.for (.u (.sl (.var 0) (.no) (.at (.int 63)))) (.nm 2) b_l_stream_5) (.seq (.iff (.te (.op .eq (.cb .len (.cons (.var 1) (.nil))) (.int 0))) (.app 1 (.int 0)) (.nx)) (.ret (.var 1))))
theorem u_c_l_stream {β : Type} (ps : List Nat) (ρ : Rho) (kn : Rho → Option β) (ka : Out → Option β) : xS ps c_l_stream ρ kn ka = xS ps (.seq (.set 1 (.lst (.nil))) (.seq (.for (.u (.sl (.var 0) (.no) (.at (.int 63)))) (.nm 2) b_l_stream_5) (.seq (.iff (.te (.op .eq (.cb .len (.cons (.var 1) (.nil))) (.int 0))) (.app 1 (.int 0)) (.nx)) (.ret (.var 1))))) ρ kn ka := rfl
def f_l_stream : List D → Option RetV := runD c_l_stream 1 6
theorem x_l_stream (d0 : D) : f_l_stream [d0] = xS [] c_l_stream [.dat d0, .no, .no, .no, .no, .no] (fun _ => some (.dat .none)) out1 := runD_x rfl
def c_l_next : EV.St :=
  .seq (.seti 0 (.int 1) (.op .add (.op .ix (.var 0) (.int 1)) (.int 1))) (.seq (.set 2 (.op .fdiv (.op .ix (.var 0) (.int 1)) (.cb .len (.cons (.op .ix (.var 0) (.int 0)) (.nil))))) (.ret (.op .mod (.cb .int (.cons (.op .add (.op .add (.op .ix (.op .ix (.var 0) (.int 0)) (.op .mod (.op .ix (.var 0) (.int 1)) (.cb .len (.cons (.op .ix (.var 0) (.int 0)) (.nil))))) (.op .mul (.var 2) (.int 389))) (.op .mul (.op .mul (.op .ix (.var 0) (.int 1)) (.var 2)) (.int 17))) (.nil))) (.var 1))))
theorem u_c_l_next {β : Type} (ps : List Nat) (ρ : Rho) (kn : Rho → Option β) (ka : Out → Option β) : xS ps c_l_next ρ kn ka = xS ps (.seq (.seti 0 (.int 1) (.op .add (.op .ix (.var 0) (.int 1)) (.int 1))) (.seq (.set 2 (.op .fdiv (.op .ix (.var 0) (.int 1)) (.cb .len (.cons (.op .ix (.var 0) (.int 0)) (.nil))))) (.ret (.op .mod (.cb .int (.cons (.op .add (.op .add (.op .ix (.op .ix (.var 0) (.int 0)) (.op .mod (.op .ix (.var 0) (.int 1)) (.cb .len (.cons (.op .ix (.var 0) (.int 0)) (.nil))))) (.op .mul (.var 2) (.int 389))) (.op .mul (.op .mul (.op .ix (.var 0) (.int 1)) (.var 2)) (.int 17))) (.nil))) (.var 1))))) ρ kn ka := rfl
def f_l_next : List D → List D → Option (RetV × List D) := runS c_l_next 2 3
theorem x_l_next (s0 : List D) (d1 : D) : f_l_next s0 [d1] = xS [0] c_l_next [.own (.lst s0), .dat d1, .no] (fun ρ => gE ρ 0 fun e => eL e fun s => some (.dat .none, s)) out2 := runS_x rfl
def b_l_word_1 : EV.St :=
  .set 2 (.op .add (.var 2) (.op .ix (.str "abyz") (.callS f_l_next 0 (.cons (.int 4) (.nil)))))
theorem u_b_l_word_1 {β : Type} (ps : List Nat) (ρ : Rho) (kn : Rho → Option β) (ka : Out → Option β) : xS ps b_l_word_1 ρ kn ka = xS ps (.set 2 (.op .add (.var 2) (.op .ix (.str "abyz") (.callS f_l_next 0 (.cons (.int 4) (.nil)))))) ρ kn ka := rfl
def c_l_word : EV.St :=
  .seq (.set 2 (.str "")) (.seq (.for (.rng1 (.op .ix (.lst (.cons (.int 1) (.cons (.int 2) (.cons (.op .add (.int 1) (.callS f_l_next 0 (.cons (.int 8) (.nil)))) (.nil))))) (.callS f_l_next 0 (.cons (.int 3) (.nil))))) (.nm 3) b_l_word_1) (.seq (.iff (.te (.op .isIn (.var 2) (.var 1))) (.ret (.op .add (.str "c") (.op .ix (.str "abcdefghijklmnopqrstuvwxyz") (.cb .len (.cons (.var 1) (.nil)))))) (.nx)) (.ret (.var 2))))
theorem u_c_l_word {β : Type} (ps : List Nat) (ρ : Rho) (kn : Rho → Option β) (ka : Out → Option β) : xS ps c_l_word ρ kn ka = xS ps (.seq (.set 2 (.str "")) (.seq (.for (.rng1 (.op .ix (.lst (.cons (.int 1) (.cons (.int 2) (.cons (.op .add (.int 1) (.callS f_l_next 0 (.cons (.int 8) (.nil)))) (.nil))))) (.callS f_l_next 0 (.cons (.int 3) (.nil))))) (.nm 3) b_l_word_1) (.seq (.iff (.te (.op .isIn (.var 2) (.var 1))) (.ret (.op .add (.str "c") (.op .ix (.str "abcdefghijklmnopqrstuvwxyz") (.cb .len (.cons (.var 1) (.nil)))))) (.nx)) (.ret (.var 2))))) ρ kn ka := rfl
def f_l_word : List D → List D → Option (RetV × List D) := runS c_l_word 2 4
theorem x_l_word (s0 : List D) (d1 : D) : f_l_word s0 [d1] = xS [0] c_l_word [.own (.lst s0), .dat d1, .no, .no] (fun ρ => gE ρ 0 fun e => eL e fun s => some (.dat .none, s)) out2 := runS_x rfl
def b_l_letters_1 : EV.St :=
  .fz 2 (.set 2 (.op .add (.var 2) (.tup (.cons (.callS f_l_word 0 (.cons (.var 2) (.nil))) (.nil)))))
theorem u_b_l_letters_1 {β : Type} (ps : List Nat) (ρ : Rho) (kn : Rho → Option β) (ka : Out → Option β) : xS ps b_l_letters_1 ρ kn ka = xS ps (.fz 2 (.set 2 (.op .add (.var 2) (.tup (.cons (.callS f_l_word 0 (.cons (.var 2) (.nil))) (.nil)))))) ρ kn ka := rfl
def c_l_letters : EV.St :=
  .seq (.set 2 (.tup (.nil))) (.seq (.for (.rng1 (.var 1)) (.nm 3) b_l_letters_1) (.ret (.var 2)))
theorem u_c_l_letters {β : Type} (ps : List Nat) (ρ : Rho) (kn : Rho → Option β) (ka : Out → Option β) : xS ps c_l_letters ρ kn ka = xS ps (.seq (.set 2 (.tup (.nil))) (.seq (.for (.rng1 (.var 1)) (.nm 3) b_l_letters_1) (.ret (.var 2)))) ρ kn ka := rfl
def f_l_letters : List D → List D → Option (RetV × List D) := runS c_l_letters 2 4
theorem x_l_letters (s0 : List D) (d1 : D) : f_l_letters s0 [d1] = xS [0] c_l_letters [.own (.lst s0), .dat d1, .no, .no] (fun ρ => gE ρ 0 fun e => eL e fun s => some (.dat .none, s)) out2 := runS_x rfl
def e_l_map_1 : Ex :=
  .op .add (.var 6) (.callS f_l_next 0 (.cons (.op .sub (.var 2) (.var 6)) (.nil)))
theorem u_e_l_map_1 {β : Type} (ps : List Nat) (ρ : Rho) (k : Vl → Rho → Option β) : xE ps e_l_map_1 ρ k = xE ps (.op .add (.var 6) (.callS f_l_next 0 (.cons (.op .sub (.var 2) (.var 6)) (.nil)))) ρ k := rfl
def b_l_map_3 : EV.St :=
  .app 4 (.op .ix (.lst (.cons (.op .sub (.var 2) (.int 1)) (.cons (.pop 3 (.callS f_l_next 0 (.cons (.cb .len (.cons (.var 3) (.nil))) (.nil)))) (.nil)))) (.cb .int (.cons (.op .gt (.callS f_l_next 0 (.cons (.int 3) (.nil))) (.int 0)) (.nil))))
theorem u_b_l_map_3 {β : Type} (ps : List Nat) (ρ : Rho) (kn : Rho → Option β) (ka : Out → Option β) : xS ps b_l_map_3 ρ kn ka = xS ps (.app 4 (.op .ix (.lst (.cons (.op .sub (.var 2) (.int 1)) (.cons (.pop 3 (.callS f_l_next 0 (.cons (.cb .len (.cons (.var 3) (.nil))) (.nil)))) (.nil)))) (.cb .int (.cons (.op .gt (.callS f_l_next 0 (.cons (.int 3) (.nil))) (.int 0)) (.nil))))) ρ kn ka := rfl
def e_l_map_5 : Ex :=
  .pop 3 (.callS f_l_next 0 (.cons (.cb .len (.cons (.var 3) (.nil))) (.nil)))
theorem u_e_l_map_5 {β : Type} (ps : List Nat) (ρ : Rho) (k : Vl → Rho → Option β) : xE ps e_l_map_5 ρ k = xE ps (.pop 3 (.callS f_l_next 0 (.cons (.cb .len (.cons (.var 3) (.nil))) (.nil)))) ρ k := rfl
def e_l_map_7 : Ex :=
  .callS f_l_next 0 (.cons (.var 2) (.nil))
theorem u_e_l_map_7 {β : Type} (ps : List Nat) (ρ : Rho) (k : Vl → Rho → Option β) : xE ps e_l_map_7 ρ k = xE ps (.callS f_l_next 0 (.cons (.var 2) (.nil))) ρ k := rfl
def e_l_map_9 : Ex :=
  .callS f_l_next 0 (.cons (.var 2) (.nil))
theorem u_e_l_map_9 {β : Type} (ps : List Nat) (ρ : Rho) (k : Vl → Rho → Option β) : xE ps e_l_map_9 ρ k = xE ps (.callS f_l_next 0 (.cons (.var 2) (.nil))) ρ k := rfl
def c_l_map : EV.St :=
  .seq (.iff (.te (.op .eq (.var 1) (.int 0))) (.ret (.cb .tuple (.cons (.lc (.rng1 (.var 2)) 5 .yes e_l_map_9) (.nil)))) (.nx)) (.seq (.iff (.te (.op .eq (.var 1) (.int 1))) (.ret (.cb .tuple (.cons (.cb .sorted (.cons (.lc (.rng1 (.var 2)) 5 .yes e_l_map_7) (.nil))) (.nil)))) (.nx)) (.seq (.iff (.te (.op .eq (.var 1) (.int 2))) (.seq (.iff (.te (.op .eq (.callS f_l_next 0 (.cons (.int 3) (.nil))) (.int 0))) (.ret (.op .mul (.tup (.cons (.callS f_l_next 0 (.cons (.var 2) (.nil))) (.nil))) (.var 2))) (.nx)) (.seq (.set 3 (.lrg (.var 2))) (.ret (.cb .tuple (.cons (.lc (.rng1 (.var 2)) 5 .yes e_l_map_5) (.nil)))))) (.nx)) (.seq (.iff (.te (.op .eq (.var 1) (.int 3))) (.seq (.set 3 (.lrg (.op .sub (.var 2) (.int 1)))) (.seq (.set 4 (.lst (.nil))) (.seq (.for (.rng1 (.op .sub (.var 2) (.int 1))) (.nm 5) b_l_map_3) (.ret (.cb .tuple (.cons (.op .add (.var 4) (.lst (.cons (.op .sub (.var 2) (.int 1)) (.nil)))) (.nil))))))) (.nx)) (.ret (.cb .tuple (.cons (.lc (.rng1 (.var 2)) 6 .yes e_l_map_1) (.nil)))))))
theorem u_c_l_map {β : Type} (ps : List Nat) (ρ : Rho) (kn : Rho → Option β) (ka : Out → Option β) : xS ps c_l_map ρ kn ka = xS ps (.seq (.iff (.te (.op .eq (.var 1) (.int 0))) (.ret (.cb .tuple (.cons (.lc (.rng1 (.var 2)) 5 .yes e_l_map_9) (.nil)))) (.nx)) (.seq (.iff (.te (.op .eq (.var 1) (.int 1))) (.ret (.cb .tuple (.cons (.cb .sorted (.cons (.lc (.rng1 (.var 2)) 5 .yes e_l_map_7) (.nil))) (.nil)))) (.nx)) (.seq (.iff (.te (.op .eq (.var 1) (.int 2))) (.seq (.iff (.te (.op .eq (.callS f_l_next 0 (.cons (.int 3) (.nil))) (.int 0))) (.ret (.op .mul (.tup (.cons (.callS f_l_next 0 (.cons (.var 2) (.nil))) (.nil))) (.var 2))) (.nx)) (.seq (.set 3 (.lrg (.var 2))) (.ret (.cb .tuple (.cons (.lc (.rng1 (.var 2)) 5 .yes e_l_map_5) (.nil)))))) (.nx)) (.seq (.iff (.te (.op .eq (.var 1) (.int 3))) (.seq (.set 3 (.lrg (.op .sub (.var 2) (.int 1)))) (.seq (.set 4 (.lst (.nil))) (.seq (.for (.rng1 (.op .sub (.var 2) (.int 1))) (.nm 5) b_l_map_3) (.ret (.cb .tuple (.cons (.op .add (.var 4) (.lst (.cons (.op .sub (.var 2) (.int 1)) (.nil)))) (.nil))))))) (.nx)) (.ret (.cb .tuple (.cons (.lc (.rng1 (.var 2)) 6 .yes e_l_map_1) (.nil)))))))) ρ kn ka := rfl
def f_l_map : List D → List D → Option (RetV × List D) := runS c_l_map 3 7
theorem x_l_map (s0 : List D) (d1 d2 : D) : f_l_map s0 [d1, d2] = xS [0] c_l_map [.own (.lst s0), .dat d1, .dat d2, .no, .no, .no, .no] (fun ρ => gE ρ 0 fun e => eL e fun s => some (.dat .none, s)) out2 := runS_x rfl
def e_l_maps_1 : Ex :=
  .callS f_l_map 0 (.cons (.var 2) (.cons (.var 3) (.nil)))
theorem u_e_l_maps_1 {β : Type} (ps : List Nat) (ρ : Rho) (k : Vl → Rho → Option β) : xE ps e_l_maps_1 ρ k = xE ps (.callS f_l_map 0 (.cons (.var 2) (.cons (.var 3) (.nil)))) ρ k := rfl
def c_l_maps : EV.St :=
  .seq (.set 2 (.callS f_l_next 0 (.cons (.int 5) (.nil)))) (.seq (.set 3 (.op .ix (.lst (.cons (.op .add (.int 1) (.callS f_l_next 0 (.cons (.int 3) (.nil)))) (.cons (.op .add (.int 2) (.callS f_l_next 0 (.cons (.int 3) (.nil)))) (.cons (.op .add (.int 2) (.callS f_l_next 0 (.cons (.int 3) (.nil)))) (.cons (.op .add (.int 2) (.callS f_l_next 0 (.cons (.int 3) (.nil)))) (.cons (.op .add (.int 2) (.callS f_l_next 0 (.cons (.int 4) (.nil)))) (.nil))))))) (.var 2))) (.fz 3 (.ret (.lc (.rng1 (.op .add (.int 1) (.callS f_l_next 0 (.cons (.var 1) (.nil))))) 4 .yes e_l_maps_1))))
theorem u_c_l_maps {β : Type} (ps : List Nat) (ρ : Rho) (kn : Rho → Option β) (ka : Out → Option β) : xS ps c_l_maps ρ kn ka = xS ps (.seq (.set 2 (.callS f_l_next 0 (.cons (.int 5) (.nil)))) (.seq (.set 3 (.op .ix (.lst (.cons (.op .add (.int 1) (.callS f_l_next 0 (.cons (.int 3) (.nil)))) (.cons (.op .add (.int 2) (.callS f_l_next 0 (.cons (.int 3) (.nil)))) (.cons (.op .add (.int 2) (.callS f_l_next 0 (.cons (.int 3) (.nil)))) (.cons (.op .add (.int 2) (.callS f_l_next 0 (.cons (.int 3) (.nil)))) (.cons (.op .add (.int 2) (.callS f_l_next 0 (.cons (.int 4) (.nil)))) (.nil))))))) (.var 2))) (.fz 3 (.ret (.lc (.rng1 (.op .add (.int 1) (.callS f_l_next 0 (.cons (.var 1) (.nil))))) 4 .yes e_l_maps_1))))) ρ kn ka := rfl
def f_l_maps : List D → List D → Option (RetV × List D) := runS c_l_maps 2 5
theorem x_l_maps (s0 : List D) (d1 : D) : f_l_maps s0 [d1] = xS [0] c_l_maps [.own (.lst s0), .dat d1, .no, .no, .no] (fun ρ => gE ρ 0 fun e => eL e fun s => some (.dat .none, s)) out2 := runS_x rfl
def e_l_same_as_1 : Ex :=
  .op .ix (.var 1) (.var 2)
theorem u_e_l_same_as_1 {β : Type} (ps : List Nat) (ρ : Rho) (k : Vl → Rho → Option β) : xE ps e_l_same_as_1 ρ k = xE ps (.op .ix (.var 1) (.var 2)) ρ k := rfl
def c_l_same_as : EV.St :=
  .ret (.cb .tuple (.cons (.lc (.u (.var 0)) 2 .yes e_l_same_as_1) (.nil)))
theorem u_c_l_same_as {β : Type} (ps : List Nat) (ρ : Rho) (kn : Rho → Option β) (ka : Out → Option β) : xS ps c_l_same_as ρ kn ka = xS ps (.ret (.cb .tuple (.cons (.lc (.u (.var 0)) 2 .yes e_l_same_as_1) (.nil)))) ρ kn ka := rfl
def f_l_same_as : List D → Option RetV := runD c_l_same_as 2 3
theorem x_l_same_as (d0 d1 : D) : f_l_same_as [d0, d1] = xS [] c_l_same_as [.dat d0, .dat d1, .no] (fun _ => some (.dat .none)) out1 := runD_x rfl
def b_l_elements_1 : EV.St :=
  .iff (.an (.te (.op .lt (.var 4) (.cb .len (.cons (.var 2) (.nil))))) (.an (.te (.op .le (.cb .len (.cons (.var 2) (.nil))) (.var 1))) (.te (.op .notIn (.call f_l_same_as (.cons (.op .ix (.var 2) (.var 4)) (.cons (.var 5) (.nil)))) (.var 2))))) (.app 2 (.call f_l_same_as (.cons (.op .ix (.var 2) (.var 4)) (.cons (.var 5) (.nil))))) (.nx)
theorem u_b_l_elements_1 {β : Type} (ps : List Nat) (ρ : Rho) (kn : Rho → Option β) (ka : Out → Option β) : xS ps b_l_elements_1 ρ kn ka = xS ps (.iff (.an (.te (.op .lt (.var 4) (.cb .len (.cons (.var 2) (.nil))))) (.an (.te (.op .le (.cb .len (.cons (.var 2) (.nil))) (.var 1))) (.te (.op .notIn (.call f_l_same_as (.cons (.op .ix (.var 2) (.var 4)) (.cons (.var 5) (.nil)))) (.var 2))))) (.app 2 (.call f_l_same_as (.cons (.op .ix (.var 2) (.var 4)) (.cons (.var 5) (.nil))))) (.nx)) ρ kn ka := rfl
def b_l_elements_3 : EV.St :=
  .for (.u (.var 0)) (.nm 5) b_l_elements_1
theorem u_b_l_elements_3 {β : Type} (ps : List Nat) (ρ : Rho) (kn : Rho → Option β) (ka : Out → Option β) : xS ps b_l_elements_3 ρ kn ka = xS ps (.for (.u (.var 0)) (.nm 5) b_l_elements_1) ρ kn ka := rfl
def b_l_elements_5 : EV.St :=
  .iff (.te (.op .notIn (.var 3) (.var 2))) (.app 2 (.var 3)) (.nx)
theorem u_b_l_elements_5 {β : Type} (ps : List Nat) (ρ : Rho) (kn : Rho → Option β) (ka : Out → Option β) : xS ps b_l_elements_5 ρ kn ka = xS ps (.iff (.te (.op .notIn (.var 3) (.var 2))) (.app 2 (.var 3)) (.nx)) ρ kn ka := rfl
def c_l_elements : EV.St :=
  .seq (.set 2 (.lst (.nil))) (.seq (.for (.u (.var 0)) (.nm 3) b_l_elements_5) (.seq (.for (.rng1 (.op .add (.var 1) (.int 1))) (.nm 4) b_l_elements_3) (.ret (.var 2))))
theorem u_c_l_elements {β : Type} (ps : List Nat) (ρ : Rho) (kn : Rho → Option β) (ka : Out → Option β) : xS ps c_l_elements ρ kn ka = xS ps (.seq (.set 2 (.lst (.nil))) (.seq (.for (.u (.var 0)) (.nm 3) b_l_elements_5) (.seq (.for (.rng1 (.op .add (.var 1) (.int 1))) (.nm 4) b_l_elements_3) (.ret (.var 2))))) ρ kn ka := rfl
def f_l_elements : List D → Option RetV := runD c_l_elements 2 6
theorem x_l_elements (d0 d1 : D) : f_l_elements [d0, d1] = xS [] c_l_elements [.dat d0, .dat d1, .no, .no, .no, .no] (fun _ => some (.dat .none)) out1 := runD_x rfl
def e_l_table_1 : Ex :=
  .idxL (.var 2) (.var 4)
theorem u_e_l_table_1 {β : Type} (ps : List Nat) (ρ : Rho) (k : Vl → Rho → Option β) : xE ps e_l_table_1 ρ k = xE ps (.idxL (.var 2) (.var 4)) ρ k := rfl
def e_l_table_3 : Ex :=
  .idxL (.var 2) (.call f_l_same_as (.cons (.var 4) (.cons (.var 5) (.nil))))
theorem u_e_l_table_3 {β : Type} (ps : List Nat) (ρ : Rho) (k : Vl → Rho → Option β) : xE ps e_l_table_3 ρ k = xE ps (.idxL (.var 2) (.call f_l_same_as (.cons (.var 4) (.cons (.var 5) (.nil))))) ρ k := rfl
def e_l_table_5 : Ex :=
  .cb .tuple (.cons (.lc (.u (.var 2)) 5 .yes e_l_table_3) (.nil))
theorem u_e_l_table_5 {β : Type} (ps : List Nat) (ρ : Rho) (k : Vl → Rho → Option β) : xE ps e_l_table_5 ρ k = xE ps (.cb .tuple (.cons (.lc (.u (.var 2)) 5 .yes e_l_table_3) (.nil))) ρ k := rfl
def c_l_table : EV.St :=
  .seq (.set 2 (.call f_l_elements (.cons (.var 1) (.cons (.int 40) (.nil))))) (.seq (.fz 2 (.set 3 (.cb .tuple (.cons (.lc (.u (.var 2)) 4 .yes e_l_table_5) (.nil))))) (.fz 2 (.ret (.tup (.cons (.var 0) (.cons (.cb .tuple (.cons (.lc (.u (.var 1)) 4 .yes e_l_table_1) (.nil))) (.cons (.var 3) (.nil))))))))
theorem u_c_l_table {β : Type} (ps : List Nat) (ρ : Rho) (kn : Rho → Option β) (ka : Out → Option β) : xS ps c_l_table ρ kn ka = xS ps (.seq (.set 2 (.call f_l_elements (.cons (.var 1) (.cons (.int 40) (.nil))))) (.seq (.fz 2 (.set 3 (.cb .tuple (.cons (.lc (.u (.var 2)) 4 .yes e_l_table_5) (.nil))))) (.fz 2 (.ret (.tup (.cons (.var 0) (.cons (.cb .tuple (.cons (.lc (.u (.var 1)) 4 .yes e_l_table_1) (.nil))) (.cons (.var 3) (.nil))))))))) ρ kn ka := rfl
def f_l_table : List D → Option RetV := runD c_l_table 2 6
theorem x_l_table (d0 d1 : D) : f_l_table [d0, d1] = xS [] c_l_table [.dat d0, .dat d1, .no, .no, .no, .no] (fun _ => some (.dat .none)) out1 := runD_x rfl
def b_l_first_logs_1 : EV.St :=
  .iff (.an (.te (.op .lt (.var 5) (.cb .len (.cons (.var 2) (.nil))))) (.te (.op .notIn (.call f_l_same_as (.cons (.op .ix (.var 2) (.var 5)) (.cons (.op .ix (.var 1) (.var 4)) (.nil)))) (.var 2)))) (.seq (.app 2 (.call f_l_same_as (.cons (.op .ix (.var 2) (.var 5)) (.cons (.op .ix (.var 1) (.var 4)) (.nil))))) (.app 3 (.op .add (.op .ix (.var 3) (.var 5)) (.tup (.cons (.op .ix (.var 0) (.var 4)) (.nil)))))) (.nx)
theorem u_b_l_first_logs_1 {β : Type} (ps : List Nat) (ρ : Rho) (kn : Rho → Option β) (ka : Out → Option β) : xS ps b_l_first_logs_1 ρ kn ka = xS ps (.iff (.an (.te (.op .lt (.var 5) (.cb .len (.cons (.var 2) (.nil))))) (.te (.op .notIn (.call f_l_same_as (.cons (.op .ix (.var 2) (.var 5)) (.cons (.op .ix (.var 1) (.var 4)) (.nil)))) (.var 2)))) (.seq (.app 2 (.call f_l_same_as (.cons (.op .ix (.var 2) (.var 5)) (.cons (.op .ix (.var 1) (.var 4)) (.nil))))) (.app 3 (.op .add (.op .ix (.var 3) (.var 5)) (.tup (.cons (.op .ix (.var 0) (.var 4)) (.nil)))))) (.nx)) ρ kn ka := rfl
def b_l_first_logs_3 : EV.St :=
  .for (.rng1 (.cb .len (.cons (.var 1) (.nil)))) (.nm 4) b_l_first_logs_1
theorem u_b_l_first_logs_3 {β : Type} (ps : List Nat) (ρ : Rho) (kn : Rho → Option β) (ka : Out → Option β) : xS ps b_l_first_logs_3 ρ kn ka = xS ps (.for (.rng1 (.cb .len (.cons (.var 1) (.nil)))) (.nm 4) b_l_first_logs_1) ρ kn ka := rfl
def b_l_first_logs_5 : EV.St :=
  .iff (.te (.op .notIn (.op .ix (.var 1) (.var 4)) (.var 2))) (.seq (.app 2 (.op .ix (.var 1) (.var 4))) (.app 3 (.tup (.cons (.op .ix (.var 0) (.var 4)) (.nil))))) (.nx)
theorem u_b_l_first_logs_5 {β : Type} (ps : List Nat) (ρ : Rho) (kn : Rho → Option β) (ka : Out → Option β) : xS ps b_l_first_logs_5 ρ kn ka = xS ps (.iff (.te (.op .notIn (.op .ix (.var 1) (.var 4)) (.var 2))) (.seq (.app 2 (.op .ix (.var 1) (.var 4))) (.app 3 (.tup (.cons (.op .ix (.var 0) (.var 4)) (.nil))))) (.nx)) ρ kn ka := rfl
def c_l_first_logs : EV.St :=
  .seq (.set 2 (.lst (.nil))) (.seq (.set 3 (.lst (.nil))) (.seq (.for (.rng1 (.cb .len (.cons (.var 1) (.nil)))) (.nm 4) b_l_first_logs_5) (.seq (.for (.rng1 (.int 40)) (.nm 5) b_l_first_logs_3) (.ret (.var 3)))))
theorem u_c_l_first_logs {β : Type} (ps : List Nat) (ρ : Rho) (kn : Rho → Option β) (ka : Out → Option β) : xS ps c_l_first_logs ρ kn ka = xS ps (.seq (.set 2 (.lst (.nil))) (.seq (.set 3 (.lst (.nil))) (.seq (.for (.rng1 (.cb .len (.cons (.var 1) (.nil)))) (.nm 4) b_l_first_logs_5) (.seq (.for (.rng1 (.int 40)) (.nm 5) b_l_first_logs_3) (.ret (.var 3)))))) ρ kn ka := rfl
def f_l_first_logs : List D → Option RetV := runD c_l_first_logs 2 6
theorem x_l_first_logs (d0 d1 : D) : f_l_first_logs [d0, d1] = xS [] c_l_first_logs [.dat d0, .dat d1, .no, .no, .no, .no] (fun _ => some (.dat .none)) out1 := runD_x rfl
def b_l_value_1 : EV.St :=
  .fz 4 (.set 4 (.call f_l_same_as (.cons (.var 4) (.cons (.op .ix (.var 2) (.idxT (.var 1) (.var 5))) (.nil)))))
theorem u_b_l_value_1 {β : Type} (ps : List Nat) (ρ : Rho) (kn : Rho → Option β) (ka : Out → Option β) : xS ps b_l_value_1 ρ kn ka = xS ps (.fz 4 (.set 4 (.call f_l_same_as (.cons (.var 4) (.cons (.op .ix (.var 2) (.idxT (.var 1) (.var 5))) (.nil)))))) ρ kn ka := rfl
def c_l_value : EV.St :=
  .seq (.set 4 (.trg (.cb .len (.cons (.op .ix (.var 2) (.int 0)) (.nil))))) (.seq (.for (.u (.var 3)) (.nm 5) b_l_value_1) (.ret (.op .ix (.lst (.cons (.ife (.te (.op .gt (.cb .len (.cons (.var 3) (.nil))) (.int 0))) (.idxL (.var 0) (.var 4)) (.neg (.int 1))) (.nil))) (.int 0))))
theorem u_c_l_value {β : Type} (ps : List Nat) (ρ : Rho) (kn : Rho → Option β) (ka : Out → Option β) : xS ps c_l_value ρ kn ka = xS ps (.seq (.set 4 (.trg (.cb .len (.cons (.op .ix (.var 2) (.int 0)) (.nil))))) (.seq (.for (.u (.var 3)) (.nm 5) b_l_value_1) (.ret (.op .ix (.lst (.cons (.ife (.te (.op .gt (.cb .len (.cons (.var 3) (.nil))) (.int 0))) (.idxL (.var 0) (.var 4)) (.neg (.int 1))) (.nil))) (.int 0))))) ρ kn ka := rfl
def f_l_value : List D → Option RetV := runD c_l_value 4 6
theorem x_l_value (d0 d1 d2 d3 : D) : f_l_value [d0, d1, d2, d3] = xS [] c_l_value [.dat d0, .dat d1, .dat d2, .dat d3, .no, .no] (fun _ => some (.dat .none)) out1 := runD_x rfl
def b_law_1 : EV.St :=
  .seq (.set 10 (.op .sub (.callS f_l_next 1 (.cons (.op .add (.cb .len (.cons (.var 4) (.nil))) (.int 1)) (.nil))) (.int 1))) (.seq (.set 11 (.op .sub (.callS f_l_next 1 (.cons (.op .add (.cb .len (.cons (.var 4) (.nil))) (.int 1)) (.nil))) (.int 1))) (.seq (.set 12 (.op .ix (.lst (.cons (.var 10) (.cons (.var 11) (.nil)))) (.cb .int (.cons (.op .lt (.var 10) (.int 0)) (.nil))))) (.seq (.iff (.an (.te (.op .ge (.var 10) (.int 0))) (.te (.op .ge (.var 11) (.int 0)))) (.fz 4 (.set 12 (.idxL (.var 4) (.call f_l_same_as (.cons (.op .ix (.var 4) (.var 10)) (.cons (.op .ix (.var 4) (.var 11)) (.nil))))))) (.nx)) (.fz 5 (.iff (.te (.op .ne (.cb .repr (.cons (.call f_times (.cons (.var 5) (.cons (.var 10) (.cons (.var 11) (.nil))))) (.nil))) (.cb .repr (.cons (.var 12) (.nil))))) (.ret (.bl false)) (.nx))))))
theorem u_b_law_1 {β : Type} (ps : List Nat) (ρ : Rho) (kn : Rho → Option β) (ka : Out → Option β) : xS ps b_law_1 ρ kn ka = xS ps (.seq (.set 10 (.op .sub (.callS f_l_next 1 (.cons (.op .add (.cb .len (.cons (.var 4) (.nil))) (.int 1)) (.nil))) (.int 1))) (.seq (.set 11 (.op .sub (.callS f_l_next 1 (.cons (.op .add (.cb .len (.cons (.var 4) (.nil))) (.int 1)) (.nil))) (.int 1))) (.seq (.set 12 (.op .ix (.lst (.cons (.var 10) (.cons (.var 11) (.nil)))) (.cb .int (.cons (.op .lt (.var 10) (.int 0)) (.nil))))) (.seq (.iff (.an (.te (.op .ge (.var 10) (.int 0))) (.te (.op .ge (.var 11) (.int 0)))) (.fz 4 (.set 12 (.idxL (.var 4) (.call f_l_same_as (.cons (.op .ix (.var 4) (.var 10)) (.cons (.op .ix (.var 4) (.var 11)) (.nil))))))) (.nx)) (.fz 5 (.iff (.te (.op .ne (.cb .repr (.cons (.call f_times (.cons (.var 5) (.cons (.var 10) (.cons (.var 11) (.nil))))) (.nil))) (.cb .repr (.cons (.var 12) (.nil))))) (.ret (.bl false)) (.nx))))))) ρ kn ka := rfl
def e_law_3 : Ex :=
  .op .ix (.var 3) (.callS f_l_next 1 (.cons (.cb .len (.cons (.var 3) (.nil))) (.nil)))
theorem u_e_law_3 {β : Type} (ps : List Nat) (ρ : Rho) (k : Vl → Rho → Option β) : xE ps e_law_3 ρ k = xE ps (.op .ix (.var 3) (.callS f_l_next 1 (.cons (.cb .len (.cons (.var 3) (.nil))) (.nil)))) ρ k := rfl
def b_law_5 : EV.St :=
  .seq (.set 8 (.op .ix (.lst (.cons (.callS f_l_next 1 (.cons (.int 13) (.nil))) (.cons (.callS f_l_next 1 (.cons (.int 13) (.nil))) (.cons (.callS f_l_next 1 (.cons (.int 601) (.nil))) (.nil))))) (.callS f_l_next 1 (.cons (.int 3) (.nil))))) (.seq (.set 9 (.cb .tuple (.cons (.lc (.rng1 (.var 8)) 13 .yes e_law_3) (.nil)))) (.seq (.fz 5 (.set 7 (.call f_value_of (.cons (.var 5) (.cons (.var 9) (.nil)))))) (.fz 2 (.fz 3 (.fz 4 (.iff (.te (.op .ne (.cb .repr (.cons (.var 7) (.nil))) (.cb .repr (.cons (.call f_l_value (.cons (.var 4) (.cons (.var 3) (.cons (.var 2) (.cons (.var 9) (.nil)))))) (.nil))))) (.ret (.bl false)) (.nx)))))))
theorem u_b_law_5 {β : Type} (ps : List Nat) (ρ : Rho) (kn : Rho → Option β) (ka : Out → Option β) : xS ps b_law_5 ρ kn ka = xS ps (.seq (.set 8 (.op .ix (.lst (.cons (.callS f_l_next 1 (.cons (.int 13) (.nil))) (.cons (.callS f_l_next 1 (.cons (.int 13) (.nil))) (.cons (.callS f_l_next 1 (.cons (.int 601) (.nil))) (.nil))))) (.callS f_l_next 1 (.cons (.int 3) (.nil))))) (.seq (.set 9 (.cb .tuple (.cons (.lc (.rng1 (.var 8)) 13 .yes e_law_3) (.nil)))) (.seq (.fz 5 (.set 7 (.call f_value_of (.cons (.var 5) (.cons (.var 9) (.nil)))))) (.fz 2 (.fz 3 (.fz 4 (.iff (.te (.op .ne (.cb .repr (.cons (.var 7) (.nil))) (.cb .repr (.cons (.call f_l_value (.cons (.var 4) (.cons (.var 3) (.cons (.var 2) (.cons (.var 9) (.nil)))))) (.nil))))) (.ret (.bl false)) (.nx)))))))) ρ kn ka := rfl
def c_law : EV.St :=
  .seq (.set 1 (.lst (.cons (.call f_l_stream (.cons (.var 0) (.nil))) (.cons (.int 0) (.nil))))) (.seq (.set 2 (.callS f_l_maps 1 (.cons (.int 4) (.nil)))) (.seq (.set 3 (.callS f_l_letters 1 (.cons (.cb .len (.cons (.var 2) (.nil))) (.nil)))) (.seq (.fz 2 (.set 4 (.call f_l_elements (.cons (.var 2) (.cons (.int 40) (.nil)))))) (.seq (.iff (.te (.op .gt (.cb .len (.cons (.var 4) (.nil))) (.int 40))) (.ret (.bl true)) (.nx)) (.seq (.fz 2 (.fz 3 (.set 5 (.call f_l_table (.cons (.var 3) (.cons (.var 2) (.nil))))))) (.seq (.for (.rng1 (.int 4)) (.nm 6) b_law_5) (.seq (.for (.rng1 (.int 4)) (.nm 6) b_law_1) (.seq (.fz 5 (.set 7 (.call f_least_logs (.cons (.var 5) (.nil))))) (.seq (.fz 2 (.fz 3 (.iff (.te (.op .ne (.cb .repr (.cons (.var 7) (.nil))) (.cb .repr (.cons (.call f_l_first_logs (.cons (.var 3) (.cons (.var 2) (.nil)))) (.nil))))) (.ret (.bl false)) (.nx)))) (.seq (.app 7 (.tup (.nil))) (.fz 5 (.fz 2 (.fz 3 (.ret (.op .eq (.cb .repr (.cons (.call f_least_logs (.cons (.var 5) (.nil))) (.nil))) (.cb .repr (.cons (.call f_l_first_logs (.cons (.var 3) (.cons (.var 2) (.nil)))) (.nil))))))))))))))))))
theorem u_c_law {β : Type} (ps : List Nat) (ρ : Rho) (kn : Rho → Option β) (ka : Out → Option β) : xS ps c_law ρ kn ka = xS ps (.seq (.set 1 (.lst (.cons (.call f_l_stream (.cons (.var 0) (.nil))) (.cons (.int 0) (.nil))))) (.seq (.set 2 (.callS f_l_maps 1 (.cons (.int 4) (.nil)))) (.seq (.set 3 (.callS f_l_letters 1 (.cons (.cb .len (.cons (.var 2) (.nil))) (.nil)))) (.seq (.fz 2 (.set 4 (.call f_l_elements (.cons (.var 2) (.cons (.int 40) (.nil)))))) (.seq (.iff (.te (.op .gt (.cb .len (.cons (.var 4) (.nil))) (.int 40))) (.ret (.bl true)) (.nx)) (.seq (.fz 2 (.fz 3 (.set 5 (.call f_l_table (.cons (.var 3) (.cons (.var 2) (.nil))))))) (.seq (.for (.rng1 (.int 4)) (.nm 6) b_law_5) (.seq (.for (.rng1 (.int 4)) (.nm 6) b_law_1) (.seq (.fz 5 (.set 7 (.call f_least_logs (.cons (.var 5) (.nil))))) (.seq (.fz 2 (.fz 3 (.iff (.te (.op .ne (.cb .repr (.cons (.var 7) (.nil))) (.cb .repr (.cons (.call f_l_first_logs (.cons (.var 3) (.cons (.var 2) (.nil)))) (.nil))))) (.ret (.bl false)) (.nx)))) (.seq (.app 7 (.tup (.nil))) (.fz 5 (.fz 2 (.fz 3 (.ret (.op .eq (.cb .repr (.cons (.call f_least_logs (.cons (.var 5) (.nil))) (.nil))) (.cb .repr (.cons (.call f_l_first_logs (.cons (.var 3) (.cons (.var 2) (.nil)))) (.nil))))))))))))))))))) ρ kn ka := rfl
def f_law : List D → Option RetV := runD c_law 1 14
theorem x_law (d0 : D) : f_law [d0] = xS [] c_law [.dat d0, .no, .no, .no, .no, .no, .no, .no, .no, .no, .no, .no, .no, .no] (fun _ => some (.dat .none)) out1 := runD_x rfl
end CS

namespace K16
open PySem PySem.Spec PyProof.Rows L2 DL EV CS
def topS (i : Nat) : Stmt := PySem.Challenge.pw_scarp_k16_values_of_logs.main.body.getD i (.Pass ⟨0, 0, 0, 0⟩)
structure Txt (K : PySem.W.Frag) (mg : Str → Option Value) (fA : Nat → Addr) (fD : Nat → FuncData) (cA : Nat → Addr) : Prop where
  F_times : Fun K "times" "times" (topS 1) (fA 1) (fD 1)
  g_times : mg "times" = some (.ref (fA 1))
  b_times : Binds K (fD 1) ["table", "first", "second"] []
  F_element_of : Fun K "element_of" "element_of" (topS 2) (fA 2) (fD 2)
  g_element_of : mg "element_of" = some (.ref (fA 2))
  b_element_of : Binds K (fD 2) ["table", "letter"] []
  F_value_of : Fun K "value_of" "value_of" (topS 3) (fA 3) (fD 3)
  g_value_of : mg "value_of" = some (.ref (fA 3))
  b_value_of : Binds K (fD 3) ["table", "log"] []
  F_least_logs : Fun K "least_logs" "least_logs" (topS 4) (fA 4) (fD 4)
  g_least_logs : mg "least_logs" = some (.ref (fA 4))
  b_least_logs : Binds K (fD 4) ["table"] []
  F_l_stream : Fun K "_law_stream" "_law_stream" (topS 6) (fA 6) (fD 6)
  g_l_stream : mg "_law_stream" = some (.ref (fA 6))
  b_l_stream : Binds K (fD 6) ["script"] []
  F_l_next : Fun K "_law_next" "_law_next" (topS 7) (fA 7) (fD 7)
  g_l_next : mg "_law_next" = some (.ref (fA 7))
  b_l_next : Binds K (fD 7) ["state", "many"] []
  F_l_word : Fun K "_law_word" "_law_word" (topS 8) (fA 8) (fD 8)
  g_l_word : mg "_law_word" = some (.ref (fA 8))
  b_l_word : Binds K (fD 8) ["state", "taken"] []
  F_l_letters : Fun K "_law_letters" "_law_letters" (topS 9) (fA 9) (fD 9)
  g_l_letters : mg "_law_letters" = some (.ref (fA 9))
  b_l_letters : Binds K (fD 9) ["state", "many"] []
  F_l_map : Fun K "_law_map" "_law_map" (topS 10) (fA 10) (fD 10)
  g_l_map : mg "_law_map" = some (.ref (fA 10))
  b_l_map : Binds K (fD 10) ["state", "kind", "rooms"] []
  F_l_maps : Fun K "_law_maps" "_law_maps" (topS 11) (fA 11) (fD 11)
  g_l_maps : mg "_law_maps" = some (.ref (fA 11))
  b_l_maps : Binds K (fD 11) ["state", "most"] []
  F_l_same_as : Fun K "_law_same_as" "_law_same_as" (topS 12) (fA 12) (fD 12)
  g_l_same_as : mg "_law_same_as" = some (.ref (fA 12))
  b_l_same_as : Binds K (fD 12) ["one", "other"] []
  F_l_elements : Fun K "_law_elements" "_law_elements" (topS 13) (fA 13) (fD 13)
  g_l_elements : mg "_law_elements" = some (.ref (fA 13))
  b_l_elements : Binds K (fD 13) ["maps", "most"] []
  F_l_table : Fun K "_law_table" "_law_table" (topS 14) (fA 14) (fD 14)
  g_l_table : mg "_law_table" = some (.ref (fA 14))
  b_l_table : Binds K (fD 14) ["letters", "maps"] []
  F_l_first_logs : Fun K "_law_first_logs" "_law_first_logs" (topS 15) (fA 15) (fD 15)
  g_l_first_logs : mg "_law_first_logs" = some (.ref (fA 15))
  b_l_first_logs : Binds K (fD 15) ["letters", "maps"] []
  F_l_value : Fun K "_law_value" "_law_value" (topS 16) (fA 16) (fD 16)
  g_l_value : mg "_law_value" = some (.ref (fA 16))
  b_l_value : Binds K (fD 16) ["found", "letters", "maps", "log"] []
  F_law : Fun K "law" "law" (topS 17) (fA 17) (fD 17)
  g_law : mg "law" = some (.ref (fA 17))
  b_law : Binds K (fD 17) ["script"] []
  n_abs : mg "abs" = none
  n_enumerate : mg "enumerate" = none
  n_int : mg "int" = none
  n_len : mg "len" = none
  n_list : mg "list" = none
  n_range : mg "range" = none
  n_repr : mg "repr" = none
  n_sorted : mg "sorted" = none
  n_tuple : mg "tuple" = none
section
variable {P : Program} {w : World} {K : PySem.W.Frag} {mg : Str → Option Value} {base : Heap} {fA : Nat → Addr} {fD : Nat → FuncData} {cA : Nat → Addr}
abbrev stimes : Stmt := topS 1
theorem sctimes : FnScope ["table", "first", "second"] ["table", "first", "second"] (defScope stimes) := ⟨rfl, rfl, rfl, by decide +kernel, rfl, by decide +kernel, by decide +kernel⟩
def tmtimes (K : PySem.W.Frag) : TS :=
  tSeq (tIfS (tTest (tOp (opK K .eq) (tVar 1) (tUn (rU fun i => .int (-i)) (tC (.int 1))))) (tRet (tVar 2)) (tNext)) (tSeq (tIfS (tTest (tOp (opK K .eq) (tVar 2) (tUn (rU fun i => .int (-i)) (tC (.int 1))))) (tRet (tVar 1)) (tNext)) (tRet (tOp (opK K .ix) (tOp (opK K .ix) (tOp (opK K .ix) (tVar 0) (tC (.int 2))) (tVar 1)) (tVar 2))))
theorem dntimes (K : PySem.W.Frag) : denS K c_times = tmtimes K := rfl
theorem httimes (T : Txt K mg fA fD cA)  (cdv : Value) (A : Around) (outer : List PySem.Env) (s : Shared) (H : Hp) (E : XK) (hr : Room 0 (A.deeper (envOfC "times" (defScope stimes) s.heap.objs.size (fA 1) cdv))) :
    PSs ((cxOf CX0 P w K mg base ["table", "first", "second"] "times" (defScope stimes) (fA 1) cdv A outer s H E).nox) (defBody stimes) (tmtimes K) :=
  pss_cons (ps_if (pt_cmpR (opr_eq hr.units) (pv 1) (pe_un un_neg (pe_int)) (nomark _)) (pss_one (ps_ret (pv 2))) (pss_nil))
    (pss_cons (ps_if (pt_cmpR (opr_eq hr.units) (pv 2) (pe_un un_neg (pe_int)) (nomark _)) (pss_one (ps_ret (pv 1))) (pss_nil))
    (pss_one (ps_ret (pe_ix ix_seq (pe_ix ix_seq (pe_ix ix_seq (pv 0) (pe_int) (fun _ _ => rfl)) (pv 1) (fun _ _ => rfl)) (pv 2) (fun _ _ => rfl)))))
theorem oktimes (T : Txt K mg fA fD cA) : FnOk P w K mg base CX0 1 (fA 1) (fD 1) ["table", "first", "second"] (spD (fun ds r => f_times ds = some r) K) :=
  def_D T.F_times sctimes (fun _ _ h => len_D h) (t := denS K c_times) (fun cdv A outer s H E hr => (dntimes K) ▸ httimes T  cdv A outer s H E hr) (fun _ _ h => run_D h)
abbrev selement_of : Stmt := topS 2
theorem scelement_of : FnScope ["table", "letter"] ["table", "letter"] (defScope selement_of) := ⟨rfl, rfl, rfl, by decide +kernel, rfl, by decide +kernel, by decide +kernel⟩
def tmelement_of (K : PySem.W.Frag) : TS :=
  tRet (tOp (opK K .ix) (tOp (opK K .ix) (tVar 0) (tC (.int 1))) (tBMX K (rTIx K) (tOp (opK K .ix) (tVar 0) (tC (.int 0))) (tCons (tVar 1) (tNil))))
theorem dnelement_of (K : PySem.W.Frag) : denS K c_element_of = tmelement_of K := rfl
theorem htelement_of (T : Txt K mg fA fD cA)  (cdv : Value) (A : Around) (outer : List PySem.Env) (s : Shared) (H : Hp) (E : XK) (hr : Room 0 (A.deeper (envOfC "element_of" (defScope selement_of) s.heap.objs.size (fA 2) cdv))) :
    PSs ((cxOf CX0 P w K mg base ["table", "letter"] "element_of" (defScope selement_of) (fA 2) cdv A outer s H E).nox) (defBody selement_of) (tmelement_of K) :=
  pss_one (ps_ret (pe_ix ix_seq (pe_ix ix_seq (pv 0) (pe_int) (fun _ _ => rfl)) (pe_bmX PySem.F.plainAttrs_tuple PySem.F.slot_tuple_index PySem.F.type_tuple_index mt_tix (pe_ix ix_seq (pv 0) (pe_int) (fun _ _ => rfl)) (pa_cons (pv 1) (pa_nil))) (fun _ _ => rfl)))
theorem okelement_of (T : Txt K mg fA fD cA) : FnOk P w K mg base CX0 1 (fA 2) (fD 2) ["table", "letter"] (spD (fun ds r => f_element_of ds = some r) K) :=
  def_D T.F_element_of scelement_of (fun _ _ h => len_D h) (t := denS K c_element_of) (fun cdv A outer s H E hr => (dnelement_of K) ▸ htelement_of T  cdv A outer s H E hr) (fun _ _ h => run_D h)
abbrev svalue_of : Stmt := topS 3
theorem scvalue_of : FnScope ["table", "log", "value", "letter"] ["table", "log"] (defScope svalue_of) := ⟨rfl, rfl, rfl, by decide +kernel, rfl, by decide +kernel, by decide +kernel⟩
def tmvalue_of (K : PySem.W.Frag) : TS :=
  tSeq (tAsg (tUn (rU fun i => .int (-i)) (tC (.int 1))) (gName 2)) (tSeq (tFor (uIter K (tVar 1)) (gName 3) (tAsg (tCall (spD (fun ds r => f_times ds = some r) K) [] E0 (tCons (tVar 0) (tCons (tVar 2) (tCons (tCall (spD (fun ds r => f_element_of ds = some r) K) [] E0 (tCons (tVar 0) (tCons (tVar 3) (tNil)))) (tNil))))) (gName 2))) (tRet (tVar 2)))
theorem dnvalue_of (K : PySem.W.Frag) : denS K c_value_of = tmvalue_of K := rfl
theorem htvalue_of (T : Txt K mg fA fD cA) (G_times : FnOk P w K mg base CX0 1 (fA 1) (fD 1) ["table", "first", "second"] (spD (fun ds r => f_times ds = some r) K)) (G_element_of : FnOk P w K mg base CX0 1 (fA 2) (fD 2) ["table", "letter"] (spD (fun ds r => f_element_of ds = some r) K)) (cdv : Value) (A : Around) (outer : List PySem.Env) (s : Shared) (H : Hp) (E : XK) (hr : Room 1 (A.deeper (envOfC "value_of" (defScope svalue_of) s.heap.objs.size (fA 3) cdv))) :
    PSs ((cxOf CX0 P w K mg base ["table", "log", "value", "letter"] "value_of" (defScope svalue_of) (fA 3) cdv A outer s H E).nox) (defBody svalue_of) (tmvalue_of K) :=
  pss_cons (ps_set (i := 2) scvalue_of.nd rfl (by first | exact Or.inl rfl | exact Or.inr rfl) (pe_un un_neg (pe_int)))
    (pss_cons (ps_for PassesOwn.never rfl (pi_u (pv 1)) (pg_name (i := 3) scvalue_of.nd rfl (by first | exact Or.inl rfl | exact Or.inr rfl))
    (pss_one (ps_set (i := 2) scvalue_of.nd rfl (by first | exact Or.inl rfl | exact Or.inr rfl) (pe_call G_times (hr.mono (by decide)) (by rfl) T.g_times T.F_times.kp T.b_times .nil pass0 (pa_cons (pv 0) (pa_cons (pv 2) (pa_cons (pe_call G_element_of (hr.mono (by decide)) (by rfl) T.g_element_of T.F_element_of.kp T.b_element_of .nil pass0 (pa_cons (pv 0) (pa_cons (pv 3) (pa_nil)))) (pa_nil))))))))
    (pss_one (ps_ret (pv 2))))
theorem okvalue_of (T : Txt K mg fA fD cA) : FnOk P w K mg base CX0 2 (fA 3) (fD 3) ["table", "log"] (spD (fun ds r => f_value_of ds = some r) K) :=
  def_D T.F_value_of scvalue_of (fun _ _ h => len_D h) (t := denS K c_value_of) (fun cdv A outer s H E hr => (dnvalue_of K) ▸ htvalue_of T (oktimes T) (okelement_of T) cdv A outer s H E hr) (fun _ _ h => run_D h)
abbrev sleast_logs : Stmt := topS 4
theorem scleast_logs : FnScope ["table", "logs", "letters", "firsts", "products", "at", "letter", "element", "row"] ["table"] (defScope sleast_logs) := ⟨rfl, rfl, rfl, by decide +kernel, rfl, by decide +kernel, by decide +kernel⟩
def tmleast_logs (K : PySem.W.Frag) : TS :=
  tSeq (tAsg (tVar 0) (gTup K 3 (gCons (gName 2) (gCons (gName 3) (gCons (gName 4) (gNil)))))) (tSeq (tAsg tDNewK (gName 1)) (tSeq (tFor (iEnT K (tCons (tVar 2) tNil)) (gTup K 2 (gCons (gName 5) (gCons (gName 6) (gNil)))) (tDrop (tDSetd (tVar 1) (tOp (opK K .ix) (tVar 3) (tVar 5)) (tTupX (tCons (tVar 6) (tNil)))))) (tSeq (tFor (iEnT K (tCons (tVar 4) tNil)) (gTup K 2 (gCons (gName 7) (gCons (gName 8) (gNil)))) (tFor (iEnT K (tCons (tVar 2) tNil)) (gTup K 2 (gCons (gName 5) (gCons (gName 6) (gNil)))) (tDrop (tDSetd (tVar 1) (tOp (opK K .ix) (tVar 8) (tOp (opK K .ix) (tVar 3) (tVar 5))) (tOp (opK K .add) (tDGet (tVar 1) (tVar 7)) (tTupX (tCons (tVar 6) (tNil)))))))) (tRet (tLc (iRng1 (tCons (tCB (bfK K .len) (tCons (tVar 4) (tNil))) (tNil))) (gName 7) (tYes) (tDGet (tVar 1) (tVar 7)) [7])))))
theorem dnleast_logs (K : PySem.W.Frag) : denS K c_least_logs = tmleast_logs K := rfl
theorem htleast_logs (T : Txt K mg fA fD cA)  (cdv : Value) (A : Around) (outer : List PySem.Env) (s : Shared) (H : Hp) (E : XK) (hr : Room 0 (A.deeper (envOfC "least_logs" (defScope sleast_logs) s.heap.objs.size (fA 4) cdv))) :
    PSs ((cxOf CX0 P w K mg base ["table", "logs", "letters", "firsts", "products", "at", "letter", "element", "row"] "least_logs" (defScope sleast_logs) (fA 4) cdv A outer s H E).nox) (defBody sleast_logs) (tmleast_logs K) :=
  pss_cons (ps_asg (pv 0) (pg_tup rfl (pgs_cons (pg_name (i := 2) scleast_logs.nd rfl (by first | exact Or.inl rfl | exact Or.inr rfl)) (pgs_cons (pg_name (i := 3) scleast_logs.nd rfl (by first | exact Or.inl rfl | exact Or.inr rfl)) (pgs_cons (pg_name (i := 4) scleast_logs.nd rfl (by first | exact Or.inl rfl | exact Or.inr rfl)) (pgs_nil))))))
    (pss_cons (ps_set (i := 1) scleast_logs.nd rfl (by first | exact Or.inl rfl | exact Or.inr rfl) (pe_dnewK))
    (pss_cons (ps_for PassesOwn.never rfl (pi_enumT (by rfl) T.n_enumerate (pa_cons (pv 2) pa_nil)) (pg_tup rfl (pgs_cons (pg_name (i := 5) scleast_logs.nd rfl (by first | exact Or.inl rfl | exact Or.inr rfl)) (pgs_cons (pg_name (i := 6) scleast_logs.nd rfl (by first | exact Or.inl rfl | exact Or.inr rfl)) (pgs_nil))))
    (pss_one (ps_expr (pe_dsetd (pv 1) (pe_ix ix_seq (pv 3) (pv 5) (fun _ _ => rfl)) (pe_tupX (pa_cons (pv 6) (pa_nil))) ⟨rfl, rfl, rfl, rfl⟩))))
    (pss_cons (ps_for PassesOwn.never rfl (pi_enumT (by rfl) T.n_enumerate (pa_cons (pv 4) pa_nil)) (pg_tup rfl (pgs_cons (pg_name (i := 7) scleast_logs.nd rfl (by first | exact Or.inl rfl | exact Or.inr rfl)) (pgs_cons (pg_name (i := 8) scleast_logs.nd rfl (by first | exact Or.inl rfl | exact Or.inr rfl)) (pgs_nil))))
    (pss_one (ps_for PassesOwn.never rfl (pi_enumT (by rfl) T.n_enumerate (pa_cons (pv 2) pa_nil)) (pg_tup rfl (pgs_cons (pg_name (i := 5) scleast_logs.nd rfl (by first | exact Or.inl rfl | exact Or.inr rfl)) (pgs_cons (pg_name (i := 6) scleast_logs.nd rfl (by first | exact Or.inl rfl | exact Or.inr rfl)) (pgs_nil))))
    (pss_one (ps_expr (pe_dsetd (pv 1) (pe_ix ix_seq (pv 8) (pe_ix ix_seq (pv 3) (pv 5) (fun _ _ => rfl)) (fun _ _ => rfl)) (pe_op opr_add (pe_dget (hu_of hr) (pv 1) (pv 7) (fun _ _ => rfl)) (pe_tupX (pa_cons (pv 6) (pa_nil)))) ⟨rfl, rfl, rfl, rfl⟩))))))
    (pss_one (ps_ret (pe_lc (own := [("element", 7)]) (g := gName 7) (tt := tYes) rfl scleast_logs.nd (pi_range1 (by rfl) T.n_range (pa_cons (pe_callB cf_len (by rfl) T.n_len PySem.boot_len (pa_cons (pv 4) (pa_nil))) (pa_nil))) (blkOk_by (N := ["table", "logs", "letters", "firsts", "products", "at", "letter", "element", "row"]) (sc := defScope sleast_logs) (by decide +kernel)) (fun _ _ _ _ _ => pg_name (i := 7) scleast_logs.nd rfl (by first | exact Or.inl rfl | exact Or.inr rfl)) (fun _ _ _ _ _ => pts_nil) (fun _ _ _ _ _ => pe_dget (hu_of hr) (pv 1) (pv 7) (fun _ _ => rfl))))))))
theorem okleast_logs (T : Txt K mg fA fD cA) : FnOk P w K mg base CX0 1 (fA 4) (fD 4) ["table"] (spD (fun ds r => f_least_logs ds = some r) K) :=
  def_D T.F_least_logs scleast_logs (fun _ _ h => len_D h) (t := denS K c_least_logs) (fun cdv A outer s H E hr => (dnleast_logs K) ▸ htleast_logs T  cdv A outer s H E hr) (fun _ _ h => run_D h)
abbrev sl_stream : Stmt := topS 6
theorem scl_stream : FnScope ["script", "numbers", "cell", "rest", "k", "mixed"] ["script"] (defScope sl_stream) := ⟨rfl, rfl, rfl, by decide +kernel, rfl, by decide +kernel, by decide +kernel⟩
def tml_stream (K : PySem.W.Frag) : TS :=
  tSeq (tAsg (tLst (tNil)) (gName 1)) (tSeq (tFor (uIter K (tSl (rSlU K) (tVar 0) (tNoPart) (tPart (tC (.int 63))))) (gName 2) (tSeq (tAsg (tCB (bfK K .abs) (tCons (tCB (bfK K .int) (tCons (tVar 2) (tNil))) (tNil))) (gName 3)) (tIfS (tTest (tOp (opK K .ge) (tVar 3) (tOp (opK K .pow) (tC (.int 10)) (tC (.int 18))))) (tFor (iRng1 (tCons (tC (.int 60)) (tNil))) (gName 4) (tSeq (tDrop (tBM K "list" rAppend (tVar 1) (tCons (tOp (opK K .mod) (tCB (bfK K .int) (tCons (tVar 3) (tNil))) (tC (.int 1009))) tNil))) (tSeq (tAsg (tOp (opK K .fdiv) (tVar 3) (tC (.int 1009))) (gName 3)) (tIfS (tTest (tOp (opK K .eq) (tVar 3) (tC (.int 0)))) (tBreak) (tNext))))) (tSeq (tAsg (tOp (opK K .mod) (tCB (bfK K .int) (tCons (tVar 3) (tNil))) (tC (.int 2147483647))) (gName 5)) (tFor (iRng1 (tCons (tC (.int 10)) (tNil))) (gName 4) (tSeq (tAsg (tOp (opK K .mod) (tCB (bfK K .int) (tCons (tOp (opK K .add) (tOp (opK K .add) (tOp (opK K .mul) (tVar 5) (tC (.int 48271))) (tOp (opK K .mul) (tC (.int 7)) (tVar 4))) (tC (.int 11))) (tNil))) (tC (.int 2147483647))) (gName 5)) (tDrop (tBM K "list" rAppend (tVar 1) (tCons (tOp (opK K .mod) (tOp (opK K .mod) (tCB (bfK K .int) (tCons (tOp (opK K .add) (tOp (opK K .mul) (tVar 5) (tC (.int 69621))) (tVar 4)) (tNil))) (tC (.int 2147483629))) (tC (.int 1009))) tNil))))))))) (tSeq (tIfS (tTest (tOp (opK K .eq) (tCB (bfK K .len) (tCons (tVar 1) (tNil))) (tC (.int 0)))) (tDrop (tBM K "list" rAppend (tVar 1) (tCons (tC (.int 0)) tNil))) (tNext)) (tRet (tVar 1))))
theorem dnl_stream (K : PySem.W.Frag) : denS K c_l_stream = tml_stream K := rfl
theorem htl_stream (T : Txt K mg fA fD cA)  (cdv : Value) (A : Around) (outer : List PySem.Env) (s : Shared) (H : Hp) (E : XK) (hr : Room 0 (A.deeper (envOfC "_law_stream" (defScope sl_stream) s.heap.objs.size (fA 6) cdv))) :
    PSs ((cxOf CX0 P w K mg base ["script", "numbers", "cell", "rest", "k", "mixed"] "_law_stream" (defScope sl_stream) (fA 6) cdv A outer s H E).nox) (defBody sl_stream) (tml_stream K) :=
  pss_cons (ps_set (i := 1) scl_stream.nd rfl (by first | exact Or.inl rfl | exact Or.inr rfl) (pe_lst (pa_nil)))
    (pss_cons (ps_for PassesOwn.never rfl (pi_u (pe_slice sl_u (pv 0) (po_none) (po_some (pe_int)))) (pg_name (i := 2) scl_stream.nd rfl (by first | exact Or.inl rfl | exact Or.inr rfl))
    (pss_cons (ps_set (i := 3) scl_stream.nd rfl (by first | exact Or.inl rfl | exact Or.inr rfl) (pe_callB cf_abs (by rfl) T.n_abs (by decide +kernel) (pa_cons (pe_callTy cf_int (by rfl) T.n_int (by decide +kernel) (pa_cons (pv 2) (pa_nil))) (pa_nil))))
    (pss_one (ps_if (pt_cmpR opr_ge (pv 3) (pe_op opr_pow (pe_int) (pe_int)) (nomark _)) (pss_one (ps_for PassesOwn.never rfl (pi_range1 (by rfl) T.n_range (pa_cons (pe_int) (pa_nil))) (pg_name (i := 4) scl_stream.nd rfl (by first | exact Or.inl rfl | exact Or.inr rfl))
    (pss_cons (ps_expr (pe_bm PySem.F.plainAttrs_list PySem.F.slot_list_append PySem.F.type_list_append mt_append (pv 1) (pa_cons (pe_op opr_mod (pe_callTy cf_int (by rfl) T.n_int (by decide +kernel) (pa_cons (pv 3) (pa_nil))) (pe_int)) pa_nil)))
    (pss_cons (ps_set (i := 3) scl_stream.nd rfl (by first | exact Or.inl rfl | exact Or.inr rfl) (pe_op opr_fdiv (pv 3) (pe_int)))
    (pss_one (ps_if (pt_cmpR (opr_eq hr.units) (pv 3) (pe_int) (nomark _)) (pss_one (ps_break)) (pss_nil))))))) (pss_cons (ps_set (i := 5) scl_stream.nd rfl (by first | exact Or.inl rfl | exact Or.inr rfl) (pe_op opr_mod (pe_callTy cf_int (by rfl) T.n_int (by decide +kernel) (pa_cons (pv 3) (pa_nil))) (pe_int)))
    (pss_one (ps_for PassesOwn.never rfl (pi_range1 (by rfl) T.n_range (pa_cons (pe_int) (pa_nil))) (pg_name (i := 4) scl_stream.nd rfl (by first | exact Or.inl rfl | exact Or.inr rfl))
    (pss_cons (ps_set (i := 5) scl_stream.nd rfl (by first | exact Or.inl rfl | exact Or.inr rfl) (pe_op opr_mod (pe_callTy cf_int (by rfl) T.n_int (by decide +kernel) (pa_cons (pe_op opr_add (pe_op opr_add (pe_op opr_mul (pv 5) (pe_int)) (pe_op opr_mul (pe_int) (pv 4))) (pe_int)) (pa_nil))) (pe_int)))
    (pss_one (ps_expr (pe_bm PySem.F.plainAttrs_list PySem.F.slot_list_append PySem.F.type_list_append mt_append (pv 1) (pa_cons (pe_op opr_mod (pe_op opr_mod (pe_callTy cf_int (by rfl) T.n_int (by decide +kernel) (pa_cons (pe_op opr_add (pe_op opr_mul (pv 5) (pe_int)) (pv 4)) (pa_nil))) (pe_int)) (pe_int)) pa_nil))))))))))))
    (pss_cons (ps_if (pt_cmpR (opr_eq hr.units) (pe_callB cf_len (by rfl) T.n_len PySem.boot_len (pa_cons (pv 1) (pa_nil))) (pe_int) (nomark _)) (pss_one (ps_expr (pe_bm PySem.F.plainAttrs_list PySem.F.slot_list_append PySem.F.type_list_append mt_append (pv 1) (pa_cons (pe_int) pa_nil)))) (pss_nil))
    (pss_one (ps_ret (pv 1)))))
theorem okl_stream (T : Txt K mg fA fD cA) : FnOk P w K mg base CX0 1 (fA 6) (fD 6) ["script"] (spD (fun ds r => f_l_stream ds = some r) K) :=
  def_D T.F_l_stream scl_stream (fun _ _ h => len_D h) (t := denS K c_l_stream) (fun cdv A outer s H E hr => (dnl_stream K) ▸ htl_stream T  cdv A outer s H E hr) (fun _ _ h => run_D h)
abbrev sl_next : Stmt := topS 7
theorem scl_next : FnScope ["state", "many", "turn"] ["state", "many"] (defScope sl_next) := ⟨rfl, rfl, rfl, by decide +kernel, rfl, by decide +kernel, by decide +kernel⟩
def tml_next (K : PySem.W.Frag) : TS :=
  tSeq (tAsg (tOp (opK K .add) (tOp (opK K .ix) (tVar 0) (tC (.int 1))) (tC (.int 1))) (gSub (tVar 0) (tC (.int 1)) rSetL)) (tSeq (tAsg (tOp (opK K .fdiv) (tOp (opK K .ix) (tVar 0) (tC (.int 1))) (tCB (bfK K .len) (tCons (tOp (opK K .ix) (tVar 0) (tC (.int 0))) (tNil)))) (gName 2)) (tRet (tOp (opK K .mod) (tCB (bfK K .int) (tCons (tOp (opK K .add) (tOp (opK K .add) (tOp (opK K .ix) (tOp (opK K .ix) (tVar 0) (tC (.int 0))) (tOp (opK K .mod) (tOp (opK K .ix) (tVar 0) (tC (.int 1))) (tCB (bfK K .len) (tCons (tOp (opK K .ix) (tVar 0) (tC (.int 0))) (tNil))))) (tOp (opK K .mul) (tVar 2) (tC (.int 389)))) (tOp (opK K .mul) (tOp (opK K .mul) (tOp (opK K .ix) (tVar 0) (tC (.int 1))) (tVar 2)) (tC (.int 17)))) (tNil))) (tVar 1))))
theorem dnl_next (K : PySem.W.Frag) : denS K c_l_next = tml_next K := rfl
theorem htl_next (T : Txt K mg fA fD cA)  (cdv : Value) (A : Around) (outer : List PySem.Env) (s : Shared) (H : Hp) (E : XK) (hr : Room 0 (A.deeper (envOfC "_law_next" (defScope sl_next) s.heap.objs.size (fA 7) cdv))) :
    PSs ((cxOf CX0 P w K mg base ["state", "many", "turn"] "_law_next" (defScope sl_next) (fA 7) cdv A outer s H E).nox) (defBody sl_next) (tml_next K) :=
  pss_cons (ps_asg (pe_op opr_add (pe_ix ix_seq (pv 0) (pe_int) (fun _ _ => rfl)) (pe_int)) (pg_sub (pv 0) (pe_int) set_list))
    (pss_cons (ps_set (i := 2) scl_next.nd rfl (by first | exact Or.inl rfl | exact Or.inr rfl) (pe_op opr_fdiv (pe_ix ix_seq (pv 0) (pe_int) (fun _ _ => rfl)) (pe_callB cf_len (by rfl) T.n_len PySem.boot_len (pa_cons (pe_ix ix_seq (pv 0) (pe_int) (fun _ _ => rfl)) (pa_nil)))))
    (pss_one (ps_ret (pe_op opr_mod (pe_callTy cf_int (by rfl) T.n_int (by decide +kernel) (pa_cons (pe_op opr_add (pe_op opr_add (pe_ix ix_seq (pe_ix ix_seq (pv 0) (pe_int) (fun _ _ => rfl)) (pe_op opr_mod (pe_ix ix_seq (pv 0) (pe_int) (fun _ _ => rfl)) (pe_callB cf_len (by rfl) T.n_len PySem.boot_len (pa_cons (pe_ix ix_seq (pv 0) (pe_int) (fun _ _ => rfl)) (pa_nil)))) (fun _ _ => rfl)) (pe_op opr_mul (pv 2) (pe_int))) (pe_op opr_mul (pe_op opr_mul (pe_ix ix_seq (pv 0) (pe_int) (fun _ _ => rfl)) (pv 2)) (pe_int))) (pa_nil))) (pv 1)))))
theorem okl_next (T : Txt K mg fA fD cA) : FnOk P w K mg base CX0 1 (fA 7) (fD 7) ["state", "many"] (spS (fun st ds r st' => f_l_next st ds = some (r, st')) K) :=
  def_S T.F_l_next scl_next (fun _ _ _ _ h => len_S h) (t := denS K c_l_next) (fun cdv A outer s H E hr => (dnl_next K) ▸ htl_next T  cdv A outer s H E hr) (fun _ _ _ _ h => run_S h)
abbrev sl_word : Stmt := topS 8
theorem scl_word : FnScope ["state", "taken", "word", "k"] ["state", "taken"] (defScope sl_word) := ⟨rfl, rfl, rfl, by decide +kernel, rfl, by decide +kernel, by decide +kernel⟩
def tml_word (K : PySem.W.Frag) : TS :=
  tSeq (tAsg (tC (.str "")) (gName 2)) (tSeq (tFor (iRng1 (tCons (tOp (opK K .ix) (tLst (tCons (tC (.int 1)) (tCons (tC (.int 2)) (tCons (tOp (opK K .add) (tC (.int 1)) (tCall (spS (fun st ds r st' => f_l_next st ds = some (r, st')) K) [] E0 (tCons (tVar 0) (tCons (tC (.int 8)) (tNil))))) (tNil))))) (tCall (spS (fun st ds r st' => f_l_next st ds = some (r, st')) K) [] E0 (tCons (tVar 0) (tCons (tC (.int 3)) (tNil))))) (tNil))) (gName 3) (tAsg (tOp (opK K .add) (tVar 2) (tOp (opK K .ix) (tC (.str "abyz")) (tCall (spS (fun st ds r st' => f_l_next st ds = some (r, st')) K) [] E0 (tCons (tVar 0) (tCons (tC (.int 4)) (tNil)))))) (gName 2))) (tSeq (tIfS (tTest (tOp (opK K .isIn) (tVar 2) (tVar 1))) (tRet (tOp (opK K .add) (tC (.str "c")) (tOp (opK K .ix) (tC (.str "abcdefghijklmnopqrstuvwxyz")) (tCB (bfK K .len) (tCons (tVar 1) (tNil)))))) (tNext)) (tRet (tVar 2))))
theorem dnl_word (K : PySem.W.Frag) : denS K c_l_word = tml_word K := rfl
theorem htl_word (T : Txt K mg fA fD cA) (G_l_next : FnOk P w K mg base CX0 1 (fA 7) (fD 7) ["state", "many"] (spS (fun st ds r st' => f_l_next st ds = some (r, st')) K)) (cdv : Value) (A : Around) (outer : List PySem.Env) (s : Shared) (H : Hp) (E : XK) (hr : Room 1 (A.deeper (envOfC "_law_word" (defScope sl_word) s.heap.objs.size (fA 8) cdv))) :
    PSs ((cxOf CX0 P w K mg base ["state", "taken", "word", "k"] "_law_word" (defScope sl_word) (fA 8) cdv A outer s H E).nox) (defBody sl_word) (tml_word K) :=
  pss_cons (ps_set (i := 2) scl_word.nd rfl (by first | exact Or.inl rfl | exact Or.inr rfl) (pe_str))
    (pss_cons (ps_for PassesOwn.never rfl (pi_range1 (by rfl) T.n_range (pa_cons (pe_ix ix_seq (pe_lst (pa_cons (pe_int) (pa_cons (pe_int) (pa_cons (pe_op opr_add (pe_int) (pe_call G_l_next (hr.mono (by decide)) (by rfl) T.g_l_next T.F_l_next.kp T.b_l_next .nil pass0 (pa_cons (pv 0) (pa_cons (pe_int) (pa_nil))))) (pa_nil))))) (pe_call G_l_next (hr.mono (by decide)) (by rfl) T.g_l_next T.F_l_next.kp T.b_l_next .nil pass0 (pa_cons (pv 0) (pa_cons (pe_int) (pa_nil)))) (fun _ _ => rfl)) (pa_nil))) (pg_name (i := 3) scl_word.nd rfl (by first | exact Or.inl rfl | exact Or.inr rfl))
    (pss_one (ps_set (i := 2) scl_word.nd rfl (by first | exact Or.inl rfl | exact Or.inr rfl) (pe_op opr_add (pv 2) (pe_ix ix_seq (pe_str) (pe_call G_l_next (hr.mono (by decide)) (by rfl) T.g_l_next T.F_l_next.kp T.b_l_next .nil pass0 (pa_cons (pv 0) (pa_cons (pe_int) (pa_nil)))) (fun _ _ => rfl))))))
    (pss_cons (ps_if (pt_cmpR (opr_in (units65 hr)) (pv 2) (pv 1) rfl) (pss_one (ps_ret (pe_op opr_add (pe_str) (pe_ix ix_seq (pe_str) (pe_callB cf_len (by rfl) T.n_len PySem.boot_len (pa_cons (pv 1) (pa_nil))) (fun _ _ => rfl))))) (pss_nil))
    (pss_one (ps_ret (pv 2)))))
theorem okl_word (T : Txt K mg fA fD cA) : FnOk P w K mg base CX0 2 (fA 8) (fD 8) ["state", "taken"] (spS (fun st ds r st' => f_l_word st ds = some (r, st')) K) :=
  def_S T.F_l_word scl_word (fun _ _ _ _ h => len_S h) (t := denS K c_l_word) (fun cdv A outer s H E hr => (dnl_word K) ▸ htl_word T (okl_next T) cdv A outer s H E hr) (fun _ _ _ _ h => run_S h)
abbrev sl_letters : Stmt := topS 9
theorem scl_letters : FnScope ["state", "many", "found", "k"] ["state", "many"] (defScope sl_letters) := ⟨rfl, rfl, rfl, by decide +kernel, rfl, by decide +kernel, by decide +kernel⟩
def tml_letters (K : PySem.W.Frag) : TS :=
  tSeq (tAsg (tTupX (tNil)) (gName 2)) (tSeq (tFor (iRng1 (tCons (tVar 1) (tNil))) (gName 3) (tAsg (tOp (opK K .add) (tVar 2) (tTupX (tCons (tCall (spS (fun st ds r st' => f_l_word st ds = some (r, st')) K) [] E0 (tCons (tVar 0) (tCons (tVar 2) (tNil)))) (tNil)))) (gName 2))) (tRet (tVar 2)))
theorem dnl_letters (K : PySem.W.Frag) : denS K c_l_letters = tml_letters K := rfl
theorem htl_letters (T : Txt K mg fA fD cA) (G_l_word : FnOk P w K mg base CX0 2 (fA 8) (fD 8) ["state", "taken"] (spS (fun st ds r st' => f_l_word st ds = some (r, st')) K)) (cdv : Value) (A : Around) (outer : List PySem.Env) (s : Shared) (H : Hp) (E : XK) (hr : Room 2 (A.deeper (envOfC "_law_letters" (defScope sl_letters) s.heap.objs.size (fA 9) cdv))) :
    PSs ((cxOf CX0 P w K mg base ["state", "many", "found", "k"] "_law_letters" (defScope sl_letters) (fA 9) cdv A outer s H E).nox) (defBody sl_letters) (tml_letters K) :=
  pss_cons (ps_set (i := 2) scl_letters.nd rfl (by first | exact Or.inl rfl | exact Or.inr rfl) (pe_tupX (pa_nil)))
    (pss_cons (ps_for PassesOwn.never rfl (pi_range1 (by rfl) T.n_range (pa_cons (pv 1) (pa_nil))) (pg_name (i := 3) scl_letters.nd rfl (by first | exact Or.inl rfl | exact Or.inr rfl))
    (pss_one (ps_set (i := 2) scl_letters.nd rfl (by first | exact Or.inl rfl | exact Or.inr rfl) (pe_op opr_add (pv 2) (pe_tupX (pa_cons (pe_call G_l_word (hr.mono (by decide)) (by rfl) T.g_l_word T.F_l_word.kp T.b_l_word .nil pass0 (pa_cons (pv 0) (pa_cons (pv 2) (pa_nil)))) (pa_nil)))))))
    (pss_one (ps_ret (pv 2))))
theorem okl_letters (T : Txt K mg fA fD cA) : FnOk P w K mg base CX0 3 (fA 9) (fD 9) ["state", "many"] (spS (fun st ds r st' => f_l_letters st ds = some (r, st')) K) :=
  def_S T.F_l_letters scl_letters (fun _ _ _ _ h => len_S h) (t := denS K c_l_letters) (fun cdv A outer s H E hr => (dnl_letters K) ▸ htl_letters T (okl_word T) cdv A outer s H E hr) (fun _ _ _ _ h => run_S h)
abbrev sl_map : Stmt := topS 10
theorem scl_map : FnScope ["state", "kind", "rooms", "left", "found", "k", "room"] ["state", "kind", "rooms"] (defScope sl_map) := ⟨rfl, rfl, rfl, by decide +kernel, rfl, by decide +kernel, by decide +kernel⟩
def tml_map (K : PySem.W.Frag) : TS :=
  tSeq (tIfS (tTest (tOp (opK K .eq) (tVar 1) (tC (.int 0)))) (tRet (tCB (bfK K .tuple) (tCons (tLc (iRng1 (tCons (tVar 2) (tNil))) (gName 5) (tYes) (tCall (spS (fun st ds r st' => f_l_next st ds = some (r, st')) K) [] E0 (tCons (tVar 0) (tCons (tVar 2) (tNil)))) [5]) (tNil)))) (tNext)) (tSeq (tIfS (tTest (tOp (opK K .eq) (tVar 1) (tC (.int 1)))) (tRet (tCB (bfK K .tuple) (tCons (tCB (bfK K .sorted) (tCons (tLc (iRng1 (tCons (tVar 2) (tNil))) (gName 5) (tYes) (tCall (spS (fun st ds r st' => f_l_next st ds = some (r, st')) K) [] E0 (tCons (tVar 0) (tCons (tVar 2) (tNil)))) [5]) (tNil))) (tNil)))) (tNext)) (tSeq (tIfS (tTest (tOp (opK K .eq) (tVar 1) (tC (.int 2)))) (tSeq (tIfS (tTest (tOp (opK K .eq) (tCall (spS (fun st ds r st' => f_l_next st ds = some (r, st')) K) [] E0 (tCons (tVar 0) (tCons (tC (.int 3)) (tNil)))) (tC (.int 0)))) (tRet (tOp (opK K .mul) (tTupX (tCons (tCall (spS (fun st ds r st' => f_l_next st ds = some (r, st')) K) [] E0 (tCons (tVar 0) (tCons (tVar 2) (tNil)))) (tNil))) (tVar 2))) (tNext)) (tSeq (tAsg (tLstRg (tRg1 (tVar 2))) (gName 3)) (tRet (tCB (bfK K .tuple) (tCons (tLc (iRng1 (tCons (tVar 2) (tNil))) (gName 5) (tYes) (tBM K "list" rPopAt (tVar 3) (tCons (tCall (spS (fun st ds r st' => f_l_next st ds = some (r, st')) K) [] E0 (tCons (tVar 0) (tCons (tCB (bfK K .len) (tCons (tVar 3) (tNil))) (tNil)))) (tNil))) [5]) (tNil)))))) (tNext)) (tSeq (tIfS (tTest (tOp (opK K .eq) (tVar 1) (tC (.int 3)))) (tSeq (tAsg (tLstRg (tRg1 (tOp (opK K .sub) (tVar 2) (tC (.int 1))))) (gName 3)) (tSeq (tAsg (tLst (tNil)) (gName 4)) (tSeq (tFor (iRng1 (tCons (tOp (opK K .sub) (tVar 2) (tC (.int 1))) (tNil))) (gName 5) (tDrop (tBM K "list" rAppend (tVar 4) (tCons (tOp (opK K .ix) (tLst (tCons (tOp (opK K .sub) (tVar 2) (tC (.int 1))) (tCons (tBM K "list" rPopAt (tVar 3) (tCons (tCall (spS (fun st ds r st' => f_l_next st ds = some (r, st')) K) [] E0 (tCons (tVar 0) (tCons (tCB (bfK K .len) (tCons (tVar 3) (tNil))) (tNil)))) (tNil))) (tNil)))) (tCB (bfK K .int) (tCons (tOp (opK K .gt) (tCall (spS (fun st ds r st' => f_l_next st ds = some (r, st')) K) [] E0 (tCons (tVar 0) (tCons (tC (.int 3)) (tNil)))) (tC (.int 0))) (tNil)))) tNil)))) (tRet (tCB (bfK K .tuple) (tCons (tOp (opK K .add) (tVar 4) (tLst (tCons (tOp (opK K .sub) (tVar 2) (tC (.int 1))) (tNil)))) (tNil))))))) (tNext)) (tRet (tCB (bfK K .tuple) (tCons (tLc (iRng1 (tCons (tVar 2) (tNil))) (gName 6) (tYes) (tOp (opK K .add) (tVar 6) (tCall (spS (fun st ds r st' => f_l_next st ds = some (r, st')) K) [] E0 (tCons (tVar 0) (tCons (tOp (opK K .sub) (tVar 2) (tVar 6)) (tNil))))) [6]) (tNil)))))))
theorem dnl_map (K : PySem.W.Frag) : denS K c_l_map = tml_map K := rfl
theorem htl_map (T : Txt K mg fA fD cA) (G_l_next : FnOk P w K mg base CX0 1 (fA 7) (fD 7) ["state", "many"] (spS (fun st ds r st' => f_l_next st ds = some (r, st')) K)) (cdv : Value) (A : Around) (outer : List PySem.Env) (s : Shared) (H : Hp) (E : XK) (hr : Room 1 (A.deeper (envOfC "_law_map" (defScope sl_map) s.heap.objs.size (fA 10) cdv))) :
    PSs ((cxOf CX0 P w K mg base ["state", "kind", "rooms", "left", "found", "k", "room"] "_law_map" (defScope sl_map) (fA 10) cdv A outer s H E).nox) (defBody sl_map) (tml_map K) :=
  pss_cons (ps_if (pt_cmpR (opr_eq hr.units) (pv 1) (pe_int) (nomark _)) (pss_one (ps_ret (pe_callTy cf_tuple (by rfl) T.n_tuple (by decide +kernel) (pa_cons (pe_lc (own := [("k", 5)]) (g := gName 5) (tt := tYes) rfl scl_map.nd (pi_range1 (by rfl) T.n_range (pa_cons (pv 2) (pa_nil))) (blkOk_by (N := ["state", "kind", "rooms", "left", "found", "k", "room"]) (sc := defScope sl_map) (by decide +kernel)) (fun _ _ _ _ _ => pg_name (i := 5) scl_map.nd rfl (by first | exact Or.inl rfl | exact Or.inr rfl)) (fun _ _ _ _ _ => pts_nil) (fun _ _ _ _ _ => pe_call G_l_next (hr.mono (by decide)) (by rfl) T.g_l_next T.F_l_next.kp T.b_l_next .nil pass0 (pa_cons (pv 0) (pa_cons (pv 2) (pa_nil))))) (pa_nil))))) (pss_nil))
    (pss_cons (ps_if (pt_cmpR (opr_eq hr.units) (pv 1) (pe_int) (nomark _)) (pss_one (ps_ret (pe_callTy cf_tuple (by rfl) T.n_tuple (by decide +kernel) (pa_cons (pe_callB cf_sorted (by rfl) T.n_sorted (by decide +kernel) (pa_cons (pe_lc (own := [("k", 5)]) (g := gName 5) (tt := tYes) rfl scl_map.nd (pi_range1 (by rfl) T.n_range (pa_cons (pv 2) (pa_nil))) (blkOk_by (N := ["state", "kind", "rooms", "left", "found", "k", "room"]) (sc := defScope sl_map) (by decide +kernel)) (fun _ _ _ _ _ => pg_name (i := 5) scl_map.nd rfl (by first | exact Or.inl rfl | exact Or.inr rfl)) (fun _ _ _ _ _ => pts_nil) (fun _ _ _ _ _ => pe_call G_l_next (hr.mono (by decide)) (by rfl) T.g_l_next T.F_l_next.kp T.b_l_next .nil pass0 (pa_cons (pv 0) (pa_cons (pv 2) (pa_nil))))) (pa_nil))) (pa_nil))))) (pss_nil))
    (pss_cons (ps_if (pt_cmpR (opr_eq hr.units) (pv 1) (pe_int) (nomark _)) (pss_cons (ps_if (pt_cmpR (opr_eq hr.units) (pe_call G_l_next (hr.mono (by decide)) (by rfl) T.g_l_next T.F_l_next.kp T.b_l_next .nil pass0 (pa_cons (pv 0) (pa_cons (pe_int) (pa_nil)))) (pe_int) (nomark _)) (pss_one (ps_ret (pe_op opr_mul (pe_tupX (pa_cons (pe_call G_l_next (hr.mono (by decide)) (by rfl) T.g_l_next T.F_l_next.kp T.b_l_next .nil pass0 (pa_cons (pv 0) (pa_cons (pv 2) (pa_nil)))) (pa_nil))) (pv 2)))) (pss_nil))
    (pss_cons (ps_set (i := 3) scl_map.nd rfl (by first | exact Or.inl rfl | exact Or.inr rfl) (pe_listRg rfl (by rfl) T.n_list (prg_1 (by rfl) T.n_range (pv 2))))
    (pss_one (ps_ret (pe_callTy cf_tuple (by rfl) T.n_tuple (by decide +kernel) (pa_cons (pe_lc (own := [("k", 5)]) (g := gName 5) (tt := tYes) rfl scl_map.nd (pi_range1 (by rfl) T.n_range (pa_cons (pv 2) (pa_nil))) (blkOk_by (N := ["state", "kind", "rooms", "left", "found", "k", "room"]) (sc := defScope sl_map) (by decide +kernel)) (fun _ _ _ _ _ => pg_name (i := 5) scl_map.nd rfl (by first | exact Or.inl rfl | exact Or.inr rfl)) (fun _ _ _ _ _ => pts_nil) (fun _ _ _ _ _ => pe_bm PySem.F.plainAttrs_list PySem.F.slot_list_pop PySem.F.type_list_pop mt_popAt (pv 3) (pa_cons (pe_call G_l_next (hr.mono (by decide)) (by rfl) T.g_l_next T.F_l_next.kp T.b_l_next .nil pass0 (pa_cons (pv 0) (pa_cons (pe_callB cf_len (by rfl) T.n_len PySem.boot_len (pa_cons (pv 3) (pa_nil))) (pa_nil)))) (pa_nil)))) (pa_nil))))))) (pss_nil))
    (pss_cons (ps_if (pt_cmpR (opr_eq hr.units) (pv 1) (pe_int) (nomark _)) (pss_cons (ps_set (i := 3) scl_map.nd rfl (by first | exact Or.inl rfl | exact Or.inr rfl) (pe_listRg rfl (by rfl) T.n_list (prg_1 (by rfl) T.n_range (pe_op opr_sub (pv 2) (pe_int)))))
    (pss_cons (ps_set (i := 4) scl_map.nd rfl (by first | exact Or.inl rfl | exact Or.inr rfl) (pe_lst (pa_nil)))
    (pss_cons (ps_for PassesOwn.never rfl (pi_range1 (by rfl) T.n_range (pa_cons (pe_op opr_sub (pv 2) (pe_int)) (pa_nil))) (pg_name (i := 5) scl_map.nd rfl (by first | exact Or.inl rfl | exact Or.inr rfl))
    (pss_one (ps_expr (pe_bm PySem.F.plainAttrs_list PySem.F.slot_list_append PySem.F.type_list_append mt_append (pv 4) (pa_cons (pe_ix ix_seq (pe_lst (pa_cons (pe_op opr_sub (pv 2) (pe_int)) (pa_cons (pe_bm PySem.F.plainAttrs_list PySem.F.slot_list_pop PySem.F.type_list_pop mt_popAt (pv 3) (pa_cons (pe_call G_l_next (hr.mono (by decide)) (by rfl) T.g_l_next T.F_l_next.kp T.b_l_next .nil pass0 (pa_cons (pv 0) (pa_cons (pe_callB cf_len (by rfl) T.n_len PySem.boot_len (pa_cons (pv 3) (pa_nil))) (pa_nil)))) (pa_nil))) (pa_nil)))) (pe_callTy cf_int (by rfl) T.n_int (by decide +kernel) (pa_cons (pe_cmpR opr_gt (pe_call G_l_next (hr.mono (by decide)) (by rfl) T.g_l_next T.F_l_next.kp T.b_l_next .nil pass0 (pa_cons (pv 0) (pa_cons (pe_int) (pa_nil)))) (pe_int) (nomark _)) (pa_nil))) (fun _ _ => rfl)) pa_nil)))))
    (pss_one (ps_ret (pe_callTy cf_tuple (by rfl) T.n_tuple (by decide +kernel) (pa_cons (pe_op opr_add (pv 4) (pe_lst (pa_cons (pe_op opr_sub (pv 2) (pe_int)) (pa_nil)))) (pa_nil)))))))) (pss_nil))
    (pss_one (ps_ret (pe_callTy cf_tuple (by rfl) T.n_tuple (by decide +kernel) (pa_cons (pe_lc (own := [("room", 6)]) (g := gName 6) (tt := tYes) rfl scl_map.nd (pi_range1 (by rfl) T.n_range (pa_cons (pv 2) (pa_nil))) (blkOk_by (N := ["state", "kind", "rooms", "left", "found", "k", "room"]) (sc := defScope sl_map) (by decide +kernel)) (fun _ _ _ _ _ => pg_name (i := 6) scl_map.nd rfl (by first | exact Or.inl rfl | exact Or.inr rfl)) (fun _ _ _ _ _ => pts_nil) (fun _ _ _ _ _ => pe_op opr_add (pv 6) (pe_call G_l_next (hr.mono (by decide)) (by rfl) T.g_l_next T.F_l_next.kp T.b_l_next .nil pass0 (pa_cons (pv 0) (pa_cons (pe_op opr_sub (pv 2) (pv 6)) (pa_nil)))))) (pa_nil))))))))
theorem okl_map (T : Txt K mg fA fD cA) : FnOk P w K mg base CX0 2 (fA 10) (fD 10) ["state", "kind", "rooms"] (spS (fun st ds r st' => f_l_map st ds = some (r, st')) K) :=
  def_S T.F_l_map scl_map (fun _ _ _ _ h => len_S h) (t := denS K c_l_map) (fun cdv A outer s H E hr => (dnl_map K) ▸ htl_map T (okl_next T) cdv A outer s H E hr) (fun _ _ _ _ h => run_S h)
abbrev sl_maps : Stmt := topS 11
theorem scl_maps : FnScope ["state", "most", "kind", "rooms", "k"] ["state", "most"] (defScope sl_maps) := ⟨rfl, rfl, rfl, by decide +kernel, rfl, by decide +kernel, by decide +kernel⟩
def tml_maps (K : PySem.W.Frag) : TS :=
  tSeq (tAsg (tCall (spS (fun st ds r st' => f_l_next st ds = some (r, st')) K) [] E0 (tCons (tVar 0) (tCons (tC (.int 5)) (tNil)))) (gName 2)) (tSeq (tAsg (tOp (opK K .ix) (tLst (tCons (tOp (opK K .add) (tC (.int 1)) (tCall (spS (fun st ds r st' => f_l_next st ds = some (r, st')) K) [] E0 (tCons (tVar 0) (tCons (tC (.int 3)) (tNil))))) (tCons (tOp (opK K .add) (tC (.int 2)) (tCall (spS (fun st ds r st' => f_l_next st ds = some (r, st')) K) [] E0 (tCons (tVar 0) (tCons (tC (.int 3)) (tNil))))) (tCons (tOp (opK K .add) (tC (.int 2)) (tCall (spS (fun st ds r st' => f_l_next st ds = some (r, st')) K) [] E0 (tCons (tVar 0) (tCons (tC (.int 3)) (tNil))))) (tCons (tOp (opK K .add) (tC (.int 2)) (tCall (spS (fun st ds r st' => f_l_next st ds = some (r, st')) K) [] E0 (tCons (tVar 0) (tCons (tC (.int 3)) (tNil))))) (tCons (tOp (opK K .add) (tC (.int 2)) (tCall (spS (fun st ds r st' => f_l_next st ds = some (r, st')) K) [] E0 (tCons (tVar 0) (tCons (tC (.int 4)) (tNil))))) (tNil))))))) (tVar 2)) (gName 3)) (tRet (tLc (iRng1 (tCons (tOp (opK K .add) (tC (.int 1)) (tCall (spS (fun st ds r st' => f_l_next st ds = some (r, st')) K) [] E0 (tCons (tVar 0) (tCons (tVar 1) (tNil))))) (tNil))) (gName 4) (tYes) (tCall (spS (fun st ds r st' => f_l_map st ds = some (r, st')) K) [] E0 (tCons (tVar 0) (tCons (tVar 2) (tCons (tVar 3) (tNil))))) [4])))
theorem dnl_maps (K : PySem.W.Frag) : denS K c_l_maps = tml_maps K := rfl
theorem htl_maps (T : Txt K mg fA fD cA) (G_l_next : FnOk P w K mg base CX0 1 (fA 7) (fD 7) ["state", "many"] (spS (fun st ds r st' => f_l_next st ds = some (r, st')) K)) (G_l_map : FnOk P w K mg base CX0 2 (fA 10) (fD 10) ["state", "kind", "rooms"] (spS (fun st ds r st' => f_l_map st ds = some (r, st')) K)) (cdv : Value) (A : Around) (outer : List PySem.Env) (s : Shared) (H : Hp) (E : XK) (hr : Room 2 (A.deeper (envOfC "_law_maps" (defScope sl_maps) s.heap.objs.size (fA 11) cdv))) :
    PSs ((cxOf CX0 P w K mg base ["state", "most", "kind", "rooms", "k"] "_law_maps" (defScope sl_maps) (fA 11) cdv A outer s H E).nox) (defBody sl_maps) (tml_maps K) :=
  pss_cons (ps_set (i := 2) scl_maps.nd rfl (by first | exact Or.inl rfl | exact Or.inr rfl) (pe_call G_l_next (hr.mono (by decide)) (by rfl) T.g_l_next T.F_l_next.kp T.b_l_next .nil pass0 (pa_cons (pv 0) (pa_cons (pe_int) (pa_nil)))))
    (pss_cons (ps_set (i := 3) scl_maps.nd rfl (by first | exact Or.inl rfl | exact Or.inr rfl) (pe_ix ix_seq (pe_lst (pa_cons (pe_op opr_add (pe_int) (pe_call G_l_next (hr.mono (by decide)) (by rfl) T.g_l_next T.F_l_next.kp T.b_l_next .nil pass0 (pa_cons (pv 0) (pa_cons (pe_int) (pa_nil))))) (pa_cons (pe_op opr_add (pe_int) (pe_call G_l_next (hr.mono (by decide)) (by rfl) T.g_l_next T.F_l_next.kp T.b_l_next .nil pass0 (pa_cons (pv 0) (pa_cons (pe_int) (pa_nil))))) (pa_cons (pe_op opr_add (pe_int) (pe_call G_l_next (hr.mono (by decide)) (by rfl) T.g_l_next T.F_l_next.kp T.b_l_next .nil pass0 (pa_cons (pv 0) (pa_cons (pe_int) (pa_nil))))) (pa_cons (pe_op opr_add (pe_int) (pe_call G_l_next (hr.mono (by decide)) (by rfl) T.g_l_next T.F_l_next.kp T.b_l_next .nil pass0 (pa_cons (pv 0) (pa_cons (pe_int) (pa_nil))))) (pa_cons (pe_op opr_add (pe_int) (pe_call G_l_next (hr.mono (by decide)) (by rfl) T.g_l_next T.F_l_next.kp T.b_l_next .nil pass0 (pa_cons (pv 0) (pa_cons (pe_int) (pa_nil))))) (pa_nil))))))) (pv 2) (fun _ _ => rfl)))
    (pss_one (ps_ret (pe_lc (own := [("k", 4)]) (g := gName 4) (tt := tYes) rfl scl_maps.nd (pi_range1 (by rfl) T.n_range (pa_cons (pe_op opr_add (pe_int) (pe_call G_l_next (hr.mono (by decide)) (by rfl) T.g_l_next T.F_l_next.kp T.b_l_next .nil pass0 (pa_cons (pv 0) (pa_cons (pv 1) (pa_nil))))) (pa_nil))) (blkOk_by (N := ["state", "most", "kind", "rooms", "k"]) (sc := defScope sl_maps) (by decide +kernel)) (fun _ _ _ _ _ => pg_name (i := 4) scl_maps.nd rfl (by first | exact Or.inl rfl | exact Or.inr rfl)) (fun _ _ _ _ _ => pts_nil) (fun _ _ _ _ _ => pe_call G_l_map (hr.mono (by decide)) (by rfl) T.g_l_map T.F_l_map.kp T.b_l_map .nil pass0 (pa_cons (pv 0) (pa_cons (pv 2) (pa_cons (pv 3) (pa_nil)))))))))
theorem okl_maps (T : Txt K mg fA fD cA) : FnOk P w K mg base CX0 3 (fA 11) (fD 11) ["state", "most"] (spS (fun st ds r st' => f_l_maps st ds = some (r, st')) K) :=
  def_S T.F_l_maps scl_maps (fun _ _ _ _ h => len_S h) (t := denS K c_l_maps) (fun cdv A outer s H E hr => (dnl_maps K) ▸ htl_maps T (okl_next T) (okl_map T) cdv A outer s H E hr) (fun _ _ _ _ h => run_S h)
abbrev sl_same_as : Stmt := topS 12
theorem scl_same_as : FnScope ["one", "other", "room"] ["one", "other"] (defScope sl_same_as) := ⟨rfl, rfl, rfl, by decide +kernel, rfl, by decide +kernel, by decide +kernel⟩
def tml_same_as (K : PySem.W.Frag) : TS :=
  tRet (tCB (bfK K .tuple) (tCons (tLc (uIter K (tVar 0)) (gName 2) (tYes) (tOp (opK K .ix) (tVar 1) (tVar 2)) [2]) (tNil)))
theorem dnl_same_as (K : PySem.W.Frag) : denS K c_l_same_as = tml_same_as K := rfl
theorem htl_same_as (T : Txt K mg fA fD cA)  (cdv : Value) (A : Around) (outer : List PySem.Env) (s : Shared) (H : Hp) (E : XK) (hr : Room 0 (A.deeper (envOfC "_law_same_as" (defScope sl_same_as) s.heap.objs.size (fA 12) cdv))) :
    PSs ((cxOf CX0 P w K mg base ["one", "other", "room"] "_law_same_as" (defScope sl_same_as) (fA 12) cdv A outer s H E).nox) (defBody sl_same_as) (tml_same_as K) :=
  pss_one (ps_ret (pe_callTy cf_tuple (by rfl) T.n_tuple (by decide +kernel) (pa_cons (pe_lc (own := [("room", 2)]) (g := gName 2) (tt := tYes) rfl scl_same_as.nd (pi_u (pv 0)) (blkOk_by (N := ["one", "other", "room"]) (sc := defScope sl_same_as) (by decide +kernel)) (fun _ _ _ _ _ => pg_name (i := 2) scl_same_as.nd rfl (by first | exact Or.inl rfl | exact Or.inr rfl)) (fun _ _ _ _ _ => pts_nil) (fun _ _ _ _ _ => pe_ix ix_seq (pv 1) (pv 2) (fun _ _ => rfl))) (pa_nil))))
theorem okl_same_as (T : Txt K mg fA fD cA) : FnOk P w K mg base CX0 1 (fA 12) (fD 12) ["one", "other"] (spD (fun ds r => f_l_same_as ds = some r) K) :=
  def_D T.F_l_same_as scl_same_as (fun _ _ h => len_D h) (t := denS K c_l_same_as) (fun cdv A outer s H E hr => (dnl_same_as K) ▸ htl_same_as T  cdv A outer s H E hr) (fun _ _ h => run_D h)
abbrev sl_elements : Stmt := topS 13
theorem scl_elements : FnScope ["maps", "most", "found", "one", "at", "other"] ["maps", "most"] (defScope sl_elements) := ⟨rfl, rfl, rfl, by decide +kernel, rfl, by decide +kernel, by decide +kernel⟩
def tml_elements (K : PySem.W.Frag) : TS :=
  tSeq (tAsg (tLst (tNil)) (gName 2)) (tSeq (tFor (uIter K (tVar 0)) (gName 3) (tIfS (tTest (tOp (opK K .notIn) (tVar 3) (tVar 2))) (tDrop (tBM K "list" rAppend (tVar 2) (tCons (tVar 3) tNil))) (tNext))) (tSeq (tFor (iRng1 (tCons (tOp (opK K .add) (tVar 1) (tC (.int 1))) (tNil))) (gName 4) (tFor (uIter K (tVar 0)) (gName 5) (tIfS (tAnd (tTest (tOp (opK K .lt) (tVar 4) (tCB (bfK K .len) (tCons (tVar 2) (tNil))))) (tAnd (tTest (tOp (opK K .le) (tCB (bfK K .len) (tCons (tVar 2) (tNil))) (tVar 1))) (tTest (tOp (opK K .notIn) (tCall (spD (fun ds r => f_l_same_as ds = some r) K) [] E0 (tCons (tOp (opK K .ix) (tVar 2) (tVar 4)) (tCons (tVar 5) (tNil)))) (tVar 2))))) (tDrop (tBM K "list" rAppend (tVar 2) (tCons (tCall (spD (fun ds r => f_l_same_as ds = some r) K) [] E0 (tCons (tOp (opK K .ix) (tVar 2) (tVar 4)) (tCons (tVar 5) (tNil)))) tNil))) (tNext)))) (tRet (tVar 2))))
theorem dnl_elements (K : PySem.W.Frag) : denS K c_l_elements = tml_elements K := rfl
theorem htl_elements (T : Txt K mg fA fD cA) (G_l_same_as : FnOk P w K mg base CX0 1 (fA 12) (fD 12) ["one", "other"] (spD (fun ds r => f_l_same_as ds = some r) K)) (cdv : Value) (A : Around) (outer : List PySem.Env) (s : Shared) (H : Hp) (E : XK) (hr : Room 1 (A.deeper (envOfC "_law_elements" (defScope sl_elements) s.heap.objs.size (fA 13) cdv))) :
    PSs ((cxOf CX0 P w K mg base ["maps", "most", "found", "one", "at", "other"] "_law_elements" (defScope sl_elements) (fA 13) cdv A outer s H E).nox) (defBody sl_elements) (tml_elements K) :=
  pss_cons (ps_set (i := 2) scl_elements.nd rfl (by first | exact Or.inl rfl | exact Or.inr rfl) (pe_lst (pa_nil)))
    (pss_cons (ps_for PassesOwn.never rfl (pi_u (pv 0)) (pg_name (i := 3) scl_elements.nd rfl (by first | exact Or.inl rfl | exact Or.inr rfl))
    (pss_one (ps_if (pt_cmpR (opr_notIn (units65 hr)) (pv 3) (pv 2) rfl) (pss_one (ps_expr (pe_bm PySem.F.plainAttrs_list PySem.F.slot_list_append PySem.F.type_list_append mt_append (pv 2) (pa_cons (pv 3) pa_nil)))) (pss_nil))))
    (pss_cons (ps_for PassesOwn.never rfl (pi_range1 (by rfl) T.n_range (pa_cons (pe_op opr_add (pv 1) (pe_int)) (pa_nil))) (pg_name (i := 4) scl_elements.nd rfl (by first | exact Or.inl rfl | exact Or.inr rfl))
    (pss_one (ps_for PassesOwn.never rfl (pi_u (pv 0)) (pg_name (i := 5) scl_elements.nd rfl (by first | exact Or.inl rfl | exact Or.inr rfl))
    (pss_one (ps_if ((pw_and (pt_cmpR opr_lt (pv 4) (pe_callB cf_len (by rfl) T.n_len PySem.boot_len (pa_cons (pv 2) (pa_nil))) (nomark _)) (pw_and (pt_cmpR opr_le (pe_callB cf_len (by rfl) T.n_len PySem.boot_len (pa_cons (pv 2) (pa_nil))) (pv 1) (nomark _)) (pw_and1 (pt_cmpR (opr_notIn (units65 hr)) (pe_call G_l_same_as (hr.mono (by decide)) (by rfl) T.g_l_same_as T.F_l_same_as.kp T.b_l_same_as .nil pass0 (pa_cons (pe_ix ix_seq (pv 2) (pv 4) (fun _ _ => rfl)) (pa_cons (pv 5) (pa_nil)))) (pv 2) rfl)))).pt) (pss_one (ps_expr (pe_bm PySem.F.plainAttrs_list PySem.F.slot_list_append PySem.F.type_list_append mt_append (pv 2) (pa_cons (pe_call G_l_same_as (hr.mono (by decide)) (by rfl) T.g_l_same_as T.F_l_same_as.kp T.b_l_same_as .nil pass0 (pa_cons (pe_ix ix_seq (pv 2) (pv 4) (fun _ _ => rfl)) (pa_cons (pv 5) (pa_nil)))) pa_nil)))) (pss_nil))))))
    (pss_one (ps_ret (pv 2)))))
theorem okl_elements (T : Txt K mg fA fD cA) : FnOk P w K mg base CX0 2 (fA 13) (fD 13) ["maps", "most"] (spD (fun ds r => f_l_elements ds = some r) K) :=
  def_D T.F_l_elements scl_elements (fun _ _ h => len_D h) (t := denS K c_l_elements) (fun cdv A outer s H E hr => (dnl_elements K) ▸ htl_elements T (okl_same_as T) cdv A outer s H E hr) (fun _ _ h => run_D h)
abbrev sl_table : Stmt := topS 14
theorem scl_table : FnScope ["letters", "maps", "found", "rows", "one", "other"] ["letters", "maps"] (defScope sl_table) := ⟨rfl, rfl, rfl, by decide +kernel, rfl, by decide +kernel, by decide +kernel⟩
def tml_table (K : PySem.W.Frag) : TS :=
  tSeq (tAsg (tCall (spD (fun ds r => f_l_elements ds = some r) K) [] E0 (tCons (tVar 1) (tCons (tC (.int 40)) (tNil)))) (gName 2)) (tSeq (tAsg (tCB (bfK K .tuple) (tCons (tLc (uIter K (tVar 2)) (gName 4) (tYes) (tCB (bfK K .tuple) (tCons (tLc (uIter K (tVar 2)) (gName 5) (tYes) (tBM K "list" (rIndexD K) (tVar 2) (tCons (tCall (spD (fun ds r => f_l_same_as ds = some r) K) [] E0 (tCons (tVar 4) (tCons (tVar 5) (tNil)))) (tNil))) [5]) (tNil))) [4]) (tNil))) (gName 3)) (tRet (tTupX (tCons (tVar 0) (tCons (tCB (bfK K .tuple) (tCons (tLc (uIter K (tVar 1)) (gName 4) (tYes) (tBM K "list" (rIndexD K) (tVar 2) (tCons (tVar 4) (tNil))) [4]) (tNil))) (tCons (tVar 3) (tNil)))))))
theorem dnl_table (K : PySem.W.Frag) : denS K c_l_table = tml_table K := rfl
theorem htl_table (T : Txt K mg fA fD cA) (G_l_same_as : FnOk P w K mg base CX0 1 (fA 12) (fD 12) ["one", "other"] (spD (fun ds r => f_l_same_as ds = some r) K)) (G_l_elements : FnOk P w K mg base CX0 2 (fA 13) (fD 13) ["maps", "most"] (spD (fun ds r => f_l_elements ds = some r) K)) (cdv : Value) (A : Around) (outer : List PySem.Env) (s : Shared) (H : Hp) (E : XK) (hr : Room 2 (A.deeper (envOfC "_law_table" (defScope sl_table) s.heap.objs.size (fA 14) cdv))) :
    PSs ((cxOf CX0 P w K mg base ["letters", "maps", "found", "rows", "one", "other"] "_law_table" (defScope sl_table) (fA 14) cdv A outer s H E).nox) (defBody sl_table) (tml_table K) :=
  pss_cons (ps_set (i := 2) scl_table.nd rfl (by first | exact Or.inl rfl | exact Or.inr rfl) (pe_call G_l_elements (hr.mono (by decide)) (by rfl) T.g_l_elements T.F_l_elements.kp T.b_l_elements .nil pass0 (pa_cons (pv 1) (pa_cons (pe_int) (pa_nil)))))
    (pss_cons (ps_set (i := 3) scl_table.nd rfl (by first | exact Or.inl rfl | exact Or.inr rfl) (pe_callTy cf_tuple (by rfl) T.n_tuple (by decide +kernel) (pa_cons (pe_lc (own := [("one", 4)]) (g := gName 4) (tt := tYes) rfl scl_table.nd (pi_u (pv 2)) (blkOk_by (N := ["letters", "maps", "found", "rows", "one", "other"]) (sc := defScope sl_table) (by decide +kernel)) (fun _ _ _ _ _ => pg_name (i := 4) scl_table.nd rfl (by first | exact Or.inl rfl | exact Or.inr rfl)) (fun _ _ _ _ _ => pts_nil) (fun _ _ _ _ _ => pe_callTy cf_tuple (by rfl) T.n_tuple (by decide +kernel) (pa_cons (pe_lc (own := [("other", 5)]) (g := gName 5) (tt := tYes) rfl scl_table.nd (pi_u (pv 2)) (blkOk_by (by rfl)) (fun _ _ _ _ _ => pg_name (i := 5) scl_table.nd rfl (by first | exact Or.inl rfl | exact Or.inr rfl)) (fun _ _ _ _ _ => pts_nil) (fun _ _ _ _ _ => pe_bm PySem.F.plainAttrs_list PySem.F.slot_list_index PySem.F.type_list_index (mt_indexD (units65 hr)) (pv 2) (pa_cons (pe_call G_l_same_as (hr.mono (by decide)) (by rfl) T.g_l_same_as T.F_l_same_as.kp T.b_l_same_as .nil pass0 (pa_cons (pv 4) (pa_cons (pv 5) (pa_nil)))) (pa_nil)))) (pa_nil)))) (pa_nil))))
    (pss_one (ps_ret (pe_tupX (pa_cons (pv 0) (pa_cons (pe_callTy cf_tuple (by rfl) T.n_tuple (by decide +kernel) (pa_cons (pe_lc (own := [("one", 4)]) (g := gName 4) (tt := tYes) rfl scl_table.nd (pi_u (pv 1)) (blkOk_by (N := ["letters", "maps", "found", "rows", "one", "other"]) (sc := defScope sl_table) (by decide +kernel)) (fun _ _ _ _ _ => pg_name (i := 4) scl_table.nd rfl (by first | exact Or.inl rfl | exact Or.inr rfl)) (fun _ _ _ _ _ => pts_nil) (fun _ _ _ _ _ => pe_bm PySem.F.plainAttrs_list PySem.F.slot_list_index PySem.F.type_list_index (mt_indexD (units65 hr)) (pv 2) (pa_cons (pv 4) (pa_nil)))) (pa_nil))) (pa_cons (pv 3) (pa_nil))))))))
theorem okl_table (T : Txt K mg fA fD cA) : FnOk P w K mg base CX0 3 (fA 14) (fD 14) ["letters", "maps"] (spD (fun ds r => f_l_table ds = some r) K) :=
  def_D T.F_l_table scl_table (fun _ _ h => len_D h) (t := denS K c_l_table) (fun cdv A outer s H E hr => (dnl_table K) ▸ htl_table T (okl_same_as T) (okl_elements T) cdv A outer s H E hr) (fun _ _ h => run_D h)
abbrev sl_first_logs : Stmt := topS 15
theorem scl_first_logs : FnScope ["letters", "maps", "found", "logs", "k", "at"] ["letters", "maps"] (defScope sl_first_logs) := ⟨rfl, rfl, rfl, by decide +kernel, rfl, by decide +kernel, by decide +kernel⟩
def tml_first_logs (K : PySem.W.Frag) : TS :=
  tSeq (tAsg (tLst (tNil)) (gName 2)) (tSeq (tAsg (tLst (tNil)) (gName 3)) (tSeq (tFor (iRng1 (tCons (tCB (bfK K .len) (tCons (tVar 1) (tNil))) (tNil))) (gName 4) (tIfS (tTest (tOp (opK K .notIn) (tOp (opK K .ix) (tVar 1) (tVar 4)) (tVar 2))) (tSeq (tDrop (tBM K "list" rAppend (tVar 2) (tCons (tOp (opK K .ix) (tVar 1) (tVar 4)) tNil))) (tDrop (tBM K "list" rAppend (tVar 3) (tCons (tTupX (tCons (tOp (opK K .ix) (tVar 0) (tVar 4)) (tNil))) tNil)))) (tNext))) (tSeq (tFor (iRng1 (tCons (tC (.int 40)) (tNil))) (gName 5) (tFor (iRng1 (tCons (tCB (bfK K .len) (tCons (tVar 1) (tNil))) (tNil))) (gName 4) (tIfS (tAnd (tTest (tOp (opK K .lt) (tVar 5) (tCB (bfK K .len) (tCons (tVar 2) (tNil))))) (tTest (tOp (opK K .notIn) (tCall (spD (fun ds r => f_l_same_as ds = some r) K) [] E0 (tCons (tOp (opK K .ix) (tVar 2) (tVar 5)) (tCons (tOp (opK K .ix) (tVar 1) (tVar 4)) (tNil)))) (tVar 2)))) (tSeq (tDrop (tBM K "list" rAppend (tVar 2) (tCons (tCall (spD (fun ds r => f_l_same_as ds = some r) K) [] E0 (tCons (tOp (opK K .ix) (tVar 2) (tVar 5)) (tCons (tOp (opK K .ix) (tVar 1) (tVar 4)) (tNil)))) tNil))) (tDrop (tBM K "list" rAppend (tVar 3) (tCons (tOp (opK K .add) (tOp (opK K .ix) (tVar 3) (tVar 5)) (tTupX (tCons (tOp (opK K .ix) (tVar 0) (tVar 4)) (tNil)))) tNil)))) (tNext)))) (tRet (tVar 3)))))
theorem dnl_first_logs (K : PySem.W.Frag) : denS K c_l_first_logs = tml_first_logs K := rfl
theorem htl_first_logs (T : Txt K mg fA fD cA) (G_l_same_as : FnOk P w K mg base CX0 1 (fA 12) (fD 12) ["one", "other"] (spD (fun ds r => f_l_same_as ds = some r) K)) (cdv : Value) (A : Around) (outer : List PySem.Env) (s : Shared) (H : Hp) (E : XK) (hr : Room 1 (A.deeper (envOfC "_law_first_logs" (defScope sl_first_logs) s.heap.objs.size (fA 15) cdv))) :
    PSs ((cxOf CX0 P w K mg base ["letters", "maps", "found", "logs", "k", "at"] "_law_first_logs" (defScope sl_first_logs) (fA 15) cdv A outer s H E).nox) (defBody sl_first_logs) (tml_first_logs K) :=
  pss_cons (ps_set (i := 2) scl_first_logs.nd rfl (by first | exact Or.inl rfl | exact Or.inr rfl) (pe_lst (pa_nil)))
    (pss_cons (ps_set (i := 3) scl_first_logs.nd rfl (by first | exact Or.inl rfl | exact Or.inr rfl) (pe_lst (pa_nil)))
    (pss_cons (ps_for PassesOwn.never rfl (pi_range1 (by rfl) T.n_range (pa_cons (pe_callB cf_len (by rfl) T.n_len PySem.boot_len (pa_cons (pv 1) (pa_nil))) (pa_nil))) (pg_name (i := 4) scl_first_logs.nd rfl (by first | exact Or.inl rfl | exact Or.inr rfl))
    (pss_one (ps_if (pt_cmpR (opr_notIn (units65 hr)) (pe_ix ix_seq (pv 1) (pv 4) (fun _ _ => rfl)) (pv 2) rfl) (pss_cons (ps_expr (pe_bm PySem.F.plainAttrs_list PySem.F.slot_list_append PySem.F.type_list_append mt_append (pv 2) (pa_cons (pe_ix ix_seq (pv 1) (pv 4) (fun _ _ => rfl)) pa_nil)))
    (pss_one (ps_expr (pe_bm PySem.F.plainAttrs_list PySem.F.slot_list_append PySem.F.type_list_append mt_append (pv 3) (pa_cons (pe_tupX (pa_cons (pe_ix ix_seq (pv 0) (pv 4) (fun _ _ => rfl)) (pa_nil))) pa_nil))))) (pss_nil))))
    (pss_cons (ps_for PassesOwn.never rfl (pi_range1 (by rfl) T.n_range (pa_cons (pe_int) (pa_nil))) (pg_name (i := 5) scl_first_logs.nd rfl (by first | exact Or.inl rfl | exact Or.inr rfl))
    (pss_one (ps_for PassesOwn.never rfl (pi_range1 (by rfl) T.n_range (pa_cons (pe_callB cf_len (by rfl) T.n_len PySem.boot_len (pa_cons (pv 1) (pa_nil))) (pa_nil))) (pg_name (i := 4) scl_first_logs.nd rfl (by first | exact Or.inl rfl | exact Or.inr rfl))
    (pss_one (ps_if ((pw_and (pt_cmpR opr_lt (pv 5) (pe_callB cf_len (by rfl) T.n_len PySem.boot_len (pa_cons (pv 2) (pa_nil))) (nomark _)) (pw_and1 (pt_cmpR (opr_notIn (units65 hr)) (pe_call G_l_same_as (hr.mono (by decide)) (by rfl) T.g_l_same_as T.F_l_same_as.kp T.b_l_same_as .nil pass0 (pa_cons (pe_ix ix_seq (pv 2) (pv 5) (fun _ _ => rfl)) (pa_cons (pe_ix ix_seq (pv 1) (pv 4) (fun _ _ => rfl)) (pa_nil)))) (pv 2) rfl))).pt) (pss_cons (ps_expr (pe_bm PySem.F.plainAttrs_list PySem.F.slot_list_append PySem.F.type_list_append mt_append (pv 2) (pa_cons (pe_call G_l_same_as (hr.mono (by decide)) (by rfl) T.g_l_same_as T.F_l_same_as.kp T.b_l_same_as .nil pass0 (pa_cons (pe_ix ix_seq (pv 2) (pv 5) (fun _ _ => rfl)) (pa_cons (pe_ix ix_seq (pv 1) (pv 4) (fun _ _ => rfl)) (pa_nil)))) pa_nil)))
    (pss_one (ps_expr (pe_bm PySem.F.plainAttrs_list PySem.F.slot_list_append PySem.F.type_list_append mt_append (pv 3) (pa_cons (pe_op opr_add (pe_ix ix_seq (pv 3) (pv 5) (fun _ _ => rfl)) (pe_tupX (pa_cons (pe_ix ix_seq (pv 0) (pv 4) (fun _ _ => rfl)) (pa_nil)))) pa_nil))))) (pss_nil))))))
    (pss_one (ps_ret (pv 3))))))
theorem okl_first_logs (T : Txt K mg fA fD cA) : FnOk P w K mg base CX0 2 (fA 15) (fD 15) ["letters", "maps"] (spD (fun ds r => f_l_first_logs ds = some r) K) :=
  def_D T.F_l_first_logs scl_first_logs (fun _ _ h => len_D h) (t := denS K c_l_first_logs) (fun cdv A outer s H E hr => (dnl_first_logs K) ▸ htl_first_logs T (okl_same_as T) cdv A outer s H E hr) (fun _ _ h => run_D h)
abbrev sl_value : Stmt := topS 16
theorem scl_value : FnScope ["found", "letters", "maps", "log", "value", "letter"] ["found", "letters", "maps", "log"] (defScope sl_value) := ⟨rfl, rfl, rfl, by decide +kernel, rfl, by decide +kernel, by decide +kernel⟩
def tml_value (K : PySem.W.Frag) : TS :=
  tSeq (tAsg (tTupRgX (tRg1 (tCB (bfK K .len) (tCons (tOp (opK K .ix) (tVar 2) (tC (.int 0))) (tNil))))) (gName 4)) (tSeq (tFor (uIter K (tVar 3)) (gName 5) (tAsg (tCall (spD (fun ds r => f_l_same_as ds = some r) K) [] E0 (tCons (tVar 4) (tCons (tOp (opK K .ix) (tVar 2) (tBMX K (rTIx K) (tVar 1) (tCons (tVar 5) (tNil)))) (tNil)))) (gName 4))) (tRet (tOp (opK K .ix) (tLst (tCons (tIf (tTest (tOp (opK K .gt) (tCB (bfK K .len) (tCons (tVar 3) (tNil))) (tC (.int 0)))) (tBM K "list" (rIndexD K) (tVar 0) (tCons (tVar 4) (tNil))) (tUn (rU fun i => .int (-i)) (tC (.int 1)))) (tNil))) (tC (.int 0)))))
theorem dnl_value (K : PySem.W.Frag) : denS K c_l_value = tml_value K := rfl
theorem htl_value (T : Txt K mg fA fD cA) (G_l_same_as : FnOk P w K mg base CX0 1 (fA 12) (fD 12) ["one", "other"] (spD (fun ds r => f_l_same_as ds = some r) K)) (cdv : Value) (A : Around) (outer : List PySem.Env) (s : Shared) (H : Hp) (E : XK) (hr : Room 1 (A.deeper (envOfC "_law_value" (defScope sl_value) s.heap.objs.size (fA 16) cdv))) :
    PSs ((cxOf CX0 P w K mg base ["found", "letters", "maps", "log", "value", "letter"] "_law_value" (defScope sl_value) (fA 16) cdv A outer s H E).nox) (defBody sl_value) (tml_value K) :=
  pss_cons (ps_set (i := 4) scl_value.nd rfl (by first | exact Or.inl rfl | exact Or.inr rfl) (pe_tupRgX rfl (by rfl) T.n_tuple (prg_1 (by rfl) T.n_range (pe_callB cf_len (by rfl) T.n_len PySem.boot_len (pa_cons (pe_ix ix_seq (pv 2) (pe_int) (fun _ _ => rfl)) (pa_nil))))))
    (pss_cons (ps_for PassesOwn.never rfl (pi_u (pv 3)) (pg_name (i := 5) scl_value.nd rfl (by first | exact Or.inl rfl | exact Or.inr rfl))
    (pss_one (ps_set (i := 4) scl_value.nd rfl (by first | exact Or.inl rfl | exact Or.inr rfl) (pe_call G_l_same_as (hr.mono (by decide)) (by rfl) T.g_l_same_as T.F_l_same_as.kp T.b_l_same_as .nil pass0 (pa_cons (pv 4) (pa_cons (pe_ix ix_seq (pv 2) (pe_bmX PySem.F.plainAttrs_tuple PySem.F.slot_tuple_index PySem.F.type_tuple_index mt_tix (pv 1) (pa_cons (pv 5) (pa_nil))) (fun _ _ => rfl)) (pa_nil)))))))
    (pss_one (ps_ret (pe_ix ix_seq (pe_lst (pa_cons (pe_ifExp (pt_cmpR opr_gt (pe_callB cf_len (by rfl) T.n_len PySem.boot_len (pa_cons (pv 3) (pa_nil))) (pe_int) (nomark _)) (pe_bm PySem.F.plainAttrs_list PySem.F.slot_list_index PySem.F.type_list_index (mt_indexD (units65 hr)) (pv 0) (pa_cons (pv 4) (pa_nil))) (pe_un un_neg (pe_int))) (pa_nil))) (pe_int) (fun _ _ => rfl)))))
theorem okl_value (T : Txt K mg fA fD cA) : FnOk P w K mg base CX0 2 (fA 16) (fD 16) ["found", "letters", "maps", "log"] (spD (fun ds r => f_l_value ds = some r) K) :=
  def_D T.F_l_value scl_value (fun _ _ h => len_D h) (t := denS K c_l_value) (fun cdv A outer s H E hr => (dnl_value K) ▸ htl_value T (okl_same_as T) cdv A outer s H E hr) (fun _ _ h => run_D h)
abbrev slaw : Stmt := topS 17
theorem sclaw : FnScope ["script", "state", "maps", "letters", "found", "table", "k", "told", "many", "log", "one", "other", "due", "j"] ["script"] (defScope slaw) := ⟨rfl, rfl, rfl, by decide +kernel, rfl, by decide +kernel, by decide +kernel⟩
def tmlaw (K : PySem.W.Frag) : TS :=
  tSeq (tAsg (tLst (tCons (tCall (spD (fun ds r => f_l_stream ds = some r) K) [] E0 (tCons (tVar 0) (tNil))) (tCons (tC (.int 0)) (tNil)))) (gName 1)) (tSeq (tAsg (tCall (spS (fun st ds r st' => f_l_maps st ds = some (r, st')) K) [] E0 (tCons (tVar 1) (tCons (tC (.int 4)) (tNil)))) (gName 2)) (tSeq (tAsg (tCall (spS (fun st ds r st' => f_l_letters st ds = some (r, st')) K) [] E0 (tCons (tVar 1) (tCons (tCB (bfK K .len) (tCons (tVar 2) (tNil))) (tNil)))) (gName 3)) (tSeq (tAsg (tCall (spD (fun ds r => f_l_elements ds = some r) K) [] E0 (tCons (tVar 2) (tCons (tC (.int 40)) (tNil)))) (gName 4)) (tSeq (tIfS (tTest (tOp (opK K .gt) (tCB (bfK K .len) (tCons (tVar 4) (tNil))) (tC (.int 40)))) (tRet (tC (.bl true))) (tNext)) (tSeq (tAsg (tCall (spD (fun ds r => f_l_table ds = some r) K) [] E0 (tCons (tVar 3) (tCons (tVar 2) (tNil)))) (gName 5)) (tSeq (tFor (iRng1 (tCons (tC (.int 4)) (tNil))) (gName 6) (tSeq (tAsg (tOp (opK K .ix) (tLst (tCons (tCall (spS (fun st ds r st' => f_l_next st ds = some (r, st')) K) [] E0 (tCons (tVar 1) (tCons (tC (.int 13)) (tNil)))) (tCons (tCall (spS (fun st ds r st' => f_l_next st ds = some (r, st')) K) [] E0 (tCons (tVar 1) (tCons (tC (.int 13)) (tNil)))) (tCons (tCall (spS (fun st ds r st' => f_l_next st ds = some (r, st')) K) [] E0 (tCons (tVar 1) (tCons (tC (.int 601)) (tNil)))) (tNil))))) (tCall (spS (fun st ds r st' => f_l_next st ds = some (r, st')) K) [] E0 (tCons (tVar 1) (tCons (tC (.int 3)) (tNil))))) (gName 8)) (tSeq (tAsg (tCB (bfK K .tuple) (tCons (tLc (iRng1 (tCons (tVar 8) (tNil))) (gName 13) (tYes) (tOp (opK K .ix) (tVar 3) (tCall (spS (fun st ds r st' => f_l_next st ds = some (r, st')) K) [] E0 (tCons (tVar 1) (tCons (tCB (bfK K .len) (tCons (tVar 3) (tNil))) (tNil))))) [13]) (tNil))) (gName 9)) (tSeq (tAsg (tCall (spD (fun ds r => f_value_of ds = some r) K) [] E0 (tCons (tVar 5) (tCons (tVar 9) (tNil)))) (gName 7)) (tIfS (tTest (tOp (opK K .ne) (tCB (bfK K .repr) (tCons (tVar 7) (tNil))) (tCB (bfK K .repr) (tCons (tCall (spD (fun ds r => f_l_value ds = some r) K) [] E0 (tCons (tVar 4) (tCons (tVar 3) (tCons (tVar 2) (tCons (tVar 9) (tNil)))))) (tNil))))) (tRet (tC (.bl false))) (tNext)))))) (tSeq (tFor (iRng1 (tCons (tC (.int 4)) (tNil))) (gName 6) (tSeq (tAsg (tOp (opK K .sub) (tCall (spS (fun st ds r st' => f_l_next st ds = some (r, st')) K) [] E0 (tCons (tVar 1) (tCons (tOp (opK K .add) (tCB (bfK K .len) (tCons (tVar 4) (tNil))) (tC (.int 1))) (tNil)))) (tC (.int 1))) (gName 10)) (tSeq (tAsg (tOp (opK K .sub) (tCall (spS (fun st ds r st' => f_l_next st ds = some (r, st')) K) [] E0 (tCons (tVar 1) (tCons (tOp (opK K .add) (tCB (bfK K .len) (tCons (tVar 4) (tNil))) (tC (.int 1))) (tNil)))) (tC (.int 1))) (gName 11)) (tSeq (tAsg (tOp (opK K .ix) (tLst (tCons (tVar 10) (tCons (tVar 11) (tNil)))) (tCB (bfK K .int) (tCons (tOp (opK K .lt) (tVar 10) (tC (.int 0))) (tNil)))) (gName 12)) (tSeq (tIfS (tAnd (tTest (tOp (opK K .ge) (tVar 10) (tC (.int 0)))) (tTest (tOp (opK K .ge) (tVar 11) (tC (.int 0))))) (tAsg (tBM K "list" (rIndexD K) (tVar 4) (tCons (tCall (spD (fun ds r => f_l_same_as ds = some r) K) [] E0 (tCons (tOp (opK K .ix) (tVar 4) (tVar 10)) (tCons (tOp (opK K .ix) (tVar 4) (tVar 11)) (tNil)))) (tNil))) (gName 12)) (tNext)) (tIfS (tTest (tOp (opK K .ne) (tCB (bfK K .repr) (tCons (tCall (spD (fun ds r => f_times ds = some r) K) [] E0 (tCons (tVar 5) (tCons (tVar 10) (tCons (tVar 11) (tNil))))) (tNil))) (tCB (bfK K .repr) (tCons (tVar 12) (tNil))))) (tRet (tC (.bl false))) (tNext))))))) (tSeq (tAsg (tCall (spD (fun ds r => f_least_logs ds = some r) K) [] E0 (tCons (tVar 5) (tNil))) (gName 7)) (tSeq (tIfS (tTest (tOp (opK K .ne) (tCB (bfK K .repr) (tCons (tVar 7) (tNil))) (tCB (bfK K .repr) (tCons (tCall (spD (fun ds r => f_l_first_logs ds = some r) K) [] E0 (tCons (tVar 3) (tCons (tVar 2) (tNil)))) (tNil))))) (tRet (tC (.bl false))) (tNext)) (tSeq (tDrop (tBM K "list" rAppend (tVar 7) (tCons (tTupX (tNil)) tNil))) (tRet (tOp (opK K .eq) (tCB (bfK K .repr) (tCons (tCall (spD (fun ds r => f_least_logs ds = some r) K) [] E0 (tCons (tVar 5) (tNil))) (tNil))) (tCB (bfK K .repr) (tCons (tCall (spD (fun ds r => f_l_first_logs ds = some r) K) [] E0 (tCons (tVar 3) (tCons (tVar 2) (tNil)))) (tNil)))))))))))))))
theorem dnlaw (K : PySem.W.Frag) : denS K c_law = tmlaw K := rfl
theorem htlaw (T : Txt K mg fA fD cA) (G_least_logs : FnOk P w K mg base CX0 1 (fA 4) (fD 4) ["table"] (spD (fun ds r => f_least_logs ds = some r) K)) (G_l_first_logs : FnOk P w K mg base CX0 2 (fA 15) (fD 15) ["letters", "maps"] (spD (fun ds r => f_l_first_logs ds = some r) K)) (G_times : FnOk P w K mg base CX0 1 (fA 1) (fD 1) ["table", "first", "second"] (spD (fun ds r => f_times ds = some r) K)) (G_l_same_as : FnOk P w K mg base CX0 1 (fA 12) (fD 12) ["one", "other"] (spD (fun ds r => f_l_same_as ds = some r) K)) (G_l_next : FnOk P w K mg base CX0 1 (fA 7) (fD 7) ["state", "many"] (spS (fun st ds r st' => f_l_next st ds = some (r, st')) K)) (G_l_value : FnOk P w K mg base CX0 2 (fA 16) (fD 16) ["found", "letters", "maps", "log"] (spD (fun ds r => f_l_value ds = some r) K)) (G_value_of : FnOk P w K mg base CX0 2 (fA 3) (fD 3) ["table", "log"] (spD (fun ds r => f_value_of ds = some r) K)) (G_l_table : FnOk P w K mg base CX0 3 (fA 14) (fD 14) ["letters", "maps"] (spD (fun ds r => f_l_table ds = some r) K)) (G_l_elements : FnOk P w K mg base CX0 2 (fA 13) (fD 13) ["maps", "most"] (spD (fun ds r => f_l_elements ds = some r) K)) (G_l_letters : FnOk P w K mg base CX0 3 (fA 9) (fD 9) ["state", "many"] (spS (fun st ds r st' => f_l_letters st ds = some (r, st')) K)) (G_l_maps : FnOk P w K mg base CX0 3 (fA 11) (fD 11) ["state", "most"] (spS (fun st ds r st' => f_l_maps st ds = some (r, st')) K)) (G_l_stream : FnOk P w K mg base CX0 1 (fA 6) (fD 6) ["script"] (spD (fun ds r => f_l_stream ds = some r) K)) (cdv : Value) (A : Around) (outer : List PySem.Env) (s : Shared) (H : Hp) (E : XK) (gA : A.guards = some []) (hr : Room 3 (A.deeper (envOfC "law" (defScope slaw) s.heap.objs.size (fA 17) cdv))) :
    PSs ((cxOf CX0 P w K mg base ["script", "state", "maps", "letters", "found", "table", "k", "told", "many", "log", "one", "other", "due", "j"] "law" (defScope slaw) (fA 17) cdv A outer s H E).nox) (defBody slaw) (tmlaw K) :=
  pss_cons (ps_set (i := 1) sclaw.nd rfl (by first | exact Or.inl rfl | exact Or.inr rfl) (pe_lst (pa_cons (pe_call G_l_stream (hr.mono (by decide)) (by rfl) T.g_l_stream T.F_l_stream.kp T.b_l_stream .nil pass0 (pa_cons (pv 0) (pa_nil))) (pa_cons (pe_int) (pa_nil)))))
    (pss_cons (ps_set (i := 2) sclaw.nd rfl (by first | exact Or.inl rfl | exact Or.inr rfl) (pe_call G_l_maps (hr.mono (by decide)) (by rfl) T.g_l_maps T.F_l_maps.kp T.b_l_maps .nil pass0 (pa_cons (pv 1) (pa_cons (pe_int) (pa_nil)))))
    (pss_cons (ps_set (i := 3) sclaw.nd rfl (by first | exact Or.inl rfl | exact Or.inr rfl) (pe_call G_l_letters (hr.mono (by decide)) (by rfl) T.g_l_letters T.F_l_letters.kp T.b_l_letters .nil pass0 (pa_cons (pv 1) (pa_cons (pe_callB cf_len (by rfl) T.n_len PySem.boot_len (pa_cons (pv 2) (pa_nil))) (pa_nil)))))
    (pss_cons (ps_set (i := 4) sclaw.nd rfl (by first | exact Or.inl rfl | exact Or.inr rfl) (pe_call G_l_elements (hr.mono (by decide)) (by rfl) T.g_l_elements T.F_l_elements.kp T.b_l_elements .nil pass0 (pa_cons (pv 2) (pa_cons (pe_int) (pa_nil)))))
    (pss_cons (ps_if (pt_cmpR opr_gt (pe_callB cf_len (by rfl) T.n_len PySem.boot_len (pa_cons (pv 4) (pa_nil))) (pe_int) (nomark _)) (pss_one (ps_ret (pe_bl))) (pss_nil))
    (pss_cons (ps_set (i := 5) sclaw.nd rfl (by first | exact Or.inl rfl | exact Or.inr rfl) (pe_call G_l_table (hr.mono (by decide)) (by rfl) T.g_l_table T.F_l_table.kp T.b_l_table .nil pass0 (pa_cons (pv 3) (pa_cons (pv 2) (pa_nil)))))
    (pss_cons (ps_for PassesOwn.never rfl (pi_range1 (by rfl) T.n_range (pa_cons (pe_int) (pa_nil))) (pg_name (i := 6) sclaw.nd rfl (by first | exact Or.inl rfl | exact Or.inr rfl))
    (pss_cons (ps_set (i := 8) sclaw.nd rfl (by first | exact Or.inl rfl | exact Or.inr rfl) (pe_ix ix_seq (pe_lst (pa_cons (pe_call G_l_next (hr.mono (by decide)) (by rfl) T.g_l_next T.F_l_next.kp T.b_l_next .nil pass0 (pa_cons (pv 1) (pa_cons (pe_int) (pa_nil)))) (pa_cons (pe_call G_l_next (hr.mono (by decide)) (by rfl) T.g_l_next T.F_l_next.kp T.b_l_next .nil pass0 (pa_cons (pv 1) (pa_cons (pe_int) (pa_nil)))) (pa_cons (pe_call G_l_next (hr.mono (by decide)) (by rfl) T.g_l_next T.F_l_next.kp T.b_l_next .nil pass0 (pa_cons (pv 1) (pa_cons (pe_int) (pa_nil)))) (pa_nil))))) (pe_call G_l_next (hr.mono (by decide)) (by rfl) T.g_l_next T.F_l_next.kp T.b_l_next .nil pass0 (pa_cons (pv 1) (pa_cons (pe_int) (pa_nil)))) (fun _ _ => rfl)))
    (pss_cons (ps_set (i := 9) sclaw.nd rfl (by first | exact Or.inl rfl | exact Or.inr rfl) (pe_callTy cf_tuple (by rfl) T.n_tuple (by decide +kernel) (pa_cons (pe_lc (own := [("j", 13)]) (g := gName 13) (tt := tYes) rfl sclaw.nd (pi_range1 (by rfl) T.n_range (pa_cons (pv 8) (pa_nil))) (blkOk_by (N := ["script", "state", "maps", "letters", "found", "table", "k", "told", "many", "log", "one", "other", "due", "j"]) (sc := defScope slaw) (by decide +kernel)) (fun _ _ _ _ _ => pg_name (i := 13) sclaw.nd rfl (by first | exact Or.inl rfl | exact Or.inr rfl)) (fun _ _ _ _ _ => pts_nil) (fun _ _ _ _ _ => pe_ix ix_seq (pv 3) (pe_call G_l_next (hr.mono (by decide)) (by rfl) T.g_l_next T.F_l_next.kp T.b_l_next .nil pass0 (pa_cons (pv 1) (pa_cons (pe_callB cf_len (by rfl) T.n_len PySem.boot_len (pa_cons (pv 3) (pa_nil))) (pa_nil)))) (fun _ _ => rfl))) (pa_nil))))
    (pss_cons (ps_set (i := 7) sclaw.nd rfl (by first | exact Or.inl rfl | exact Or.inr rfl) (pe_call G_value_of (hr.mono (by decide)) (by rfl) T.g_value_of T.F_value_of.kp T.b_value_of .nil pass0 (pa_cons (pv 5) (pa_cons (pv 9) (pa_nil)))))
    (pss_one (ps_if (pt_cmpR (opr_ne hr.units) (pe_callB (cf_repr gA (units70 hr)) (by rfl) T.n_repr (by decide +kernel) (pa_cons (pv 7) (pa_nil))) (pe_callB (cf_repr gA (units70 hr)) (by rfl) T.n_repr (by decide +kernel) (pa_cons (pe_call G_l_value (hr.mono (by decide)) (by rfl) T.g_l_value T.F_l_value.kp T.b_l_value .nil pass0 (pa_cons (pv 4) (pa_cons (pv 3) (pa_cons (pv 2) (pa_cons (pv 9) (pa_nil)))))) (pa_nil))) (nomark _)) (pss_one (ps_ret (pe_bl))) (pss_nil)))))))
    (pss_cons (ps_for PassesOwn.never rfl (pi_range1 (by rfl) T.n_range (pa_cons (pe_int) (pa_nil))) (pg_name (i := 6) sclaw.nd rfl (by first | exact Or.inl rfl | exact Or.inr rfl))
    (pss_cons (ps_set (i := 10) sclaw.nd rfl (by first | exact Or.inl rfl | exact Or.inr rfl) (pe_op opr_sub (pe_call G_l_next (hr.mono (by decide)) (by rfl) T.g_l_next T.F_l_next.kp T.b_l_next .nil pass0 (pa_cons (pv 1) (pa_cons (pe_op opr_add (pe_callB cf_len (by rfl) T.n_len PySem.boot_len (pa_cons (pv 4) (pa_nil))) (pe_int)) (pa_nil)))) (pe_int)))
    (pss_cons (ps_set (i := 11) sclaw.nd rfl (by first | exact Or.inl rfl | exact Or.inr rfl) (pe_op opr_sub (pe_call G_l_next (hr.mono (by decide)) (by rfl) T.g_l_next T.F_l_next.kp T.b_l_next .nil pass0 (pa_cons (pv 1) (pa_cons (pe_op opr_add (pe_callB cf_len (by rfl) T.n_len PySem.boot_len (pa_cons (pv 4) (pa_nil))) (pe_int)) (pa_nil)))) (pe_int)))
    (pss_cons (ps_set (i := 12) sclaw.nd rfl (by first | exact Or.inl rfl | exact Or.inr rfl) (pe_ix ix_seq (pe_lst (pa_cons (pv 10) (pa_cons (pv 11) (pa_nil)))) (pe_callTy cf_int (by rfl) T.n_int (by decide +kernel) (pa_cons (pe_cmpR opr_lt (pv 10) (pe_int) (nomark _)) (pa_nil))) (fun _ _ => rfl)))
    (pss_cons (ps_if ((pw_and (pt_cmpR opr_ge (pv 10) (pe_int) (nomark _)) (pw_and1 (pt_cmpR opr_ge (pv 11) (pe_int) (nomark _)))).pt) (pss_one (ps_set (i := 12) sclaw.nd rfl (by first | exact Or.inl rfl | exact Or.inr rfl) (pe_bm PySem.F.plainAttrs_list PySem.F.slot_list_index PySem.F.type_list_index (mt_indexD (units65 hr)) (pv 4) (pa_cons (pe_call G_l_same_as (hr.mono (by decide)) (by rfl) T.g_l_same_as T.F_l_same_as.kp T.b_l_same_as .nil pass0 (pa_cons (pe_ix ix_seq (pv 4) (pv 10) (fun _ _ => rfl)) (pa_cons (pe_ix ix_seq (pv 4) (pv 11) (fun _ _ => rfl)) (pa_nil)))) (pa_nil))))) (pss_nil))
    (pss_one (ps_if (pt_cmpR (opr_ne hr.units) (pe_callB (cf_repr gA (units70 hr)) (by rfl) T.n_repr (by decide +kernel) (pa_cons (pe_call G_times (hr.mono (by decide)) (by rfl) T.g_times T.F_times.kp T.b_times .nil pass0 (pa_cons (pv 5) (pa_cons (pv 10) (pa_cons (pv 11) (pa_nil))))) (pa_nil))) (pe_callB (cf_repr gA (units70 hr)) (by rfl) T.n_repr (by decide +kernel) (pa_cons (pv 12) (pa_nil))) (nomark _)) (pss_one (ps_ret (pe_bl))) (pss_nil))))))))
    (pss_cons (ps_set (i := 7) sclaw.nd rfl (by first | exact Or.inl rfl | exact Or.inr rfl) (pe_call G_least_logs (hr.mono (by decide)) (by rfl) T.g_least_logs T.F_least_logs.kp T.b_least_logs .nil pass0 (pa_cons (pv 5) (pa_nil))))
    (pss_cons (ps_if (pt_cmpR (opr_ne hr.units) (pe_callB (cf_repr gA (units70 hr)) (by rfl) T.n_repr (by decide +kernel) (pa_cons (pv 7) (pa_nil))) (pe_callB (cf_repr gA (units70 hr)) (by rfl) T.n_repr (by decide +kernel) (pa_cons (pe_call G_l_first_logs (hr.mono (by decide)) (by rfl) T.g_l_first_logs T.F_l_first_logs.kp T.b_l_first_logs .nil pass0 (pa_cons (pv 3) (pa_cons (pv 2) (pa_nil)))) (pa_nil))) (nomark _)) (pss_one (ps_ret (pe_bl))) (pss_nil))
    (pss_cons (ps_expr (pe_bm PySem.F.plainAttrs_list PySem.F.slot_list_append PySem.F.type_list_append mt_append (pv 7) (pa_cons (pe_tupX (pa_nil)) pa_nil)))
    (pss_one (ps_ret (pe_cmpR (opr_eq hr.units) (pe_callB (cf_repr gA (units70 hr)) (by rfl) T.n_repr (by decide +kernel) (pa_cons (pe_call G_least_logs (hr.mono (by decide)) (by rfl) T.g_least_logs T.F_least_logs.kp T.b_least_logs .nil pass0 (pa_cons (pv 5) (pa_nil))) (pa_nil))) (pe_callB (cf_repr gA (units70 hr)) (by rfl) T.n_repr (by decide +kernel) (pa_cons (pe_call G_l_first_logs (hr.mono (by decide)) (by rfl) T.g_l_first_logs T.F_l_first_logs.kp T.b_l_first_logs .nil pass0 (pa_cons (pv 3) (pa_cons (pv 2) (pa_nil)))) (pa_nil))) (nomark _))))))))))))))
theorem oklaw (T : Txt K mg fA fD cA) : FnG P w K mg base CX0 4 (fA 17) (fD 17) ["script"] (spD (fun ds r => f_law ds = some r) K) :=
  def_DG T.F_law sclaw (fun _ _ h => len_D h) (t := denS K c_law) (fun cdv A outer s H E gA hr => (dnlaw K) ▸ htlaw T (okleast_logs T) (okl_first_logs T) (oktimes T) (okl_same_as T) (okl_next T) (okl_value T) (okvalue_of T) (okl_table T) (okl_elements T) (okl_letters T) (okl_maps T) (okl_stream T) cdv A outer s H E gA hr) (fun _ _ h => run_D h)
end
end K16

namespace EV
open PySem PySem.Spec PyProof.Rows L2 DL
section
variable {β : Type} {kd : D → Option β}
def tupI (l : List Int) : D := .tuple (l.map .int)
theorem aI_int {ns : List Int} {i : Int} (h0 : 0 ≤ i) (h1 : i < ns.length) : aI (ns.map PyData.int) i kd = kd (.int (ns.getD i.toNat 0)) := by
  unfold aI
  rw [atI_ints h0 h1]; rfl
theorem nthD_map {α : Type} {f : α → D} {xs : List α} {i : Nat} (d : α) (h : i < xs.length) : nthD (xs.map f) i = f (xs.getD i d) := by
  unfold nthD
  simp [List.getD_eq_getElem?_getD, List.getElem?_map, List.getElem?_eq_getElem h]
theorem aI_map {α : Type} {f : α → D} {xs : List α} {i : Int} (d : α) (h0 : 0 ≤ i) (h1 : i < xs.length) : aI (xs.map f) i kd = kd (f (xs.getD i.toNat d)) := by
  rw [aI_in h0 (by rw [List.length_map]; exact h1), nthD_map d (by omega)]
theorem aI_str {ns : List Str} {i : Int} (h0 : 0 ≤ i) (h1 : i < ns.length) : aI (ns.map PyData.str) i kd = kd (.str (ns.getD i.toNat "")) := aI_map (f := PyData.str) ("" : Str) h0 h1
theorem aI_row {ns : List (List Int)} {i : Int} (h0 : 0 ≤ i) (h1 : i < ns.length) : aI (ns.map tupI) i kd = kd (tupI (ns.getD i.toNat [])) := aI_map [] h0 h1
theorem aI_i1 {a i : Int} (h0 : 0 ≤ i) (h1 : i < 1) : aI [.int a] i kd = kd (.int ([a].getD i.toNat 0)) := aI_int (ns := [a]) h0 (by simp only [List.length_cons, List.length_nil]; omega)
theorem aI_i2 {a b i : Int} (h0 : 0 ≤ i) (h1 : i < 2) : aI [.int a, .int b] i kd = kd (.int ([a, b].getD i.toNat 0)) := aI_int (ns := [a, b]) h0 (by simp only [List.length_cons, List.length_nil]; omega)
theorem aI_i3 {a b c i : Int} (h0 : 0 ≤ i) (h1 : i < 3) : aI [.int a, .int b, .int c] i kd = kd (.int ([a, b, c].getD i.toNat 0)) := aI_int (ns := [a, b, c]) h0 (by simp only [List.length_cons, List.length_nil]; omega)
theorem aI_i4 {a b c d i : Int} (h0 : 0 ≤ i) (h1 : i < 4) : aI [.int a, .int b, .int c, .int d] i kd = kd (.int ([a, b, c, d].getD i.toNat 0)) := aI_int (ns := [a, b, c, d]) h0 (by simp only [List.length_cons, List.length_nil]; omega)
theorem aI_i5 {a b c d e i : Int} (h0 : 0 ≤ i) (h1 : i < 5) : aI [.int a, .int b, .int c, .int d, .int e] i kd = kd (.int ([a, b, c, d, e].getD i.toNat 0)) := aI_int (ns := [a, b, c, d, e]) h0 (by simp only [List.length_cons, List.length_nil]; omega)
theorem aI_i6 {a b c d e f i : Int} (h0 : 0 ≤ i) (h1 : i < 6) : aI [.int a, .int b, .int c, .int d, .int e, .int f] i kd = kd (.int ([a, b, c, d, e, f].getD i.toNat 0)) := aI_int (ns := [a, b, c, d, e, f]) h0 (by simp only [List.length_cons, List.length_nil]; omega)
theorem aI_b2 {a b : D} {c : Bool} : aI [a, b] (if c = true then 1 else 0) kd = kd (if c = true then b else a) := by
  cases c
  · exact aI_0
  · exact aI_1
def sgn (z : Str) (j : Nat) : Str := ⟨#[z.cps.toList.getD j 0]⟩
theorem oZ_ixS {z : Str} {i : Int} {kz : Rz → Option β} (h0 : 0 ≤ i) (h1 : i < z.length) (hz : z.length ≤ sizeLine) : oZ .ix (.str z) (.int i) kz = kz (.d (.str (sgn z i.toNat))) := by
  show Option.bind (if _ then _ else none) _ = _
  rw [if_pos hz]
  have hl : z.cps.toList.length = z.length := by simp [Str.length]
  have : atI z.cps.toList i = some (z.cps.toList.getD i.toNat 0) := by
    unfold atI ixN
    rw [if_pos h0, if_pos (by rw [hl]; exact h1)]
    show z.cps.toList[i.toNat]? = _
    rw [List.getD_eq_getElem?_getD, List.getElem?_eq_getElem (by omega)]
    rfl
  rw [this]; rfl
theorem len_abyz : ("abyz" : Str).length = 4 := by decide
theorem len_az : ("abcdefghijklmnopqrstuvwxyz" : Str).length = 26 := by decide
theorem oZ_abyz {i : Int} {kz : Rz → Option β} (h0 : 0 ≤ i) (h1 : i < 4) : oZ .ix (.str "abyz") (.int i) kz = kz (.d (.str (sgn "abyz" i.toNat))) := oZ_ixS h0 (by rw [len_abyz]; exact h1) (by rw [len_abyz, sizeLine_eq]; omega)
theorem oZ_az {i : Int} {kz : Rz → Option β} (h0 : 0 ≤ i) (h1 : i < 26) : oZ .ix (.str "abcdefghijklmnopqrstuvwxyz") (.int i) kz = kz (.d (.str (sgn "abcdefghijklmnopqrstuvwxyz" i.toNat))) := oZ_ixS h0 (by rw [len_az]; exact h1) (by rw [len_az, sizeLine_eq]; omega)
theorem sgn_len {z : Str} {j : Nat} : (sgn z j).length = 1 := rfl
theorem rgD_ints {a : Int} {n : Nat} : rgD a n = ((List.range n).map fun i => a + (i : Nat)).map PyData.int := by
  unfold rgD
  rw [List.map_map]; rfl
theorem canLayInts : ∀ ns : List Int, PyData.canLayAll0 (ns.map PyData.int) = true
  | [] => rfl
  | _ :: ns => by simp [PyData.canLayAll0, PyData.canLay0, canLayInts ns]
theorem shT (l : List Int) : SeqAt.shaped (tupI l) = true := by
  unfold SeqAt.shaped tupI
  simp [PyData.canLay0, canLayInts, PyData.depth, depthInts]
theorem shTi (l : List Int) : SeqAt.shaped (.tuple (l.map .int)) = true := shT l
theorem shLi (l : List Int) : SeqAt.shaped (.list (l.map .int)) = true := by
  unfold SeqAt.shaped
  simp [PyData.canLay0, canLayInts, PyData.depth, depthInts]
theorem shI (i : Int) : SeqAt.shaped (.int i) = true := rfl
theorem canLayRows : ∀ E : List (List Int), PyData.canLayAll0 (E.map tupI) = true
  | [] => rfl
  | a :: E => by
    rw [List.map_cons, PyData.canLayAll0, canLayRows E]
    unfold tupI
    simp [PyData.canLay0, canLayInts]
theorem depthRows : ∀ E : List (List Int), PyData.depthAll (E.map tupI) ≤ 1
  | [] => by simp [PyData.depthAll]
  | a :: E => by
    rw [List.map_cons, PyData.depthAll]
    have := depthRows E
    have h : PyData.depth (tupI a) = 1 := by unfold tupI; simp [PyData.depth, depthInts]
    omega
theorem shL (E : List (List Int)) : SeqAt.shaped (.list (E.map tupI)) = true := by
  unfold SeqAt.shaped
  have := depthRows E
  simp [PyData.canLay0, canLayRows, PyData.depth]
  omega
theorem eqvAllInts : ∀ a b : List Int, PyData.eqvAll (a.map .int) (b.map .int) = decide (a = b)
  | [], [] => rfl
  | [], _ :: _ => rfl
  | _ :: _, [] => rfl
  | x :: a, y :: b => by
    rw [List.map_cons, List.map_cons, PyData.eqvAll, eqvAllInts a b]
    show ((x == y) && decide (a = b)) = _
    by_cases h : x = y <;> by_cases h2 : a = b <;> simp [h, h2]
theorem eqvT (a b : List Int) : PyData.eqv (tupI a) (tupI b) = decide (a = b) := eqvAllInts a b
theorem inD_rows (x : List Int) : ∀ E : List (List Int), inD (tupI x) (E.map tupI) = decide (x ∈ E)
  | [] => rfl
  | a :: E => by
    have := inD_rows x E
    unfold inD at this ⊢
    rw [List.map_cons, List.any_cons, this, eqvT]
    by_cases h : a = x
    · simp [h]
    · have h2 : ¬ x = a := fun z => h z.symm
      simp [h, h2]
theorem inD_ints (x : Int) : ∀ E : List Int, inD (.int x) (E.map .int) = decide (x ∈ E)
  | [] => rfl
  | a :: E => by
    have := inD_ints x E
    unfold inD at this ⊢
    rw [List.map_cons, List.any_cons, this]
    show ((a == x) || _) = _
    by_cases h : a = x
    · subst h; simp
    · have h2 : ¬ x = a := fun z => h z.symm
      have h3 : (a == x) = false := beq_eq_false_iff_ne.mpr h
      simp [h2, h3]
theorem inD_strs (x : Str) : ∀ E : List Str, inD (.str x) (E.map .str) = decide (x ∈ E)
  | [] => rfl
  | a :: E => by
    have := inD_strs x E
    unfold inD at this ⊢
    rw [List.map_cons, List.any_cons, this]
    show ((a == x) || _) = _
    by_cases h : a = x
    · subst h; simp
    · have h2 : ¬ x = a := fun z => h z.symm
      have h3 : (a == x) = false := beq_eq_false_iff_ne.mpr h
      simp [h2, h3]
theorem flatInts (E : List Int) : (E.map PyData.int).all flatD = true := by simp [flatD]
theorem flatStrsD (E : List Str) : (E.map PyData.str).all flatD = true := by simp [flatD]
def idxI (x : List Int) : List (List Int) → Nat
  | [] => 0
  | y :: l => if y = x then 0 else idxI x l + 1
theorem idxOf_rows {x : List Int} : ∀ {E : List (List Int)}, x ∈ E → idxOf (tupI x) (E.map tupI) = some (idxI x E)
  | [], h => by cases h
  | y :: E, h => by
    rw [List.map_cons, idxOf, idxI, eqvT]
    by_cases e : y = x
    · simp [e]
    · have : x ∈ E := (List.mem_cons.mp h).resolve_left fun z => e z.symm
      simp [e, idxOf_rows this]
def fixS (x : Str) : List Str → Nat
  | [] => 0
  | y :: l => if y = x then 0 else fixS x l + 1
theorem idxS_fix {x : Str} : ∀ {E : List Str}, x ∈ E → idxS x E = some (fixS x E)
  | [], h => by cases h
  | y :: E, h => by
    rw [idxS, fixS]
    by_cases e : y = x
    · simp [e]
    · have : x ∈ E := (List.mem_cons.mp h).resolve_left fun z => e z.symm
      simp [e, idxS_fix this]
theorem ixS_fix {x : Str} {E : List Str} {k : Nat → Option β} (h : x ∈ E) : ixS x (E.map .str) k = k (fixS x E) := by
  unfold ixS
  rw [strsOf_map]
  show (idxS x E).bind k = _
  rw [idxS_fix h]; rfl
theorem ixK_rows {x : List Int} {E : List (List Int)} {k : Nat → Option β} (h : x ∈ E) : ixK (tupI x) (E.map tupI) k = k (idxI x E) := by
  unfold ixK
  rw [idxOf_rows h]; rfl
end
/-! ### loops over typed items -/
theorem lc_map {α : Type} (enc F : α → D) {f : D → Rho → Option (Option D × Rho)} {ρ : Rho} {xs : List α} (h : ∀ x ∈ xs, f (enc x) ρ = some (some (F x), ρ)) : lcGo f (xs.map enc) ρ = some (xs.map F, ρ) := by
  induction xs with
  | nil => rfl
  | cons x xs ih =>
    show (f (enc x) ρ).bind _ = _
    rw [h x List.mem_cons_self]
    show (lcGo f (xs.map enc) ρ).bind _ = _
    rw [ih fun y m => h y (List.mem_cons_of_mem _ m)]
    rfl
theorem lc_mapf {α : Type} (enc F : α → D) (p : α → Bool) {f : D → Rho → Option (Option D × Rho)} {ρ : Rho} {xs : List α} (h : ∀ x ∈ xs, f (enc x) ρ = some (if p x then some (F x) else none, ρ)) : lcGo f (xs.map enc) ρ = some ((xs.filter p).map F, ρ) := by
  induction xs with
  | nil => rfl
  | cons x xs ih =>
    show (f (enc x) ρ).bind _ = _
    rw [h x List.mem_cons_self]
    show (lcGo f (xs.map enc) ρ).bind _ = _
    rw [ih fun y m => h y (List.mem_cons_of_mem _ m), List.filter_cons]
    cases p x <;> rfl
def lastE {α : Type} (enc : α → D) : List α → Ent → Ent
  | [], e => e
  | x :: xs, _ => lastE enc xs (.dat (enc x))
theorem for_fold {α σ : Type} (enc : α → D) (step : σ → α → σ) (R : σ → Ent → Rho) (P : σ → Prop) {f : D → Rho → Option Out} : ∀ {xs : List α} {s : σ} {e : Ent}, P s → (∀ s e x, x ∈ xs → P s → f (enc x) (R s e) = some (.nx (R (step s x) (.dat (enc x)))) ∧ P (step s x)) →
    forGo f (xs.map enc) (R s e) = some (.nx (R (xs.foldl step s) (lastE enc xs e))) ∧ P (xs.foldl step s)
  | [], s, e, hp, _ => ⟨rfl, hp⟩
  | x :: xs, s, e, hp, h => by
    obtain ⟨h1, h2⟩ := h s e x List.mem_cons_self hp
    obtain ⟨h3, h4⟩ := for_fold enc step R P (xs := xs) (e := .dat (enc x)) h2 fun s e y m => h s e y (List.mem_cons_of_mem _ m)
    refine ⟨?_, h4⟩
    show (f (enc x) (R s e)).bind _ = _
    rw [h1]
    exact h3
theorem rgD_0 {n : Nat} : rgD 0 n = (List.range n).map fun i => PyData.int ((i : Nat) : Int) := by
  unfold rgD
  simp
theorem for_foldi' {α σ : Type} (enc : α → D) (step : σ → α → σ) (R : σ → Ent → Rho) (P : Nat → σ → Prop) {f : D → Rho → Option Out} (n : Nat) : ∀ {xs : List α} {s : σ} {e : Ent} {i : Nat}, i + xs.length = n → P i s → (∀ i s e x, i < n → x ∈ xs → P i s → f (enc x) (R s e) = some (.nx (R (step s x) (.dat (enc x)))) ∧ P (i + 1) (step s x)) →
    forGo f (xs.map enc) (R s e) = some (.nx (R (xs.foldl step s) (lastE enc xs e))) ∧ P n (xs.foldl step s)
  | [], s, e, i, hn, hp, _ => ⟨rfl, by rw [← hn]; exact hp⟩
  | x :: xs, s, e, i, hn, hp, h => by
    rw [List.length_cons] at hn
    obtain ⟨h1, h2⟩ := h i s e x (by omega) List.mem_cons_self hp
    obtain ⟨h3, h4⟩ := for_foldi' enc step R P n (xs := xs) (e := .dat (enc x)) (by omega) h2 fun i s e y hi m => h i s e y hi (List.mem_cons_of_mem _ m)
    refine ⟨?_, h4⟩
    show (f (enc x) (R s e)).bind _ = _
    rw [h1]
    exact h3
theorem for_foldi {α σ : Type} (enc : α → D) (step : σ → α → σ) (R : σ → Ent → Rho) (P : Nat → σ → Prop) {f : D → Rho → Option Out} {xs : List α} {s : σ} {e : Ent} (hp : P 0 s) (h : ∀ i s e x, i < xs.length → x ∈ xs → P i s → f (enc x) (R s e) = some (.nx (R (step s x) (.dat (enc x)))) ∧ P (i + 1) (step s x)) :
    forGo f (xs.map enc) (R s e) = some (.nx (R (xs.foldl step s) (lastE enc xs e))) ∧ P xs.length (xs.foldl step s) := for_foldi' enc step R P xs.length (Nat.zero_add _) hp h
theorem cZ_lenP {β : Type} {l : List Int} {kz : Rz → Option β} : cZ .len [tupI l] kz = kz (.d (.int l.length)) := by unfold tupI; rw [cZ_lenTm]
theorem oZ_ixP {β : Type} {l : List Int} {i : Int} {kz : Rz → Option β} (h0 : 0 ≤ i) (h1 : i < l.length) : oZ .ix (tupI l) (.int i) kz = kz (.d (.int (l.getD i.toNat 0))) := by unfold tupI; rw [oZ_ixT, aI_int h0 h1]
theorem sD_P {β : Type} {l : List Int} {kl : List D → Option β} : sD (tupI l) kl = kl (l.map .int) := rfl
theorem cZ_lstP {β : Type} {l : List Int} {kz : Rz → Option β} : cZ .list [tupI l] kz = kz (.n (l.map .int)) := rfl
end EV

set_option autoImplicit false

namespace CS
open PySem PySem.Spec PyProof.Rows L2 DL EV
local macro_rules | `(tactic| walk_at "side") => `(tactic| first | omega | (simp only [List.length_cons, List.length_nil, List.length_map, List.length_append, List.length_range, PySem.sizeLine_eq]; omega) | assumption | (simp; done))
theorem next_eq {N : List Int} {k many : Int} (G : Good N) (h0 : 0 ≤ k) (h1 : k < KMax) (hm : 0 < many) : f_l_next (stAt N k) [.int many] = some (.dat (.int (nxt N k many)), stAt N (k + 1)) := by
  have hp := G.pos
  have hl := G.len
  have hd := good_div G (k := k + 1) (by omega) (by omega)
  have e1 : 0 ≤ (k + 1) % (N.length : Int) := Int.emod_nonneg _ (by omega)
  have e2 : (k + 1) % (N.length : Int) < N.length := Int.emod_lt_of_pos _ (by omega)
  have hK : KMax = 1000000000 := rfl
  rw [x_l_next]
  unfold stAt nxt
  simp (config := { implicitDefEqProofs := false }) (disch := walk_at "side") only [↓reduceIte, decide_eq_true_eq, decide_true, decide_false, Bool.not_true, Bool.not_false, Bool.false_eq_true, Int.reduceEq, Int.reduceLT, Int.reduceLE, Int.reduceNeg, Int.reduceToNat, ↓okI, ↓okI2, ↓aV_d, ↓aV_o, ↓aV_n, ↓aV_w, ↓dV_d, ↓dV_n, ↓dV_w, ↓gE_0, ↓gE_s, ↓eL_l, ↓eD_l, ↓eV_d, ↓eV_l, ↓nA_d, ↓nA_o, ↓iD_i, ↓bD_b, ↓kD_i, ↓kD_s, ↓zD_d, ↓vZ_d, ↓vZ_n, ↓sR_0, ↓sR_s, ↓sK_n, ↓sK_0, ↓lD_l, ↓sD_l, ↓sD_t, ↓tD_t, ↓dA_nil, ↓dA_d, ↓dN_nil, ↓dN_c, ↓oZ_addI, ↓oZ_addS, ↓oZ_addT, ↓oZ_addL, ↓oZ_sub, ↓oZ_mul, ↓oZ_mulT, ↓oZ_fdiv, ↓oZ_mod, ↓oZ_pow, ↓oZ_eqI, ↓oZ_eqS, ↓oZ_neS, ↓oZ_neI, ↓oZ_lt, ↓oZ_le, ↓oZ_gt, ↓oZ_ge, ↓oZ_ixL, ↓oZ_ixT, ↓aI_0, ↓aI_1, ↓aI_2, ↓nI_0, ↓nI_1, ↓lS_0, ↓lS_s, ↓aI_int, ↓aI_str, ↓aI_row, ↓aI_b2, ↓aI_i1, ↓aI_i2, ↓aI_i3, ↓aI_i4, ↓aI_i5, ↓aI_i6, ↓oZ_abyz, ↓oZ_az, ↓cZ_lenLm, ↓cZ_lenTm, ↓cZ_lenP, ↓oZ_ixP, ↓sD_P, ↓cZ_lstP, ↓cZ_abs, ↓cZ_int, ↓cZ_intB, ↓cZ_tup, ↓cZ_lstL, ↓cZ_lstT, ↓cZ_all, ↓cZ_any, ↓cZ_max2, ↓cZ_min2, ↓cZ_sum, ↓cZ_sorted, ↓xE_int, ↓xE_bl, ↓xE_str, ↓xE_non, ↓xE_var, ↓xE_op, ↓xE_neg, ↓xE_nt, ↓xE_an, ↓xE_or, ↓xE_ch, ↓xE_isN, ↓xE_notN, ↓xE_ife, ↓xE_tup, ↓xE_lst, ↓xE_sl, ↓sl1_T, ↓sl1_L, ↓xE_cb, ↓xE_isa, ↓xE_call, ↓xE_callS, ↓xE_lc, ↓sN_0, ↓sN_s, ↓xE_lrg, ↓xE_trg, ↓xE_pop, ↓xE_idxL, ↓sT_s, ↓xE_idxT, ↓xE_dget, ↓xE_din, ↓xE_dnin, ↓xE_dset, ↓xA_nil, ↓xA_cons, ↓xT_te, ↓xT_tb, ↓xT_nt, ↓xT_an, ↓xT_or, ↓xT_yes, ↓xT_lend, ↓xP_no, ↓xP_at, ↓xI_rng1, ↓xI_rng2, ↓xI_u, ↓xI_en, ↓xG_nm, ↓xG_tup, ↓xGs_nil, ↓xGs_cons, ↓sV_d, ↓sV_n, ↓sV_w, ↓rV_d, ↓rV_n, ↓rV_w, ↓rV_o, ↓xS_set, ↓xS_asg, ↓xS_seti, ↓xS_app, ↓xS_newD, ↓xS_dput, ↓xS_drop, ↓xS_ret, ↓xS_retN, ↓xS_iff, ↓xS_for, ↓xS_wh, ↓xS_brk, ↓xS_cont, ↓xS_nx, ↓xS_seq, ↓xS_fz, ↓fzK_l, ↓fzK_d, ↓fzK_n, ↓fzK_D, ↓kS_nx, ↓kS_rt, ↓kS_bk, ↓kS_ct, ↓out1_rt, ↓out2_rt, ↓u_c_l_next]
theorem stream1 {s c m : Ent} : ∀ (l : List D) (acc : List Int) (r : Int) (kk : Ent), acc.length + l.length ≤ 100000 → ∃ r' k', forGo (trn [] (.nm 4) b_l_stream_1) l [s, .own (.lst (acc.map .int)), c, .dat (.int r), kk, m] = some (.nx [s, .own (.lst ((acc ++ dig l.length r).map .int)), c, r', k', m])
  | [], acc, r, kk, _ => ⟨.dat (.int r), kk, by simp [forGo, dig]⟩
  | x :: l, acc, r, kk, h => by
    rw [List.length_cons] at h
    rw [forGo_x]
    simp (config := { implicitDefEqProofs := false }) (disch := walk_at "side") only [↓reduceIte, decide_eq_true_eq, decide_true, decide_false, Bool.not_true, Bool.not_false, Bool.false_eq_true, Int.reduceEq, Int.reduceLT, Int.reduceLE, Int.reduceNeg, Int.reduceToNat, ↓okI, ↓okI2, ↓aV_d, ↓aV_o, ↓aV_n, ↓aV_w, ↓dV_d, ↓dV_n, ↓dV_w, ↓gE_0, ↓gE_s, ↓eL_l, ↓eD_l, ↓eV_d, ↓eV_l, ↓nA_d, ↓nA_o, ↓iD_i, ↓bD_b, ↓kD_i, ↓kD_s, ↓zD_d, ↓vZ_d, ↓vZ_n, ↓sR_0, ↓sR_s, ↓sK_n, ↓sK_0, ↓lD_l, ↓sD_l, ↓sD_t, ↓tD_t, ↓dA_nil, ↓dA_d, ↓dN_nil, ↓dN_c, ↓oZ_addI, ↓oZ_addS, ↓oZ_addT, ↓oZ_addL, ↓oZ_sub, ↓oZ_mul, ↓oZ_mulT, ↓oZ_fdiv, ↓oZ_mod, ↓oZ_pow, ↓oZ_eqI, ↓oZ_eqS, ↓oZ_neS, ↓oZ_neI, ↓oZ_lt, ↓oZ_le, ↓oZ_gt, ↓oZ_ge, ↓oZ_ixL, ↓oZ_ixT, ↓aI_0, ↓aI_1, ↓aI_2, ↓nI_0, ↓nI_1, ↓lS_0, ↓lS_s, ↓aI_int, ↓aI_str, ↓aI_row, ↓aI_b2, ↓aI_i1, ↓aI_i2, ↓aI_i3, ↓aI_i4, ↓aI_i5, ↓aI_i6, ↓oZ_abyz, ↓oZ_az, ↓cZ_lenLm, ↓cZ_lenTm, ↓cZ_lenP, ↓oZ_ixP, ↓sD_P, ↓cZ_lstP, ↓cZ_abs, ↓cZ_int, ↓cZ_intB, ↓cZ_tup, ↓cZ_lstL, ↓cZ_lstT, ↓cZ_all, ↓cZ_any, ↓cZ_max2, ↓cZ_min2, ↓cZ_sum, ↓cZ_sorted, ↓xE_int, ↓xE_bl, ↓xE_str, ↓xE_non, ↓xE_var, ↓xE_op, ↓xE_neg, ↓xE_nt, ↓xE_an, ↓xE_or, ↓xE_ch, ↓xE_isN, ↓xE_notN, ↓xE_ife, ↓xE_tup, ↓xE_lst, ↓xE_sl, ↓sl1_T, ↓sl1_L, ↓xE_cb, ↓xE_isa, ↓xE_call, ↓xE_callS, ↓xE_lc, ↓sN_0, ↓sN_s, ↓xE_lrg, ↓xE_trg, ↓xE_pop, ↓xE_idxL, ↓sT_s, ↓xE_idxT, ↓xE_dget, ↓xE_din, ↓xE_dnin, ↓xE_dset, ↓xA_nil, ↓xA_cons, ↓xT_te, ↓xT_tb, ↓xT_nt, ↓xT_an, ↓xT_or, ↓xT_yes, ↓xT_lend, ↓xP_no, ↓xP_at, ↓xI_rng1, ↓xI_rng2, ↓xI_u, ↓xI_en, ↓xG_nm, ↓xG_tup, ↓xGs_nil, ↓xGs_cons, ↓sV_d, ↓sV_n, ↓sV_w, ↓rV_d, ↓rV_n, ↓rV_w, ↓rV_o, ↓xS_set, ↓xS_asg, ↓xS_seti, ↓xS_app, ↓xS_newD, ↓xS_dput, ↓xS_drop, ↓xS_ret, ↓xS_retN, ↓xS_iff, ↓xS_for, ↓xS_wh, ↓xS_brk, ↓xS_cont, ↓xS_nx, ↓xS_seq, ↓xS_fz, ↓fzK_l, ↓fzK_d, ↓fzK_n, ↓fzK_D, ↓kS_nx, ↓kS_rt, ↓kS_bk, ↓kS_ct, ↓out1_rt, ↓out2_rt, ↓u_b_l_stream_1, ↓aft_bk]
    by_cases q : r / 1009 = 0
    · refine ⟨.dat (.int (r / 1009)), .dat x, ?_⟩
      simp [q, dig]
    · obtain ⟨r', k', e⟩ := stream1 l (acc ++ [r % 1009]) (r / 1009) (.dat x) (by rw [List.length_append, List.length_singleton]; omega)
      refine ⟨r', k', ?_⟩
      simp [q, dig] at e ⊢
      exact e
theorem stream2 {s c r m : Ent} {acc : List Int} {m0 : Int} {kk : Ent} (hm : 0 ≤ m0 ∧ m0 < 2147483647) (h : acc.length ≤ 100000) : forGo (trn [] (.nm 4) b_l_stream_3) (rgD 0 10) [s, .own (.lst (acc.map .int)), c, r, kk, .dat (.int m0)] = some (.nx [s, .own (.lst ((acc ++ (List.range 10).map (mxo m0)).map .int)), c, r, .dat (.int 9), .dat (.int (mxm m0 10))]) := by
  have bm : ∀ i, 0 ≤ mxm m0 i ∧ mxm m0 i < 2147483647 := fun i => by
    cases i with
    | zero => exact hm
    | succ i => exact ⟨Int.emod_nonneg _ (by omega), Int.emod_lt_of_pos _ (by omega)⟩
  refine for_inv (fun i => [s, .own (.lst ((acc ++ (List.range i).map (mxo m0)).map .int)), c, r, if i = 0 then kk else .dat (.int ((i : Int) - 1)), .dat (.int (mxm m0 i))]) (by simp [mxm]) (by rw [rgD_len]; rfl) fun i hi => ?_
  rw [rgD_len] at hi
  rw [rgD_at hi, trn_x]
  have b := bm i
  have hz : ((acc ++ (List.range i).map (mxo m0)).map PyData.int).length < sizeLine := by simp [sizeLine_eq]; omega
  simp (config := { implicitDefEqProofs := false }) (disch := walk_at "side") only [↓reduceIte, decide_eq_true_eq, decide_true, decide_false, Bool.not_true, Bool.not_false, Bool.false_eq_true, Int.reduceEq, Int.reduceLT, Int.reduceLE, Int.reduceNeg, Int.reduceToNat, ↓okI, ↓okI2, ↓aV_d, ↓aV_o, ↓aV_n, ↓aV_w, ↓dV_d, ↓dV_n, ↓dV_w, ↓gE_0, ↓gE_s, ↓eL_l, ↓eD_l, ↓eV_d, ↓eV_l, ↓nA_d, ↓nA_o, ↓iD_i, ↓bD_b, ↓kD_i, ↓kD_s, ↓zD_d, ↓vZ_d, ↓vZ_n, ↓sR_0, ↓sR_s, ↓sK_n, ↓sK_0, ↓lD_l, ↓sD_l, ↓sD_t, ↓tD_t, ↓dA_nil, ↓dA_d, ↓dN_nil, ↓dN_c, ↓oZ_addI, ↓oZ_addS, ↓oZ_addT, ↓oZ_addL, ↓oZ_sub, ↓oZ_mul, ↓oZ_mulT, ↓oZ_fdiv, ↓oZ_mod, ↓oZ_pow, ↓oZ_eqI, ↓oZ_eqS, ↓oZ_neS, ↓oZ_neI, ↓oZ_lt, ↓oZ_le, ↓oZ_gt, ↓oZ_ge, ↓oZ_ixL, ↓oZ_ixT, ↓aI_0, ↓aI_1, ↓aI_2, ↓nI_0, ↓nI_1, ↓lS_0, ↓lS_s, ↓aI_int, ↓aI_str, ↓aI_row, ↓aI_b2, ↓aI_i1, ↓aI_i2, ↓aI_i3, ↓aI_i4, ↓aI_i5, ↓aI_i6, ↓oZ_abyz, ↓oZ_az, ↓cZ_lenLm, ↓cZ_lenTm, ↓cZ_lenP, ↓oZ_ixP, ↓sD_P, ↓cZ_lstP, ↓cZ_abs, ↓cZ_int, ↓cZ_intB, ↓cZ_tup, ↓cZ_lstL, ↓cZ_lstT, ↓cZ_all, ↓cZ_any, ↓cZ_max2, ↓cZ_min2, ↓cZ_sum, ↓cZ_sorted, ↓xE_int, ↓xE_bl, ↓xE_str, ↓xE_non, ↓xE_var, ↓xE_op, ↓xE_neg, ↓xE_nt, ↓xE_an, ↓xE_or, ↓xE_ch, ↓xE_isN, ↓xE_notN, ↓xE_ife, ↓xE_tup, ↓xE_lst, ↓xE_sl, ↓sl1_T, ↓sl1_L, ↓xE_cb, ↓xE_isa, ↓xE_call, ↓xE_callS, ↓xE_lc, ↓sN_0, ↓sN_s, ↓xE_lrg, ↓xE_trg, ↓xE_pop, ↓xE_idxL, ↓sT_s, ↓xE_idxT, ↓xE_dget, ↓xE_din, ↓xE_dnin, ↓xE_dset, ↓xA_nil, ↓xA_cons, ↓xT_te, ↓xT_tb, ↓xT_nt, ↓xT_an, ↓xT_or, ↓xT_yes, ↓xT_lend, ↓xP_no, ↓xP_at, ↓xI_rng1, ↓xI_rng2, ↓xI_u, ↓xI_en, ↓xG_nm, ↓xG_tup, ↓xGs_nil, ↓xGs_cons, ↓sV_d, ↓sV_n, ↓sV_w, ↓rV_d, ↓rV_n, ↓rV_w, ↓rV_o, ↓xS_set, ↓xS_asg, ↓xS_seti, ↓xS_app, ↓xS_newD, ↓xS_dput, ↓xS_drop, ↓xS_ret, ↓xS_retN, ↓xS_iff, ↓xS_for, ↓xS_wh, ↓xS_brk, ↓xS_cont, ↓xS_nx, ↓xS_seq, ↓xS_fz, ↓fzK_l, ↓fzK_d, ↓fzK_n, ↓fzK_D, ↓kS_nx, ↓kS_rt, ↓kS_bk, ↓kS_ct, ↓out1_rt, ↓out2_rt, ↓u_b_l_stream_3]
  simp only [List.range_succ, List.map_append, List.map_cons, List.map_nil, ← List.append_assoc, mxo, mxm, Nat.add_one_ne_zero, if_false, Int.natCast_add, Int.zero_add]
  simp

theorem stream3 {s : Ent} {acc : List Int} {cell : Int} {e2 e3 e4 e5 : Ent} (h : acc.length ≤ 60 * 63) : ∃ f3 f4 f5, trn [] (.nm 2) b_l_stream_5 (.int cell) [s, .own (.lst (acc.map .int)), e2, e3, e4, e5] = some (.nx [s, .own (.lst ((acc ++ chunk cell).map .int)), .dat (.int cell), f3, f4, f5]) := by
  rw [trn_x]
  have e : (if cell < 0 then -cell else cell) = cellAbs cell := rfl
  have hA : 0 ≤ cellAbs cell := by unfold cellAbs; split <;> omega
  by_cases q : (10 : Int) ^ 18 ≤ cellAbs cell
  · obtain ⟨r', k', e1⟩ := stream1 (s := s) (c := .dat (.int cell)) (m := e5) (rgD 0 60) acc (cellAbs cell) e4 (by rw [rgD_len]; omega)
    have e2 : forGo (trn [] (.nm 4) b_l_stream_1) (rgD 0 (60 : Int).toNat) [s, .own (.lst (acc.map .int)), .dat (.int cell), .dat (.int (if cell < 0 then -cell else cell)), e4, e5] = _ := e1
    have ch : chunk cell = dig 60 (cellAbs cell) := by unfold chunk; rw [if_pos q]
    refine ⟨r', k', e5, ?_⟩
    simp (config := { implicitDefEqProofs := false }) (disch := walk_at "side") only [↓reduceIte, decide_eq_true_eq, decide_true, decide_false, Bool.not_true, Bool.not_false, Bool.false_eq_true, Int.reduceEq, Int.reduceLT, Int.reduceLE, Int.reduceNeg, Int.reduceToNat, ↓okI, ↓okI2, ↓aV_d, ↓aV_o, ↓aV_n, ↓aV_w, ↓dV_d, ↓dV_n, ↓dV_w, ↓gE_0, ↓gE_s, ↓eL_l, ↓eD_l, ↓eV_d, ↓eV_l, ↓nA_d, ↓nA_o, ↓iD_i, ↓bD_b, ↓kD_i, ↓kD_s, ↓zD_d, ↓vZ_d, ↓vZ_n, ↓sR_0, ↓sR_s, ↓sK_n, ↓sK_0, ↓lD_l, ↓sD_l, ↓sD_t, ↓tD_t, ↓dA_nil, ↓dA_d, ↓dN_nil, ↓dN_c, ↓oZ_addI, ↓oZ_addS, ↓oZ_addT, ↓oZ_addL, ↓oZ_sub, ↓oZ_mul, ↓oZ_mulT, ↓oZ_fdiv, ↓oZ_mod, ↓oZ_pow, ↓oZ_eqI, ↓oZ_eqS, ↓oZ_neS, ↓oZ_neI, ↓oZ_lt, ↓oZ_le, ↓oZ_gt, ↓oZ_ge, ↓oZ_ixL, ↓oZ_ixT, ↓aI_0, ↓aI_1, ↓aI_2, ↓nI_0, ↓nI_1, ↓lS_0, ↓lS_s, ↓aI_int, ↓aI_str, ↓aI_row, ↓aI_b2, ↓aI_i1, ↓aI_i2, ↓aI_i3, ↓aI_i4, ↓aI_i5, ↓aI_i6, ↓oZ_abyz, ↓oZ_az, ↓cZ_lenLm, ↓cZ_lenTm, ↓cZ_lenP, ↓oZ_ixP, ↓sD_P, ↓cZ_lstP, ↓cZ_abs, ↓cZ_int, ↓cZ_intB, ↓cZ_tup, ↓cZ_lstL, ↓cZ_lstT, ↓cZ_all, ↓cZ_any, ↓cZ_max2, ↓cZ_min2, ↓cZ_sum, ↓cZ_sorted, ↓xE_int, ↓xE_bl, ↓xE_str, ↓xE_non, ↓xE_var, ↓xE_op, ↓xE_neg, ↓xE_nt, ↓xE_an, ↓xE_or, ↓xE_ch, ↓xE_isN, ↓xE_notN, ↓xE_ife, ↓xE_tup, ↓xE_lst, ↓xE_sl, ↓sl1_T, ↓sl1_L, ↓xE_cb, ↓xE_isa, ↓xE_call, ↓xE_callS, ↓xE_lc, ↓sN_0, ↓sN_s, ↓xE_lrg, ↓xE_trg, ↓xE_pop, ↓xE_idxL, ↓sT_s, ↓xE_idxT, ↓xE_dget, ↓xE_din, ↓xE_dnin, ↓xE_dset, ↓xA_nil, ↓xA_cons, ↓xT_te, ↓xT_tb, ↓xT_nt, ↓xT_an, ↓xT_or, ↓xT_yes, ↓xT_lend, ↓xP_no, ↓xP_at, ↓xI_rng1, ↓xI_rng2, ↓xI_u, ↓xI_en, ↓xG_nm, ↓xG_tup, ↓xGs_nil, ↓xGs_cons, ↓sV_d, ↓sV_n, ↓sV_w, ↓rV_d, ↓rV_n, ↓rV_w, ↓rV_o, ↓xS_set, ↓xS_asg, ↓xS_seti, ↓xS_app, ↓xS_newD, ↓xS_dput, ↓xS_drop, ↓xS_ret, ↓xS_retN, ↓xS_iff, ↓xS_for, ↓xS_wh, ↓xS_brk, ↓xS_cont, ↓xS_nx, ↓xS_seq, ↓xS_fz, ↓fzK_l, ↓fzK_d, ↓fzK_n, ↓fzK_D, ↓kS_nx, ↓kS_rt, ↓kS_bk, ↓kS_ct, ↓out1_rt, ↓out2_rt, ↓u_b_l_stream_5, ↓fK_s e2]
    simp only [e, show ((10 : Int) ^ (18 : Int).toNat) = 10 ^ 18 from rfl, q, if_true, ch, rgD_len]
  · have e1 := stream2 (s := s) (c := .dat (.int cell)) (r := .dat (.int (cellAbs cell))) (m := e5) (acc := acc) (m0 := cellAbs cell % 2147483647) (kk := e4) ⟨Int.emod_nonneg _ (by omega), Int.emod_lt_of_pos _ (by omega)⟩ (by omega)
    have e2 : forGo (trn [] (.nm 4) b_l_stream_3) (rgD 0 (10 : Int).toNat) [s, .own (.lst (acc.map .int)), .dat (.int cell), .dat (.int (if cell < 0 then -cell else cell)), e4, .dat (.int ((if cell < 0 then -cell else cell) % 2147483647))] = _ := e1
    have ch : chunk cell = (List.range 10).map (mxo (cellAbs cell % 2147483647)) := by unfold chunk; rw [if_neg q]
    refine ⟨.dat (.int (cellAbs cell)), .dat (.int 9), .dat (.int (mxm (cellAbs cell % 2147483647) 10)), ?_⟩
    simp (config := { implicitDefEqProofs := false }) (disch := walk_at "side") only [↓reduceIte, decide_eq_true_eq, decide_true, decide_false, Bool.not_true, Bool.not_false, Bool.false_eq_true, Int.reduceEq, Int.reduceLT, Int.reduceLE, Int.reduceNeg, Int.reduceToNat, ↓okI, ↓okI2, ↓aV_d, ↓aV_o, ↓aV_n, ↓aV_w, ↓dV_d, ↓dV_n, ↓dV_w, ↓gE_0, ↓gE_s, ↓eL_l, ↓eD_l, ↓eV_d, ↓eV_l, ↓nA_d, ↓nA_o, ↓iD_i, ↓bD_b, ↓kD_i, ↓kD_s, ↓zD_d, ↓vZ_d, ↓vZ_n, ↓sR_0, ↓sR_s, ↓sK_n, ↓sK_0, ↓lD_l, ↓sD_l, ↓sD_t, ↓tD_t, ↓dA_nil, ↓dA_d, ↓dN_nil, ↓dN_c, ↓oZ_addI, ↓oZ_addS, ↓oZ_addT, ↓oZ_addL, ↓oZ_sub, ↓oZ_mul, ↓oZ_mulT, ↓oZ_fdiv, ↓oZ_mod, ↓oZ_pow, ↓oZ_eqI, ↓oZ_eqS, ↓oZ_neS, ↓oZ_neI, ↓oZ_lt, ↓oZ_le, ↓oZ_gt, ↓oZ_ge, ↓oZ_ixL, ↓oZ_ixT, ↓aI_0, ↓aI_1, ↓aI_2, ↓nI_0, ↓nI_1, ↓lS_0, ↓lS_s, ↓aI_int, ↓aI_str, ↓aI_row, ↓aI_b2, ↓aI_i1, ↓aI_i2, ↓aI_i3, ↓aI_i4, ↓aI_i5, ↓aI_i6, ↓oZ_abyz, ↓oZ_az, ↓cZ_lenLm, ↓cZ_lenTm, ↓cZ_lenP, ↓oZ_ixP, ↓sD_P, ↓cZ_lstP, ↓cZ_abs, ↓cZ_int, ↓cZ_intB, ↓cZ_tup, ↓cZ_lstL, ↓cZ_lstT, ↓cZ_all, ↓cZ_any, ↓cZ_max2, ↓cZ_min2, ↓cZ_sum, ↓cZ_sorted, ↓xE_int, ↓xE_bl, ↓xE_str, ↓xE_non, ↓xE_var, ↓xE_op, ↓xE_neg, ↓xE_nt, ↓xE_an, ↓xE_or, ↓xE_ch, ↓xE_isN, ↓xE_notN, ↓xE_ife, ↓xE_tup, ↓xE_lst, ↓xE_sl, ↓sl1_T, ↓sl1_L, ↓xE_cb, ↓xE_isa, ↓xE_call, ↓xE_callS, ↓xE_lc, ↓sN_0, ↓sN_s, ↓xE_lrg, ↓xE_trg, ↓xE_pop, ↓xE_idxL, ↓sT_s, ↓xE_idxT, ↓xE_dget, ↓xE_din, ↓xE_dnin, ↓xE_dset, ↓xA_nil, ↓xA_cons, ↓xT_te, ↓xT_tb, ↓xT_nt, ↓xT_an, ↓xT_or, ↓xT_yes, ↓xT_lend, ↓xP_no, ↓xP_at, ↓xI_rng1, ↓xI_rng2, ↓xI_u, ↓xI_en, ↓xG_nm, ↓xG_tup, ↓xGs_nil, ↓xGs_cons, ↓sV_d, ↓sV_n, ↓sV_w, ↓rV_d, ↓rV_n, ↓rV_w, ↓rV_o, ↓xS_set, ↓xS_asg, ↓xS_seti, ↓xS_app, ↓xS_newD, ↓xS_dput, ↓xS_drop, ↓xS_ret, ↓xS_retN, ↓xS_iff, ↓xS_for, ↓xS_wh, ↓xS_brk, ↓xS_cont, ↓xS_nx, ↓xS_seq, ↓xS_fz, ↓fzK_l, ↓fzK_d, ↓fzK_n, ↓fzK_D, ↓kS_nx, ↓kS_rt, ↓kS_bk, ↓kS_ct, ↓out1_rt, ↓out2_rt, ↓u_b_l_stream_5, ↓fK_s e2]
    simp only [e, show ((10 : Int) ^ (18 : Int).toNat) = 10 ^ 18 from rfl, q, if_false, ch]

theorem for_ex {f : D → Rho → Option Out} (P : Nat → Rho → Prop) : ∀ (l : List D) (i0 : Nat) (ρ : Rho), P i0 ρ → (∀ i ρ1, i < l.length → P (i0 + i) ρ1 → ∃ ρ2, f (nthD l i) ρ1 = some (.nx ρ2) ∧ P (i0 + i + 1) ρ2) → ∃ ρ', forGo f l ρ = some (.nx ρ') ∧ P (i0 + l.length) ρ'
  | [], i0, ρ, h, _ => ⟨ρ, rfl, h⟩
  | x :: xs, i0, ρ, h, st => by
    obtain ⟨ρ2, h1, h2⟩ := st 0 ρ (by simp) h
    obtain ⟨ρ', h3, h4⟩ := for_ex P xs (i0 + 1) ρ2 h2 fun i ρ1 hi hp => by
      have := st (i + 1) ρ1 (by simpa using hi) (by rw [show i0 + (i + 1) = i0 + 1 + i by omega]; exact hp)
      rw [show i0 + (i + 1) + 1 = i0 + 1 + i + 1 by omega] at this
      exact this
    refine ⟨ρ', ?_, by rw [List.length_cons, show i0 + (xs.length + 1) = i0 + 1 + xs.length by omega]; exact h4⟩
    show (f x ρ).bind _ = _
    rw [show f x ρ = _ from h1]
    exact h3
theorem for_ex0 {f : D → Rho → Option Out} (P : Nat → Rho → Prop) {l : List D} {ρ : Rho} (h : P 0 ρ) (st : ∀ i ρ1, i < l.length → P i ρ1 → ∃ ρ2, f (nthD l i) ρ1 = some (.nx ρ2) ∧ P (i + 1) ρ2) : ∃ ρ', forGo f l ρ = some (.nx ρ') ∧ P l.length ρ' := by
  have := for_ex P l 0 ρ h fun i ρ1 hi hp => by
    rw [Nat.zero_add] at hp ⊢
    exact st i ρ1 hi hp
  rw [Nat.zero_add] at this
  exact this
theorem stream_eq {ns : List Int} (h : ns.length ≤ 63) : f_l_stream [.list (ns.map .int)] = some (.new (.lst ((streamOf ns).map .int))) := by
  have cut : cutD (ns.map PyData.int) none (some 63) = ns.map .int := cut_to (n := 63) (by simpa using h)
  obtain ⟨ρ', h1, f3, f4, f5, f2, rfl⟩ := for_ex0 (f := trn [] (.nm 2) b_l_stream_5) (fun i ρ => ∃ e2 e3 e4 e5, ρ = [.dat (.list (ns.map .int)), .own (.lst ((flat (ns.take i)).map .int)), e2, e3, e4, e5]) (l := ns.map .int) (ρ := [.dat (.list (ns.map .int)), .own (.lst []), .no, .no, .no, .no]) ⟨.no, .no, .no, .no, by simp [flat]⟩ (fun i ρ1 hi ⟨e2, e3, e4, e5, e⟩ => by
    rw [List.length_map] at hi
    subst e
    rw [nthD_ints hi]
    have hl := flat_len (ns.take i)
    rw [List.length_take] at hl
    obtain ⟨g3, g4, g5, e⟩ := stream3 (s := .dat (.list (ns.map .int))) (acc := flat (ns.take i)) (cell := ns.getD i 0) (e2 := e2) (e3 := e3) (e4 := e4) (e5 := e5) (by omega)
    exact ⟨_, e, .dat (.int (ns.getD i 0)), g3, g4, g5, by rw [flat_take hi]⟩)
  rw [List.length_map, List.take_length] at h1
  rw [x_l_stream]
  by_cases q : flat ns = []
  · rw [q] at h1
    simp (config := { implicitDefEqProofs := false }) (disch := walk_at "side") only [↓reduceIte, decide_eq_true_eq, decide_true, decide_false, Bool.not_true, Bool.not_false, Bool.false_eq_true, Int.reduceEq, Int.reduceLT, Int.reduceLE, Int.reduceNeg, Int.reduceToNat, ↓okI, ↓okI2, ↓aV_d, ↓aV_o, ↓aV_n, ↓aV_w, ↓dV_d, ↓dV_n, ↓dV_w, ↓gE_0, ↓gE_s, ↓eL_l, ↓eD_l, ↓eV_d, ↓eV_l, ↓nA_d, ↓nA_o, ↓iD_i, ↓bD_b, ↓kD_i, ↓kD_s, ↓zD_d, ↓vZ_d, ↓vZ_n, ↓sR_0, ↓sR_s, ↓sK_n, ↓sK_0, ↓lD_l, ↓sD_l, ↓sD_t, ↓tD_t, ↓dA_nil, ↓dA_d, ↓dN_nil, ↓dN_c, ↓oZ_addI, ↓oZ_addS, ↓oZ_addT, ↓oZ_addL, ↓oZ_sub, ↓oZ_mul, ↓oZ_mulT, ↓oZ_fdiv, ↓oZ_mod, ↓oZ_pow, ↓oZ_eqI, ↓oZ_eqS, ↓oZ_neS, ↓oZ_neI, ↓oZ_lt, ↓oZ_le, ↓oZ_gt, ↓oZ_ge, ↓oZ_ixL, ↓oZ_ixT, ↓aI_0, ↓aI_1, ↓aI_2, ↓nI_0, ↓nI_1, ↓lS_0, ↓lS_s, ↓aI_int, ↓aI_str, ↓aI_row, ↓aI_b2, ↓aI_i1, ↓aI_i2, ↓aI_i3, ↓aI_i4, ↓aI_i5, ↓aI_i6, ↓oZ_abyz, ↓oZ_az, ↓cZ_lenLm, ↓cZ_lenTm, ↓cZ_lenP, ↓oZ_ixP, ↓sD_P, ↓cZ_lstP, ↓cZ_abs, ↓cZ_int, ↓cZ_intB, ↓cZ_tup, ↓cZ_lstL, ↓cZ_lstT, ↓cZ_all, ↓cZ_any, ↓cZ_max2, ↓cZ_min2, ↓cZ_sum, ↓cZ_sorted, ↓xE_int, ↓xE_bl, ↓xE_str, ↓xE_non, ↓xE_var, ↓xE_op, ↓xE_neg, ↓xE_nt, ↓xE_an, ↓xE_or, ↓xE_ch, ↓xE_isN, ↓xE_notN, ↓xE_ife, ↓xE_tup, ↓xE_lst, ↓xE_sl, ↓sl1_T, ↓sl1_L, ↓xE_cb, ↓xE_isa, ↓xE_call, ↓xE_callS, ↓xE_lc, ↓sN_0, ↓sN_s, ↓xE_lrg, ↓xE_trg, ↓xE_pop, ↓xE_idxL, ↓sT_s, ↓xE_idxT, ↓xE_dget, ↓xE_din, ↓xE_dnin, ↓xE_dset, ↓xA_nil, ↓xA_cons, ↓xT_te, ↓xT_tb, ↓xT_nt, ↓xT_an, ↓xT_or, ↓xT_yes, ↓xT_lend, ↓xP_no, ↓xP_at, ↓xI_rng1, ↓xI_rng2, ↓xI_u, ↓xI_en, ↓xG_nm, ↓xG_tup, ↓xGs_nil, ↓xGs_cons, ↓sV_d, ↓sV_n, ↓sV_w, ↓rV_d, ↓rV_n, ↓rV_w, ↓rV_o, ↓xS_set, ↓xS_asg, ↓xS_seti, ↓xS_app, ↓xS_newD, ↓xS_dput, ↓xS_drop, ↓xS_ret, ↓xS_retN, ↓xS_iff, ↓xS_for, ↓xS_wh, ↓xS_brk, ↓xS_cont, ↓xS_nx, ↓xS_seq, ↓xS_fz, ↓fzK_l, ↓fzK_d, ↓fzK_n, ↓fzK_D, ↓kS_nx, ↓kS_rt, ↓kS_bk, ↓kS_ct, ↓out1_rt, ↓out2_rt, ↓u_c_l_stream, cut, ↓fK_s h1]
    simp [streamOf, q]
  · have hn : (flat ns).length ≠ 0 := fun z => q (List.length_eq_zero_iff.mp z)
    simp (config := { implicitDefEqProofs := false }) (disch := walk_at "side") only [↓reduceIte, decide_eq_true_eq, decide_true, decide_false, Bool.not_true, Bool.not_false, Bool.false_eq_true, Int.reduceEq, Int.reduceLT, Int.reduceLE, Int.reduceNeg, Int.reduceToNat, ↓okI, ↓okI2, ↓aV_d, ↓aV_o, ↓aV_n, ↓aV_w, ↓dV_d, ↓dV_n, ↓dV_w, ↓gE_0, ↓gE_s, ↓eL_l, ↓eD_l, ↓eV_d, ↓eV_l, ↓nA_d, ↓nA_o, ↓iD_i, ↓bD_b, ↓kD_i, ↓kD_s, ↓zD_d, ↓vZ_d, ↓vZ_n, ↓sR_0, ↓sR_s, ↓sK_n, ↓sK_0, ↓lD_l, ↓sD_l, ↓sD_t, ↓tD_t, ↓dA_nil, ↓dA_d, ↓dN_nil, ↓dN_c, ↓oZ_addI, ↓oZ_addS, ↓oZ_addT, ↓oZ_addL, ↓oZ_sub, ↓oZ_mul, ↓oZ_mulT, ↓oZ_fdiv, ↓oZ_mod, ↓oZ_pow, ↓oZ_eqI, ↓oZ_eqS, ↓oZ_neS, ↓oZ_neI, ↓oZ_lt, ↓oZ_le, ↓oZ_gt, ↓oZ_ge, ↓oZ_ixL, ↓oZ_ixT, ↓aI_0, ↓aI_1, ↓aI_2, ↓nI_0, ↓nI_1, ↓lS_0, ↓lS_s, ↓aI_int, ↓aI_str, ↓aI_row, ↓aI_b2, ↓aI_i1, ↓aI_i2, ↓aI_i3, ↓aI_i4, ↓aI_i5, ↓aI_i6, ↓oZ_abyz, ↓oZ_az, ↓cZ_lenLm, ↓cZ_lenTm, ↓cZ_lenP, ↓oZ_ixP, ↓sD_P, ↓cZ_lstP, ↓cZ_abs, ↓cZ_int, ↓cZ_intB, ↓cZ_tup, ↓cZ_lstL, ↓cZ_lstT, ↓cZ_all, ↓cZ_any, ↓cZ_max2, ↓cZ_min2, ↓cZ_sum, ↓cZ_sorted, ↓xE_int, ↓xE_bl, ↓xE_str, ↓xE_non, ↓xE_var, ↓xE_op, ↓xE_neg, ↓xE_nt, ↓xE_an, ↓xE_or, ↓xE_ch, ↓xE_isN, ↓xE_notN, ↓xE_ife, ↓xE_tup, ↓xE_lst, ↓xE_sl, ↓sl1_T, ↓sl1_L, ↓xE_cb, ↓xE_isa, ↓xE_call, ↓xE_callS, ↓xE_lc, ↓sN_0, ↓sN_s, ↓xE_lrg, ↓xE_trg, ↓xE_pop, ↓xE_idxL, ↓sT_s, ↓xE_idxT, ↓xE_dget, ↓xE_din, ↓xE_dnin, ↓xE_dset, ↓xA_nil, ↓xA_cons, ↓xT_te, ↓xT_tb, ↓xT_nt, ↓xT_an, ↓xT_or, ↓xT_yes, ↓xT_lend, ↓xP_no, ↓xP_at, ↓xI_rng1, ↓xI_rng2, ↓xI_u, ↓xI_en, ↓xG_nm, ↓xG_tup, ↓xGs_nil, ↓xGs_cons, ↓sV_d, ↓sV_n, ↓sV_w, ↓rV_d, ↓rV_n, ↓rV_w, ↓rV_o, ↓xS_set, ↓xS_asg, ↓xS_seti, ↓xS_app, ↓xS_newD, ↓xS_dput, ↓xS_drop, ↓xS_ret, ↓xS_retN, ↓xS_iff, ↓xS_for, ↓xS_wh, ↓xS_brk, ↓xS_cont, ↓xS_nx, ↓xS_seq, ↓xS_fz, ↓fzK_l, ↓fzK_d, ↓fzK_n, ↓fzK_D, ↓kS_nx, ↓kS_rt, ↓kS_bk, ↓kS_ct, ↓out1_rt, ↓out2_rt, ↓u_c_l_stream, cut, ↓fK_s h1]
    simp [streamOf, q]

end CS

namespace CS
open PySem PySem.Spec PyProof.Rows L2 DL EV
def prodD (rows : List (List Int)) : D := .tuple (rows.map tupI)
def tableD (L : List Str) (F : List Int) (rows : List (List Int)) : D := .tuple [.tuple (L.map .str), .tuple (F.map .int), prodD rows]
def timesI (rows : List (List Int)) (a b : Int) : Int := if a = -1 then b else if b = -1 then a else (rows.getD a.toNat []).getD b.toNat 0
def wlen (N : List Int) (k : Int) : Int := [1, 2, 1 + nxt N k 8].getD (nxt N (k + 1) 3).toNat 0
def sign (i : Int) : Str := ⟨#[("abyz" : Str).cps.toList.getD i.toNat 0]⟩
def alpha (i : Nat) : Str := ⟨#[("abcdefghijklmnopqrstuvwxyz" : Str).cps.toList.getD i 0]⟩
def wtext (N : List Int) (k : Int) : Nat → Str
  | 0 => ""
  | n + 1 => wtext N k n ++ sign (nxt N (k + (n : Nat)) 4)
def wordOf (N : List Int) (k : Int) (taken : List Str) : Str := if (taken.any fun z => z == wtext N (k + 2) (wlen N k).toNat) then "c" ++ alpha taken.length else wtext N (k + 2) (wlen N k).toNat
/-- the letters so far, and where the draws stand -/
def lettersOf (N : List Int) (k : Int) : Nat → List Str × Int
  | 0 => ([], k)
  | n + 1 => ((lettersOf N k n).1 ++ [wordOf N (lettersOf N k n).2 (lettersOf N k n).1], (lettersOf N k n).2 + 2 + wlen N (lettersOf N k n).2)
/-- what is taken out of a list, place by place, and what is left: draw n stands at k + s n -/
def popsOf (N : List Int) (k s : Int) : Nat → List Int → List Int × List Int
  | 0, l => ([], l)
  | n + 1, l => ((popsOf N k s n l).1 ++ [(popsOf N k s n l).2.getD (nxt N (k + s * (n : Nat)) (popsOf N k s n l).2.length).toNat 0], (popsOf N k s n l).2.eraseIdx (nxt N (k + s * (n : Nat)) (popsOf N k s n l).2.length).toNat)
def upTo (n : Nat) : List Int := (List.range n).map fun i => (0 : Int) + (i : Nat)
def drawsOf (N : List Int) (k many : Int) (n : Nat) : List Int := (List.range n).map fun i => nxt N (k + (i : Nat)) many
def map3 (N : List Int) (k : Int) (m : Nat) : List Int := (List.range m).map fun i => if 0 < nxt N (k + 2 * (i : Nat) + 1) 3 then (popsOf N k 2 m (upTo m)).1.getD i 0 else (m : Nat)
def mapOf (N : List Int) (k kind : Int) (rooms : Nat) : List Int × Int :=
  if kind = 0 then (drawsOf N k rooms rooms, k + rooms)
  else if kind = 1 then (sortI (drawsOf N k rooms rooms), k + rooms)
  else if kind = 2 then (if nxt N k 3 = 0 then (List.replicate rooms (nxt N (k + 1) rooms), k + 2) else ((popsOf N (k + 1) 1 rooms (upTo rooms)).1, k + 1 + rooms))
  else if kind = 3 then (map3 N k (rooms - 1) ++ [((rooms - 1 : Nat) : Int)], k + 2 * ((rooms - 1 : Nat) : Int))
  else ((List.range rooms).map fun i => ((i : Nat) : Int) + nxt N (k + (i : Nat)) ((rooms : Int) - (i : Nat)), k + rooms)
def roomsOf (N : List Int) (k : Int) : Nat := ([1 + nxt N (k + 1) 3, 2 + nxt N (k + 1 + 1) 3, 2 + nxt N (k + 1 + 1 + 1) 3, 2 + nxt N (k + 1 + 1 + 1 + 1) 3, 2 + nxt N (k + 1 + 1 + 1 + 1 + 1) 4].getD (nxt N k 5).toNat 0).toNat
def mapsFrom (N : List Int) (kind : Int) (rooms : Nat) (k : Int) : Nat → List (List Int) × Int
  | 0 => ([], k)
  | n + 1 => ((mapsFrom N kind rooms k n).1 ++ [(mapOf N (mapsFrom N kind rooms k n).2 kind rooms).1], (mapOf N (mapsFrom N kind rooms k n).2 kind rooms).2)
def mapsOf (N : List Int) (k most : Int) : List (List Int) × Int := mapsFrom N (nxt N k 5) (roomsOf N k) (k + 7) (1 + nxt N (k + 6) most).toNat
def thenI (one other : List Int) : List Int := one.map fun i => other.getD i.toNat 0
def addI (found : List (List Int)) (x : List Int) : List (List Int) := if x ∈ found then found else found ++ [x]
def stepI (most : Nat) (found : List (List Int)) (at1 : Nat) (other : List Int) : List (List Int) := if at1 < found.length ∧ found.length ≤ most ∧ ¬ thenI (found.getD at1 []) other ∈ found then found ++ [thenI (found.getD at1 []) other] else found
def elementsOf (maps : List (List Int)) (most : Nat) : List (List Int) := (List.range (most + 1)).foldl (fun found at1 => maps.foldl (fun found other => stepI most found at1 other) found) (maps.foldl addI [])
def okMap (n : Nat) (x : List Int) : Prop := x.length = n ∧ ∀ i ∈ x, 0 ≤ i ∧ i < (n : Nat)
def valueI (L : List Str) (F : List Int) (rows : List (List Int)) (log : List Str) : Int := log.foldl (fun v x => timesI rows v (F.getD (fixS x L) 0)) (-1)
/-- a table of m elements -/
def okTab (L : List Str) (F : List Int) (rows : List (List Int)) : Prop := F.length = L.length ∧ (∀ e ∈ F, 0 ≤ e ∧ e < rows.length) ∧ (∀ r ∈ rows, r.length = rows.length ∧ ∀ e ∈ r, 0 ≤ e ∧ e < rows.length)
def firstsOf (maps : List (List Int)) : List Int := maps.map fun m => ((idxI m (elementsOf maps 40) : Nat) : Int)
def rowsOf (maps : List (List Int)) : List (List Int) := (elementsOf maps 40).map fun a => (elementsOf maps 40).map fun b => ((idxI (thenI a b) (elementsOf maps 40) : Nat) : Int)
theorem wlen_bnd (N : List Int) (k : Int) : 1 ≤ wlen N k ∧ wlen N k ≤ 8 := by
  have a0 := nxt_lo (N := N) (k := k) (many := 8) (by decide)
  have a1 := nxt_hi (N := N) (k := k) (many := 8) (by decide)
  have b0 := nxt_lo (N := N) (k := k + 1) (many := 3) (by decide)
  have b1 := nxt_hi (N := N) (k := k + 1) (many := 3) (by decide)
  unfold wlen
  generalize nxt N (k + 1) 3 = v at b0 b1
  have : v = 0 ∨ v = 1 ∨ v = 2 := by omega
  rcases this with rfl | rfl | rfl
  · show (1 : Int) ≤ 1 ∧ (1 : Int) ≤ 8
    omega
  · show (1 : Int) ≤ 2 ∧ (2 : Int) ≤ 8
    omega
  · show 1 ≤ 1 + nxt N k 8 ∧ 1 + nxt N k 8 ≤ 8
    omega
theorem len_app (a b : Str) : (a ++ b).length = a.length + b.length := by
  show (a.cps ++ b.cps).size = a.cps.size + b.cps.size
  exact Array.size_append
theorem wtext_len (N : List Int) (k : Int) : ∀ n, (wtext N k n).length = n
  | 0 => rfl
  | n + 1 => by
    show (wtext N k n ++ sign _).length = _
    rw [len_app, wtext_len N k n]
    rfl
theorem letters_len (N : List Int) (k : Int) : ∀ n, (lettersOf N k n).1.length = n
  | 0 => rfl
  | n + 1 => by
    show ((lettersOf N k n).1 ++ [_]).length = _
    rw [List.length_append, letters_len N k n]
    rfl
theorem letters_bnd (N : List Int) (k : Int) : ∀ n : Nat, k ≤ (lettersOf N k n).2 ∧ (lettersOf N k n).2 ≤ k + 10 * (n : Int)
  | 0 => ⟨Int.le_refl _, by show k ≤ _; omega⟩
  | n + 1 => by
    obtain ⟨h1, h2⟩ := letters_bnd N k n
    obtain ⟨w0, w1⟩ := wlen_bnd N (lettersOf N k n).2
    show k ≤ (lettersOf N k n).2 + 2 + wlen N (lettersOf N k n).2 ∧ (lettersOf N k n).2 + 2 + wlen N (lettersOf N k n).2 ≤ k + 10 * ((n + 1 : Nat) : Int)
    omega
theorem pops_len (N : List Int) (k s : Int) (l : List Int) : ∀ n, n ≤ l.length → (popsOf N k s n l).2.length = l.length - n ∧ (popsOf N k s n l).1.length = n
  | 0, _ => ⟨rfl, rfl⟩
  | n + 1, h => by
    obtain ⟨h1, h2⟩ := pops_len N k s l n (by omega)
    have hp : (0 : Int) < ((popsOf N k s n l).2.length : Int) := by omega
    have i0 := nxt_lo (N := N) (k := k + s * (n : Nat)) hp
    have i1 := nxt_hi (N := N) (k := k + s * (n : Nat)) hp
    constructor
    · show ((popsOf N k s n l).2.eraseIdx _).length = _
      rw [List.length_eraseIdx, if_pos (by omega)]
      omega
    · show ((popsOf N k s n l).1 ++ [_]).length = _
      rw [List.length_append, h2]
      rfl
theorem upTo_len (n : Nat) : (upTo n).length = n := by unfold upTo; rw [List.length_map, List.length_range]
theorem pops_at (N : List Int) (k s : Int) (l : List Int) {i : Nat} : ∀ n, i < n → n ≤ l.length → (popsOf N k s n l).1.getD i 0 = (popsOf N k s i l).2.getD (nxt N (k + s * (i : Nat)) (popsOf N k s i l).2.length).toNat 0
  | 0, h, _ => by omega
  | n + 1, h, hl => by
    obtain ⟨_, h2⟩ := pops_len N k s l n (by omega)
    show ((popsOf N k s n l).1 ++ [_]).getD i 0 = _
    by_cases e : i = n
    · subst e
      rw [List.getD_eq_getElem?_getD, List.getElem?_append_right (by omega), h2]
      simp
    · rw [List.getD_eq_getElem?_getD, List.getElem?_append_left (by omega), ← List.getD_eq_getElem?_getD]
      exact pops_at N k s l n (by omega) (by omega)
theorem rep_one (x : Int) (n : Nat) : (List.replicate ((n : Nat) : Int).toNat [PyData.int x]).flatten = (List.replicate n x).map .int := by
  rw [show ((n : Nat) : Int).toNat = n by omega]
  induction n with
  | zero => rfl
  | succ n ih => rw [List.replicate_succ, List.flatten_cons, ih]; rfl
theorem map_erase (l : List Int) (i : Nat) : (l.eraseIdx i).map PyData.int = (l.map .int).eraseIdx i := by
  induction l generalizing i with
  | nil => rfl
  | cons a l ih => cases i with
    | zero => rfl
    | succ i => show _ :: List.map _ _ = _; rw [ih]; rfl
theorem get_ints {l : List Int} {i : Nat} (h : i < l.length) : (l.map PyData.int)[i]? = some (.int (l.getD i 0)) := by
  rw [List.getElem?_map, List.getD_eq_getElem?_getD, List.getElem?_eq_getElem h]
  rfl
theorem rnge {n : Nat} : ((n : Nat) : Int).toNat = n := by omega
theorem mapOf_bnd (N : List Int) (k kind : Int) {rooms : Nat} (h : rooms ≤ 5) : k ≤ (mapOf N k kind rooms).2 ∧ (mapOf N k kind rooms).2 ≤ k + 12 := by
  unfold mapOf
  split
  · show k ≤ k + _ ∧ k + _ ≤ _; omega
  · split
    · show k ≤ k + _ ∧ k + _ ≤ _; omega
    · split
      · split
        · show k ≤ k + 2 ∧ k + 2 ≤ _; omega
        · show k ≤ k + 1 + _ ∧ k + 1 + _ ≤ _; omega
      · split
        · show k ≤ k + 2 * _ ∧ k + 2 * _ ≤ _; omega
        · show k ≤ k + _ ∧ k + _ ≤ _; omega
theorem mapsFrom_bnd (N : List Int) (kind : Int) {rooms : Nat} (k : Int) (h : rooms ≤ 5) : ∀ n : Nat, k ≤ (mapsFrom N kind rooms k n).2 ∧ (mapsFrom N kind rooms k n).2 ≤ k + 12 * (n : Int)
  | 0 => ⟨Int.le_refl _, by show k ≤ _; omega⟩
  | n + 1 => by
    obtain ⟨h1, h2⟩ := mapsFrom_bnd N kind k h n
    obtain ⟨b1, b2⟩ := mapOf_bnd N (mapsFrom N kind rooms k n).2 kind h
    show k ≤ (mapOf N (mapsFrom N kind rooms k n).2 kind rooms).2 ∧ (mapOf N (mapsFrom N kind rooms k n).2 kind rooms).2 ≤ _
    omega
theorem mapsFrom_list (N : List Int) (kind : Int) (rooms : Nat) (k : Int) : ∀ n : Nat, (List.range n).map (fun i => tupI (mapOf N (mapsFrom N kind rooms k i).2 kind rooms).1) = (mapsFrom N kind rooms k n).1.map tupI
  | 0 => rfl
  | n + 1 => by
    rw [List.range_succ, List.map_append, mapsFrom_list N kind rooms k n]
    show _ = List.map tupI (_ ++ [_])
    rw [List.map_append]
    rfl
theorem rooms_ix (N : List Int) (k : Int) : 1 ≤ roomsOf N k ∧ roomsOf N k ≤ 5 ∧ (nxt N k 5 = 2 → 2 ≤ roomsOf N k) ∧
    atI ([PyData.int (1 + nxt N (k + 1) 3), .int (2 + nxt N (k + 1 + 1) 3), .int (2 + nxt N (k + 1 + 1 + 1) 3), .int (2 + nxt N (k + 1 + 1 + 1 + 1) 3), .int (2 + nxt N (k + 1 + 1 + 1 + 1 + 1) 4)] : List D) (nxt N k 5) = some (.int (roomsOf N k : Nat)) := by
  have v0 := nxt_lo (N := N) (k := k) (many := 5) (by decide)
  have v1 := nxt_hi (N := N) (k := k) (many := 5) (by decide)
  have a0 := nxt_lo (N := N) (k := k + 1) (many := 3) (by decide)
  have a1 := nxt_hi (N := N) (k := k + 1) (many := 3) (by decide)
  have b0 := nxt_lo (N := N) (k := k + 1 + 1) (many := 3) (by decide)
  have b1 := nxt_hi (N := N) (k := k + 1 + 1) (many := 3) (by decide)
  have c0 := nxt_lo (N := N) (k := k + 1 + 1 + 1) (many := 3) (by decide)
  have c1 := nxt_hi (N := N) (k := k + 1 + 1 + 1) (many := 3) (by decide)
  have d0 := nxt_lo (N := N) (k := k + 1 + 1 + 1 + 1) (many := 3) (by decide)
  have d1 := nxt_hi (N := N) (k := k + 1 + 1 + 1 + 1) (many := 3) (by decide)
  have e0 := nxt_lo (N := N) (k := k + 1 + 1 + 1 + 1 + 1) (many := 4) (by decide)
  have e1 := nxt_hi (N := N) (k := k + 1 + 1 + 1 + 1 + 1) (many := 4) (by decide)
  unfold roomsOf
  generalize nxt N k 5 = v at v0 v1
  generalize nxt N (k + 1) 3 = a at a0 a1
  generalize nxt N (k + 1 + 1) 3 = b at b0 b1
  generalize nxt N (k + 1 + 1 + 1) 3 = c at c0 c1
  generalize nxt N (k + 1 + 1 + 1 + 1) 3 = d at d0 d1
  generalize nxt N (k + 1 + 1 + 1 + 1 + 1) 4 = e at e0 e1
  have cast : ∀ z : Int, 0 ≤ z → ((z.toNat : Nat) : Int) = z := fun z h => by omega
  have : v = 0 ∨ v = 1 ∨ v = 2 ∨ v = 3 ∨ v = 4 := by omega
  rcases this with rfl | rfl | rfl | rfl | rfl
  · show 1 ≤ (1 + a).toNat ∧ (1 + a).toNat ≤ 5 ∧ _ ∧ some (PyData.int (1 + a)) = some (.int ((1 + a).toNat : Nat))
    exact ⟨by omega, by omega, fun z => by omega, by rw [cast _ (by omega)]⟩
  · show 1 ≤ (2 + b).toNat ∧ (2 + b).toNat ≤ 5 ∧ _ ∧ some (PyData.int (2 + b)) = some (.int ((2 + b).toNat : Nat))
    exact ⟨by omega, by omega, fun z => by omega, by rw [cast _ (by omega)]⟩
  · show 1 ≤ (2 + c).toNat ∧ (2 + c).toNat ≤ 5 ∧ (_ → 2 ≤ (2 + c).toNat) ∧ some (PyData.int (2 + c)) = some (.int ((2 + c).toNat : Nat))
    exact ⟨by omega, by omega, fun z => by omega, by rw [cast _ (by omega)]⟩
  · show 1 ≤ (2 + d).toNat ∧ (2 + d).toNat ≤ 5 ∧ _ ∧ some (PyData.int (2 + d)) = some (.int ((2 + d).toNat : Nat))
    exact ⟨by omega, by omega, fun z => by omega, by rw [cast _ (by omega)]⟩
  · show 1 ≤ (2 + e).toNat ∧ (2 + e).toNat ≤ 5 ∧ _ ∧ some (PyData.int (2 + e)) = some (.int ((2 + e).toNat : Nat))
    exact ⟨by omega, by omega, fun z => by omega, by rw [cast _ (by omega)]⟩
theorem then_ok {n : Nat} {a b : List Int} (ha : okMap n a) (hb : okMap n b) : okMap n (thenI a b) := by
  refine ⟨by unfold thenI; rw [List.length_map]; exact ha.1, fun i m => ?_⟩
  obtain ⟨j, mj, rfl⟩ := List.mem_map.mp m
  obtain ⟨j0, j1⟩ := ha.2 j mj
  have : j.toNat < b.length := by rw [hb.1]; omega
  apply hb.2
  rw [List.getD_eq_getElem?_getD, List.getElem?_eq_getElem this]
  exact List.getElem_mem this
theorem step_ok {n most at1 : Nat} {found : List (List Int)} {other : List Int} (hf : ∀ x ∈ found, okMap n x) (ho : okMap n other) : ∀ x ∈ stepI most found at1 other, okMap n x := by
  unfold stepI
  split
  · rename_i h
    intro x m
    rcases List.mem_append.mp m with m | m
    · exact hf x m
    · rw [List.mem_singleton.mp m]
      refine then_ok (hf _ ?_) ho
      rw [List.getD_eq_getElem?_getD, List.getElem?_eq_getElem h.1]
      exact List.getElem_mem h.1
  · exact hf
theorem step_len {most at1 : Nat} {found : List (List Int)} {other : List Int} : found.length ≤ (stepI most found at1 other).length ∧ (stepI most found at1 other).length ≤ max found.length (most + 1) := by
  unfold stepI
  split
  · rename_i h
    rw [List.length_append, List.length_singleton]
    omega
  · omega
theorem add_ok {n : Nat} {found : List (List Int)} {x : List Int} (hf : ∀ x ∈ found, okMap n x) (ho : okMap n x) : ∀ y ∈ addI found x, okMap n y := by
  unfold addI
  split
  · exact hf
  · intro y m
    rcases List.mem_append.mp m with m | m
    · exact hf y m
    · rw [List.mem_singleton.mp m]; exact ho
theorem add_len {found : List (List Int)} {x : List Int} : (addI found x).length ≤ found.length + 1 := by
  unfold addI
  split
  · omega
  · rw [List.length_append]; exact Nat.le_refl _
theorem fold_take {α : Type} (f : α → List Int → α) (a : α) (l : List (List Int)) {i : Nat} (h : i < l.length) : (l.take (i + 1)).foldl f a = f ((l.take i).foldl f a) (l.getD i []) := by
  rw [List.take_add_one, List.getElem?_eq_getElem h, List.foldl_append, List.getD_eq_getElem?_getD, List.getElem?_eq_getElem h]
  rfl
theorem foldl_inv {α β : Type} {P : α → Prop} {f : α → β → α} : ∀ (l : List β) (a : α), (∀ x ∈ l, ∀ a, P a → P (f a x)) → P a → P (l.foldl f a)
  | [], a, _, h => h
  | x :: l, a, hf, h => foldl_inv l (f a x) (fun y m => hf y (List.mem_cons_of_mem _ m)) (hf x List.mem_cons_self a h)
theorem add_no {F : List (List Int)} {x : List Int} (h : ¬ x ∈ F) : addI F x = F ++ [x] := by unfold addI; rw [if_neg h]
theorem add_yes {F : List (List Int)} {x : List Int} (h : x ∈ F) : addI F x = F := by unfold addI; rw [if_pos h]
theorem times_ok {L : List Str} {F : List Int} {rows : List (List Int)} (T : okTab L F rows) {a b : Int} (a0 : -1 ≤ a) (a1 : a < rows.length) (b0 : 0 ≤ b) (b1 : b < rows.length) : 0 ≤ timesI rows a b ∧ timesI rows a b < rows.length ∧ (0 ≤ a → 0 ≤ b → b < (rows.getD a.toNat []).length) := by
  have hr : 0 ≤ a → rows.getD a.toNat [] ∈ rows := fun h => by
    have : a.toNat < rows.length := by omega
    rw [List.getD_eq_getElem?_getD, List.getElem?_eq_getElem this]
    exact List.getElem_mem this
  refine ⟨?_, ?_, fun h _ => by rw [(T.2.2 _ (hr h)).1]; omega⟩
  all_goals
    unfold timesI
    split
    · omega
    · split
      · omega
      · have h0 : 0 ≤ a := by omega
        obtain ⟨l, e⟩ := T.2.2 _ (hr h0)
        have hb : b.toNat < (rows.getD a.toNat []).length := by omega
        have m : (rows.getD a.toNat []).getD b.toNat 0 ∈ rows.getD a.toNat [] := by
          generalize rows.getD a.toNat [] = row at hb
          rw [List.getD_eq_getElem?_getD, List.getElem?_eq_getElem hb]
          exact List.getElem_mem hb
        first | exact (e _ m).1 | exact (e _ m).2
theorem foldS_take {α : Type} (f : α → Str → α) (a : α) (l : List Str) {i : Nat} (h : i < l.length) : (l.take (i + 1)).foldl f a = f ((l.take i).foldl f a) (l.getD i "") := by
  rw [List.take_add_one, List.getElem?_eq_getElem h, List.foldl_append, List.getD_eq_getElem?_getD, List.getElem?_eq_getElem h]
  rfl
theorem nthS {l : List Str} {i : Nat} (h : i < l.length) : nthD (l.map PyData.str) i = .str (l.getD i "") := by
  have h' : i < (l.map PyData.str).length := by rw [List.length_map]; exact h
  have := nthD_at h'
  rw [List.getElem?_map, List.getElem?_eq_getElem h] at this
  have := Option.some.inj this
  rw [← this, List.getD_eq_getElem?_getD, List.getElem?_eq_getElem h]
  rfl
theorem step_sub {most at1 : Nat} {found : List (List Int)} {other : List Int} : ∃ l, stepI most found at1 other = found ++ l := by
  unfold stepI
  split
  · exact ⟨_, rfl⟩
  · exact ⟨[], (List.append_nil _).symm⟩
theorem fold_sub {β : Type} {f : List (List Int) → β → List (List Int)} (hf : ∀ F x, ∃ l, f F x = F ++ l) : ∀ (l : List β) (F : List (List Int)), ∃ m, l.foldl f F = F ++ m
  | [], F => ⟨[], (List.append_nil _).symm⟩
  | x :: l, F => by
    obtain ⟨a, e1⟩ := hf F x
    obtain ⟨b, e2⟩ := fold_sub hf l (f F x)
    exact ⟨a ++ b, by show l.foldl f (f F x) = _; rw [e2, e1, List.append_assoc]⟩
theorem map_rangeD {α β : Type} (xs : List α) (d : α) (f : α → β) : (List.range xs.length).map (fun i => f (xs.getD i d)) = xs.map f := by
  apply List.ext_getElem
  · simp
  · intro i h1 h2
    have h3 : i < xs.length := by simpa using h2
    simp [List.getD_eq_getElem?_getD, h3]
open DL
def stage (maps : List (List Int)) (most i : Nat) : List (List Int) := (List.range i).foldl (fun found at1 => maps.foldl (fun found other => stepI most found at1 other) found) (maps.foldl addI [])
theorem elements_eq (maps : List (List Int)) (most : Nat) : elementsOf maps most = stage maps most (most + 1) := rfl
theorem stage_succ (maps : List (List Int)) (most i : Nat) : stage maps most (i + 1) = maps.foldl (fun found other => stepI most found i other) (stage maps most i) := by
  unfold stage
  rw [List.range_succ, List.foldl_append]
  rfl
theorem inner_sub (maps : List (List Int)) (most i : Nat) (F : List (List Int)) : ∃ m, maps.foldl (fun found other => stepI most found i other) F = F ++ m := fold_sub (fun F x => step_sub) maps F
theorem stage_sub (maps : List (List Int)) (most i : Nat) : ∀ k, ∃ l, stage maps most (i + k) = stage maps most i ++ l
  | 0 => ⟨[], (List.append_nil _).symm⟩
  | k + 1 => by
    obtain ⟨l, e⟩ := stage_sub maps most i k
    obtain ⟨m, e2⟩ := inner_sub maps most (i + k) (stage maps most (i + k))
    refine ⟨l ++ m, ?_⟩
    show stage maps most (i + k + 1) = _
    rw [stage_succ, e2, e, List.append_assoc]
theorem inner_stuck {most i : Nat} {F : List (List Int)} (h : F.length ≤ i) : ∀ maps : List (List Int), maps.foldl (fun found other => stepI most found i other) F = F
  | [] => rfl
  | x :: l => by
    show l.foldl _ (stepI most F i x) = F
    have : stepI most F i x = F := by unfold stepI; rw [if_neg (fun z => by omega)]
    rw [this]
    exact inner_stuck h l
theorem stage_stuck {maps : List (List Int)} {most i : Nat} (h : (stage maps most i).length ≤ i) : ∀ k, stage maps most (i + k) = stage maps most i
  | 0 => rfl
  | k + 1 => by
    have e := stage_stuck h k
    show stage maps most (i + k + 1) = _
    rw [stage_succ, e, inner_stuck (by omega)]
theorem getD_pre {F l : List (List Int)} {p : Nat} (h : p < F.length) : (F ++ l).getD p [] = F.getD p [] := by
  rw [List.getD_eq_getElem?_getD, List.getD_eq_getElem?_getD, List.getElem?_append_left h]
/-- one stage closes its place -/
theorem inner_closes {most i : Nat} : ∀ (maps : List (List Int)) (F : List (List Int)), i < F.length → (maps.foldl (fun found other => stepI most found i other) F).length ≤ most → ∀ b ∈ maps, thenI (F.getD i []) b ∈ maps.foldl (fun found other => stepI most found i other) F
  | [], _, _, _, b, m => by cases m
  | x :: l, F, h, hl, b, m => by
    have hl' : (l.foldl (fun found other => stepI most found i other) (stepI most F i x)).length ≤ most := hl
    obtain ⟨a, ea⟩ := step_sub (most := most) (at1 := i) (found := F) (other := x)
    obtain ⟨c, ec⟩ := inner_sub l most i (stepI most F i x)
    have fl : F.length ≤ most := by
      rw [ec, ea, List.length_append, List.length_append] at hl'
      omega
    show thenI (F.getD i []) b ∈ l.foldl (fun found other => stepI most found i other) (stepI most F i x)
    rcases List.mem_cons.mp m with rfl | m
    · rw [ec]
      refine List.mem_append_left _ ?_
      by_cases z : thenI (F.getD i []) b ∈ F
      · rw [ea]
        exact List.mem_append_left _ z
      · unfold stepI
        rw [if_pos ⟨h, fl, z⟩]
        simp
    · have hp : i < (stepI most F i x).length := by rw [ea, List.length_append]; omega
      have := inner_closes l (stepI most F i x) hp hl' b m
      rw [ea, getD_pre h] at this
      rw [ea]
      exact this
/-- closed under the maps, when there are no more than so many -/
theorem elements_closed {maps : List (List Int)} {most : Nat} (h : (elementsOf maps most).length ≤ most) : ∀ a ∈ elementsOf maps most, ∀ b ∈ maps, thenI a b ∈ elementsOf maps most := by
  intro a ha b hb
  rw [elements_eq] at h ha ⊢
  obtain ⟨p, hp, e⟩ := List.mem_iff_getElem.mp ha
  have lt : p < (stage maps most p).length := by
    apply Classical.byContradiction
    intro z
    have := stage_stuck (maps := maps) (most := most) (i := p) (by omega) (most + 1 - p)
    rw [show p + (most + 1 - p) = most + 1 by omega] at this
    rw [this] at hp
    omega
  obtain ⟨l1, e1⟩ := stage_sub maps most (p + 1) (most - p)
  rw [show p + 1 + (most - p) = most + 1 by omega] at e1
  obtain ⟨l2, e2⟩ := inner_sub maps most p (stage maps most p)
  rw [← stage_succ] at e2
  have ea : a = (stage maps most p).getD p [] := by
    have : (stage maps most (most + 1)).getD p [] = a := by
      rw [List.getD_eq_getElem?_getD, List.getElem?_eq_getElem hp]
      exact e
    rw [← this, e1, getD_pre (by rw [e2, List.length_append]; omega), e2, getD_pre lt]
  have c := inner_closes (most := most) maps (stage maps most p) lt (by
    rw [← stage_succ]
    rw [e1, List.length_append] at h
    omega) b hb
  rw [← stage_succ, ← ea] at c
  rw [e1]
  exact List.mem_append_left _ c
open DL
inductive Gen (maps : List (List Int)) : List Int → Prop
  | one {m : List Int} : m ∈ maps → Gen maps m
  | step {c m : List Int} : Gen maps c → m ∈ maps → Gen maps (thenI c m)
theorem getD_mem {F : List (List Int)} {i : Nat} (h : i < F.length) : F.getD i [] ∈ F := by
  rw [List.getD_eq_getElem?_getD, List.getElem?_eq_getElem h]
  exact List.getElem_mem h
theorem elements_gen {maps : List (List Int)} {most : Nat} : ∀ x ∈ elementsOf maps most, Gen maps x := by
  let Pg : List (List Int) → Prop := fun F => ∀ x ∈ F, Gen maps x
  have base : Pg (maps.foldl addI []) := foldl_inv (P := Pg) maps [] (fun y m F h x mx => by
    unfold addI at mx
    split at mx
    · exact h x mx
    · rcases List.mem_append.mp mx with mx | mx
      · exact h x mx
      · rw [List.mem_singleton.mp mx]; exact .one m) (fun x m => nomatch m)
  have st : ∀ at1 other F, other ∈ maps → Pg F → Pg (stepI most F at1 other) := fun at1 other F mo h x mx => by
    unfold stepI at mx
    split at mx
    · rename_i c
      rcases List.mem_append.mp mx with mx | mx
      · exact h x mx
      · rw [List.mem_singleton.mp mx]; exact .step (h _ (getD_mem c.1)) mo
    · exact h x mx
  exact foldl_inv (P := Pg) _ _ (fun at1 _ F h => foldl_inv (P := Pg) maps F (fun o m G hG => st at1 o G m hG) h) base
theorem then_getD {a b : List Int} {i : Nat} (h : i < a.length) : (thenI a b).getD i 0 = b.getD (a.getD i 0).toNat 0 := by
  unfold thenI
  rw [List.getD_eq_getElem?_getD, List.getElem?_map, List.getD_eq_getElem?_getD (l := a), List.getElem?_eq_getElem h]
  rfl
theorem then_assoc {n : Nat} {a c m : List Int} (ha : okMap n a) (hc : okMap n c) : thenI a (thenI c m) = thenI (thenI a c) m := by
  unfold thenI
  rw [List.map_map]
  apply List.map_congr_left
  intro i mi
  obtain ⟨i0, i1⟩ := ha.2 i mi
  have := then_getD (a := c) (b := m) (i := i.toNat) (by rw [hc.1]; omega)
  unfold thenI at this
  rw [this]
  rfl
theorem gen_ok {n : Nat} {maps : List (List Int)} (h : ∀ m ∈ maps, okMap n m) : ∀ {x : List Int}, Gen maps x → okMap n x
  | _, .one m => h _ m
  | _, .step g m => then_ok (gen_ok h g) (h _ m)
/-- closed under products -/
theorem elements_prod {n : Nat} {maps : List (List Int)} {most : Nat} (hm : ∀ m ∈ maps, okMap n m) (h : (elementsOf maps most).length ≤ most) : ∀ {b : List Int}, Gen maps b → ∀ a ∈ elementsOf maps most, thenI a b ∈ elementsOf maps most
  | _, .one m, a, ha => elements_closed h a ha _ m
  | _, .step g m, a, ha => by
    rw [then_assoc (gen_ok hm (elements_gen a ha)) (gen_ok hm g)]
    exact elements_closed h _ (elements_prod hm h g a ha) _ m
theorem elements_times {n : Nat} {maps : List (List Int)} {most : Nat} (hm : ∀ m ∈ maps, okMap n m) (h : (elementsOf maps most).length ≤ most) {a b : List Int} (ha : a ∈ elementsOf maps most) (hb : b ∈ elementsOf maps most) : thenI a b ∈ elementsOf maps most :=
  elements_prod hm h (elements_gen b hb) a ha
theorem add_nodup {F : List (List Int)} {x : List Int} (h : F.Nodup) : (addI F x).Nodup := by
  unfold addI
  split
  · exact h
  · rename_i z
    exact List.nodup_append.mpr ⟨h, by simp, fun a ha b hb e => by rw [List.mem_singleton.mp hb] at e; exact z (e ▸ ha)⟩
theorem step_nodup {most at1 : Nat} {F : List (List Int)} {x : List Int} (h : F.Nodup) : (stepI most F at1 x).Nodup := by
  unfold stepI
  split
  · rename_i z
    exact List.nodup_append.mpr ⟨h, by simp, fun a ha b hb e => by rw [List.mem_singleton.mp hb] at e; exact z.2.2 (e ▸ ha)⟩
  · exact h
/-- each once -/
theorem elements_nodup (maps : List (List Int)) (most : Nat) : (elementsOf maps most).Nodup :=
  foldl_inv (P := fun F : List (List Int) => F.Nodup) _ _ (fun at1 _ F h => foldl_inv (P := fun F : List (List Int) => F.Nodup) maps F (fun o _ G hG => step_nodup hG) h) (foldl_inv (P := fun F : List (List Int) => F.Nodup) maps [] (fun o _ G hG => add_nodup hG) List.nodup_nil)
theorem maps_in {maps : List (List Int)} {most : Nat} : ∀ m ∈ maps, m ∈ elementsOf maps most := fun m hm => by
  have b : m ∈ maps.foldl addI [] := by
    have key : ∀ (l : List (List Int)) (F : List (List Int)), (m ∈ F ∨ m ∈ l) → m ∈ l.foldl addI F := by
      intro l
      induction l with
      | nil => intro F h; exact h.elim id (fun z => nomatch z)
      | cons x l ih =>
        intro F h
        refine ih _ ?_
        have keep : ∀ y, y ∈ F → y ∈ addI F x := fun y hy => by
          unfold addI
          split
          · exact hy
          · exact List.mem_append_left _ hy
        rcases h with h | h
        · exact .inl (keep _ h)
        · rcases List.mem_cons.mp h with rfl | h
          · refine .inl ?_
            unfold addI
            split
            · assumption
            · simp
          · exact .inr h
    exact key maps [] (.inr hm)
  obtain ⟨l, e⟩ := stage_sub maps most 0 (most + 1)
  rw [Nat.zero_add] at e
  rw [elements_eq, e]
  exact List.mem_append_left _ b
open DL
theorem pops_mem (N : List Int) (k s : Int) (l : List Int) : ∀ n, n ≤ l.length → (∀ x ∈ (popsOf N k s n l).1, x ∈ l) ∧ ∀ x ∈ (popsOf N k s n l).2, x ∈ l
  | 0, _ => ⟨fun x m => (nomatch m), fun x m => m⟩
  | n + 1, h => by
    obtain ⟨h1, h2⟩ := pops_mem N k s l n (by omega)
    obtain ⟨p1, p2⟩ := pops_len N k s l n (by omega)
    have hp : (0 : Int) < ((popsOf N k s n l).2.length : Int) := by omega
    have i0 := nxt_lo (N := N) (k := k + s * (n : Nat)) hp
    have i1 := nxt_hi (N := N) (k := k + s * (n : Nat)) hp
    constructor
    · intro x m
      rcases List.mem_append.mp (show x ∈ (popsOf N k s n l).1 ++ [_] from m) with m | m
      · exact h1 x m
      · rw [List.mem_singleton.mp m]
        apply h2
        have hi : (nxt N (k + s * (n : Nat)) (popsOf N k s n l).2.length).toNat < (popsOf N k s n l).2.length := by omega
        rw [List.getD_eq_getElem?_getD, List.getElem?_eq_getElem hi]
        exact List.getElem_mem hi
    · intro x m
      exact h2 x (List.mem_of_mem_eraseIdx (show x ∈ (popsOf N k s n l).2.eraseIdx _ from m))
theorem upTo_mem {n : Nat} {x : Int} (h : x ∈ upTo n) : 0 ≤ x ∧ x < (n : Nat) := by
  obtain ⟨i, m, rfl⟩ := List.mem_map.mp h
  have := List.mem_range.mp m
  omega
theorem draws_ok (N : List Int) (k : Int) {rooms : Nat} (h : 1 ≤ rooms) : okMap rooms (drawsOf N k rooms rooms) := by
  refine ⟨by unfold drawsOf; rw [List.length_map, List.length_range], fun x m => ?_⟩
  obtain ⟨i, _, rfl⟩ := List.mem_map.mp m
  exact ⟨nxt_lo (by omega), nxt_hi (by omega)⟩
theorem mapOf_ok (N : List Int) (k kind : Int) {rooms : Nat} (h : 1 ≤ rooms) : okMap rooms (mapOf N k kind rooms).1 := by
  unfold mapOf
  split
  · exact draws_ok N k h
  · split
    · obtain ⟨h1, h2⟩ := draws_ok N k h
      exact ⟨(sortI_perm _).length_eq.trans h1, fun x m => h2 x ((sortI_perm _).mem_iff.mp m)⟩
    · split
      · split
        · refine ⟨List.length_replicate, fun x m => ?_⟩
          rw [(List.mem_replicate.mp m).2]
          exact ⟨nxt_lo (by omega), nxt_hi (by omega)⟩
        · have ul := upTo_len rooms
          refine ⟨(pops_len N (k + 1) 1 (upTo rooms) rooms (by omega)).2, fun x m => ?_⟩
          exact upTo_mem ((pops_mem N (k + 1) 1 (upTo rooms) rooms (by omega)).1 x m)
      · split
        · refine ⟨?_, fun x m => ?_⟩
          · show (map3 N k (rooms - 1) ++ [_]).length = rooms
            unfold map3
            rw [List.length_append, List.length_map, List.length_range, List.length_singleton]
            omega
          · rcases List.mem_append.mp (show x ∈ map3 N k (rooms - 1) ++ [_] from m) with m | m
            · obtain ⟨i, mi, rfl⟩ := List.mem_map.mp m
              have hi := List.mem_range.mp mi
              have ul := upTo_len (rooms - 1)
              obtain ⟨_, pl⟩ := pops_len N k 2 (upTo (rooms - 1)) (rooms - 1) (by omega)
              split
              · have hx : (popsOf N k 2 (rooms - 1) (upTo (rooms - 1))).1.getD i 0 ∈ (popsOf N k 2 (rooms - 1) (upTo (rooms - 1))).1 := by
                  have hi' : i < (popsOf N k 2 (rooms - 1) (upTo (rooms - 1))).1.length := by omega
                  rw [List.getD_eq_getElem?_getD, List.getElem?_eq_getElem hi']
                  exact List.getElem_mem hi'
                have := upTo_mem ((pops_mem N k 2 (upTo (rooms - 1)) (rooms - 1) (by omega)).1 _ hx)
                omega
              · omega
            · rw [List.mem_singleton.mp m]
              omega
        · refine ⟨by show (List.map _ _).length = rooms; rw [List.length_map, List.length_range], fun x m => ?_⟩
          obtain ⟨i, mi, rfl⟩ := List.mem_map.mp (show x ∈ List.map _ _ from m)
          have hi := List.mem_range.mp mi
          have a0 := nxt_lo (N := N) (k := k + (i : Nat)) (many := (rooms : Int) - (i : Nat)) (by omega)
          have a1 := nxt_hi (N := N) (k := k + (i : Nat)) (many := (rooms : Int) - (i : Nat)) (by omega)
          omega
/-- the drawn maps are maps of so many rooms; there are from 1 to most of them -/
theorem maps_ok (N : List Int) (k most : Int) (h : 1 ≤ most) : (∀ x ∈ (mapsOf N k most).1, okMap (roomsOf N k) x) ∧ 1 ≤ (mapsOf N k most).1.length ∧ ((mapsOf N k most).1.length : Int) ≤ most := by
  obtain ⟨q1, _⟩ := rooms_ix N k
  have c0 := nxt_lo (N := N) (k := k + 6) (many := most) (by omega)
  have c1 := nxt_hi (N := N) (k := k + 6) (many := most) (by omega)
  have e := mapsFrom_list N (nxt N k 5) (roomsOf N k) (k + 7) (1 + nxt N (k + 6) most).toNat
  have len : (mapsOf N k most).1.length = (1 + nxt N (k + 6) most).toNat := by
    have := congrArg List.length e
    rw [List.length_map, List.length_range, List.length_map] at this
    exact this.symm
  refine ⟨?_, by omega, by omega⟩
  have all : ∀ n : Nat, ∀ x ∈ (mapsFrom N (nxt N k 5) (roomsOf N k) (k + 7) n).1, okMap (roomsOf N k) x := by
    intro n
    induction n with
    | zero => intro x m; cases m
    | succ n ih =>
      intro x m
      rcases List.mem_append.mp (show x ∈ (mapsFrom N (nxt N k 5) (roomsOf N k) (k + 7) n).1 ++ [_] from m) with m | m
      · exact ih x m
      · rw [List.mem_singleton.mp m]
        exact mapOf_ok N _ _ q1
  exact all _

end CS

namespace CS
open PySem PySem.Spec PyProof.Rows L2 DL EV
local macro_rules | `(tactic| walk_at "side") => `(tactic| first | omega | (simp only [List.length_cons, List.length_nil, List.length_map, List.length_append, List.length_range, PySem.sizeLine_eq]; omega) | assumption | (simp; done))
theorem same_eq {one other : List Int} (hl : one.length ≤ 1000) (h : ∀ i ∈ one, 0 ≤ i ∧ i < other.length) : f_l_same_as [tupI one, tupI other] = some (.dat (tupI (thenI one other))) := by
  have L : lcGo (ltn [] 2 .yes e_l_same_as_1) (one.map PyData.int) [.dat (tupI one), .dat (tupI other), .no] = some (one.map (fun i => .int (other.getD i.toNat 0)), [.dat (tupI one), .dat (tupI other), .no]) := by
    refine lc_map _ _ fun i hi => ?_
    obtain ⟨h1, h2⟩ := h i hi
    rw [ltn_x]
    unfold tupI
    simp (config := { implicitDefEqProofs := false }) (disch := walk_at "side") only [↓reduceIte, decide_eq_true_eq, decide_true, decide_false, Bool.not_true, Bool.not_false, Bool.false_eq_true, Int.reduceEq, Int.reduceLT, Int.reduceLE, Int.reduceNeg, Int.reduceToNat, ↓okI, ↓okI2, ↓aV_d, ↓aV_o, ↓aV_n, ↓aV_w, ↓dV_d, ↓dV_n, ↓dV_w, ↓gE_0, ↓gE_s, ↓eL_l, ↓eD_l, ↓eV_d, ↓eV_l, ↓nA_d, ↓nA_o, ↓iD_i, ↓bD_b, ↓kD_i, ↓kD_s, ↓zD_d, ↓vZ_d, ↓vZ_n, ↓sR_0, ↓sR_s, ↓sK_n, ↓sK_0, ↓lD_l, ↓sD_l, ↓sD_t, ↓tD_t, ↓dA_nil, ↓dA_d, ↓dN_nil, ↓dN_c, ↓oZ_addI, ↓oZ_addS, ↓oZ_addT, ↓oZ_addL, ↓oZ_sub, ↓oZ_mul, ↓oZ_mulT, ↓oZ_fdiv, ↓oZ_mod, ↓oZ_pow, ↓oZ_eqI, ↓oZ_eqS, ↓oZ_neS, ↓oZ_neI, ↓oZ_lt, ↓oZ_le, ↓oZ_gt, ↓oZ_ge, ↓oZ_ixL, ↓oZ_ixT, ↓aI_0, ↓aI_1, ↓aI_2, ↓nI_0, ↓nI_1, ↓lS_0, ↓lS_s, ↓aI_int, ↓aI_str, ↓aI_row, ↓aI_b2, ↓aI_i1, ↓aI_i2, ↓aI_i3, ↓aI_i4, ↓aI_i5, ↓aI_i6, ↓oZ_abyz, ↓oZ_az, ↓cZ_lenLm, ↓cZ_lenTm, ↓cZ_lenP, ↓oZ_ixP, ↓sD_P, ↓cZ_lstP, ↓cZ_abs, ↓cZ_int, ↓cZ_intB, ↓cZ_tup, ↓cZ_lstL, ↓cZ_lstT, ↓cZ_all, ↓cZ_any, ↓cZ_max2, ↓cZ_min2, ↓cZ_sum, ↓cZ_sorted, ↓xE_int, ↓xE_bl, ↓xE_str, ↓xE_non, ↓xE_var, ↓xE_op, ↓xE_neg, ↓xE_nt, ↓xE_an, ↓xE_or, ↓xE_ch, ↓xE_isN, ↓xE_notN, ↓xE_ife, ↓xE_tup, ↓xE_lst, ↓xE_sl, ↓sl1_T, ↓sl1_L, ↓xE_cb, ↓xE_isa, ↓xE_call, ↓xE_callS, ↓xE_lc, ↓sN_0, ↓sN_s, ↓xE_lrg, ↓xE_trg, ↓xE_pop, ↓xE_idxL, ↓sT_s, ↓xE_idxT, ↓xE_dget, ↓xE_din, ↓xE_dnin, ↓xE_dset, ↓xA_nil, ↓xA_cons, ↓xT_te, ↓xT_tb, ↓xT_nt, ↓xT_an, ↓xT_or, ↓xT_yes, ↓xT_lend, ↓xP_no, ↓xP_at, ↓xI_rng1, ↓xI_rng2, ↓xI_u, ↓xI_en, ↓xG_nm, ↓xG_tup, ↓xGs_nil, ↓xGs_cons, ↓sV_d, ↓sV_n, ↓sV_w, ↓rV_d, ↓rV_n, ↓rV_w, ↓rV_o, ↓xS_set, ↓xS_asg, ↓xS_seti, ↓xS_app, ↓xS_newD, ↓xS_dput, ↓xS_drop, ↓xS_ret, ↓xS_retN, ↓xS_iff, ↓xS_for, ↓xS_wh, ↓xS_brk, ↓xS_cont, ↓xS_nx, ↓xS_seq, ↓xS_fz, ↓fzK_l, ↓fzK_d, ↓fzK_n, ↓fzK_D, ↓kS_nx, ↓kS_rt, ↓kS_bk, ↓kS_ct, ↓out1_rt, ↓out2_rt, ↓u_e_l_same_as_1]
  have hz : (one.map PyData.int).length < sizeLine := by rw [List.length_map, sizeLine_eq]; omega
  rw [x_l_same_as]
  unfold tupI thenI at *
  simp (config := { implicitDefEqProofs := false }) (disch := walk_at "side") only [↓reduceIte, decide_eq_true_eq, decide_true, decide_false, Bool.not_true, Bool.not_false, Bool.false_eq_true, Int.reduceEq, Int.reduceLT, Int.reduceLE, Int.reduceNeg, Int.reduceToNat, ↓okI, ↓okI2, ↓aV_d, ↓aV_o, ↓aV_n, ↓aV_w, ↓dV_d, ↓dV_n, ↓dV_w, ↓gE_0, ↓gE_s, ↓eL_l, ↓eD_l, ↓eV_d, ↓eV_l, ↓nA_d, ↓nA_o, ↓iD_i, ↓bD_b, ↓kD_i, ↓kD_s, ↓zD_d, ↓vZ_d, ↓vZ_n, ↓sR_0, ↓sR_s, ↓sK_n, ↓sK_0, ↓lD_l, ↓sD_l, ↓sD_t, ↓tD_t, ↓dA_nil, ↓dA_d, ↓dN_nil, ↓dN_c, ↓oZ_addI, ↓oZ_addS, ↓oZ_addT, ↓oZ_addL, ↓oZ_sub, ↓oZ_mul, ↓oZ_mulT, ↓oZ_fdiv, ↓oZ_mod, ↓oZ_pow, ↓oZ_eqI, ↓oZ_eqS, ↓oZ_neS, ↓oZ_neI, ↓oZ_lt, ↓oZ_le, ↓oZ_gt, ↓oZ_ge, ↓oZ_ixL, ↓oZ_ixT, ↓aI_0, ↓aI_1, ↓aI_2, ↓nI_0, ↓nI_1, ↓lS_0, ↓lS_s, ↓aI_int, ↓aI_str, ↓aI_row, ↓aI_b2, ↓aI_i1, ↓aI_i2, ↓aI_i3, ↓aI_i4, ↓aI_i5, ↓aI_i6, ↓oZ_abyz, ↓oZ_az, ↓cZ_lenLm, ↓cZ_lenTm, ↓cZ_lenP, ↓oZ_ixP, ↓sD_P, ↓cZ_lstP, ↓cZ_abs, ↓cZ_int, ↓cZ_intB, ↓cZ_tup, ↓cZ_lstL, ↓cZ_lstT, ↓cZ_all, ↓cZ_any, ↓cZ_max2, ↓cZ_min2, ↓cZ_sum, ↓cZ_sorted, ↓xE_int, ↓xE_bl, ↓xE_str, ↓xE_non, ↓xE_var, ↓xE_op, ↓xE_neg, ↓xE_nt, ↓xE_an, ↓xE_or, ↓xE_ch, ↓xE_isN, ↓xE_notN, ↓xE_ife, ↓xE_tup, ↓xE_lst, ↓xE_sl, ↓sl1_T, ↓sl1_L, ↓xE_cb, ↓xE_isa, ↓xE_call, ↓xE_callS, ↓xE_lc, ↓sN_0, ↓sN_s, ↓xE_lrg, ↓xE_trg, ↓xE_pop, ↓xE_idxL, ↓sT_s, ↓xE_idxT, ↓xE_dget, ↓xE_din, ↓xE_dnin, ↓xE_dset, ↓xA_nil, ↓xA_cons, ↓xT_te, ↓xT_tb, ↓xT_nt, ↓xT_an, ↓xT_or, ↓xT_yes, ↓xT_lend, ↓xP_no, ↓xP_at, ↓xI_rng1, ↓xI_rng2, ↓xI_u, ↓xI_en, ↓xG_nm, ↓xG_tup, ↓xGs_nil, ↓xGs_cons, ↓sV_d, ↓sV_n, ↓sV_w, ↓rV_d, ↓rV_n, ↓rV_w, ↓rV_o, ↓xS_set, ↓xS_asg, ↓xS_seti, ↓xS_app, ↓xS_newD, ↓xS_dput, ↓xS_drop, ↓xS_ret, ↓xS_retN, ↓xS_iff, ↓xS_for, ↓xS_wh, ↓xS_brk, ↓xS_cont, ↓xS_nx, ↓xS_seq, ↓xS_fz, ↓fzK_l, ↓fzK_d, ↓fzK_n, ↓fzK_D, ↓kS_nx, ↓kS_rt, ↓kS_bk, ↓kS_ct, ↓out1_rt, ↓out2_rt, ↓u_c_l_same_as, ↓lK_s L]
  rw [List.map_map]
  rfl
theorem sameK {β : Type} {one other : List Int} {kv : Vl → Option β} (hl : one.length ≤ 1000) (h : ∀ i ∈ one, 0 ≤ i ∧ i < other.length) : cK f_l_same_as [tupI one, tupI other] kv = kv (.d (tupI (thenI one other))) := cK_s (same_eq hl h)
theorem nextK {β : Type} {N : List Int} {k many : Int} {kv : Vl → List D → Option β} (G : Good N) (h0 : 0 ≤ k) (h1 : k < KMax) (hm : 0 < many) : cKS f_l_next (stAt N k) [.int many] kv = kv (.d (.int (nxt N k many))) (stAt N (k + 1)) := cKS_s (next_eq G h0 h1 hm)
theorem oZ_rep1 {x j : Int} {β : Type} {kz : Rz → Option β} (h : 2 ≤ j ∧ j ≤ 1000) : oZ .mul (.tuple [.int x]) (.int j) kz = kz (.d (tupI (List.replicate j.toNat x))) := by
  rw [oZ_mulT ⟨by simp, h.1, h.2, by simp⟩]
  have := rep_one x j.toNat
  rw [show ((j.toNat : Nat) : Int) = j by omega] at this
  rw [this]; rfl
theorem pK_int {β : Type} {kd : D → Option β} {l : List Int} {j : Nat} (h : j < l.length) : pK (l.map PyData.int) j kd = kd (.int (l.getD j 0)) := by
  unfold pK
  rw [get_ints h]; rfl
/-- draws in a row -/
theorem draws_lc {N : List Int} {k : Int} {rooms : Nat} {e1 e3 e4 e5 e6 : Ent} (G : Good N) (h0 : 0 ≤ k) (h1 : k + 15 ≤ KMax) (hr : 1 ≤ rooms ∧ rooms ≤ 5) (ee : Ex) (hu : ∀ (ρ : Rho) (kk : Vl → Rho → Option (Option D × Rho)), xE [0] ee ρ kk = xE [0] (.callS f_l_next 0 (.cons (.var 2) .nil)) ρ kk) :
    lcGo (ltn [0] 5 .yes ee) (rgD 0 rooms) [.own (.lst (stAt N k)), e1, .dat (.int (rooms : Nat)), e3, e4, .no, e6] = some ((drawsOf N k rooms rooms).map .int, [.own (.lst (stAt N (k + rooms))), e1, .dat (.int (rooms : Nat)), e3, e4, .no, e6]) := by
  have hK : KMax = 1000000000 := rfl
  have := lc_inv0 (f := ltn [0] 5 .yes ee) (fun i => [.own (.lst (stAt N (k + (i : Nat)))), e1, .dat (.int (rooms : Nat)), e3, e4, .no, e6]) (fun i => .int (nxt N (k + (i : Nat)) rooms)) (l := rgD 0 rooms) (ρ := [.own (.lst (stAt N k)), e1, .dat (.int (rooms : Nat)), e3, e4, .no, e6]) (ρ' := [.own (.lst (stAt N (k + rooms))), e1, .dat (.int (rooms : Nat)), e3, e4, .no, e6]) (by simp) (by rw [rgD_len]) fun i hi => by
    rw [rgD_len] at hi
    rw [rgD_at hi, ltn_x]
    simp (config := { implicitDefEqProofs := false }) (disch := walk_at "side") only [↓reduceIte, decide_eq_true_eq, decide_true, decide_false, Bool.not_true, Bool.not_false, Bool.false_eq_true, Int.reduceEq, Int.reduceLT, Int.reduceLE, Int.reduceNeg, Int.reduceToNat, ↓okI, ↓okI2, ↓aV_d, ↓aV_o, ↓aV_n, ↓aV_w, ↓dV_d, ↓dV_n, ↓dV_w, ↓gE_0, ↓gE_s, ↓eL_l, ↓eD_l, ↓eV_d, ↓eV_l, ↓nA_d, ↓nA_o, ↓iD_i, ↓bD_b, ↓kD_i, ↓kD_s, ↓zD_d, ↓vZ_d, ↓vZ_n, ↓sR_0, ↓sR_s, ↓sK_n, ↓sK_0, ↓lD_l, ↓sD_l, ↓sD_t, ↓tD_t, ↓dA_nil, ↓dA_d, ↓dN_nil, ↓dN_c, ↓oZ_addI, ↓oZ_addS, ↓oZ_addT, ↓oZ_addL, ↓oZ_sub, ↓oZ_mul, ↓oZ_mulT, ↓oZ_fdiv, ↓oZ_mod, ↓oZ_pow, ↓oZ_eqI, ↓oZ_eqS, ↓oZ_neS, ↓oZ_neI, ↓oZ_lt, ↓oZ_le, ↓oZ_gt, ↓oZ_ge, ↓oZ_ixL, ↓oZ_ixT, ↓aI_0, ↓aI_1, ↓aI_2, ↓nI_0, ↓nI_1, ↓lS_0, ↓lS_s, ↓aI_int, ↓aI_str, ↓aI_row, ↓aI_b2, ↓aI_i1, ↓aI_i2, ↓aI_i3, ↓aI_i4, ↓aI_i5, ↓aI_i6, ↓oZ_abyz, ↓oZ_az, ↓cZ_lenLm, ↓cZ_lenTm, ↓cZ_lenP, ↓oZ_ixP, ↓sD_P, ↓cZ_lstP, ↓cZ_abs, ↓cZ_int, ↓cZ_intB, ↓cZ_tup, ↓cZ_lstL, ↓cZ_lstT, ↓cZ_all, ↓cZ_any, ↓cZ_max2, ↓cZ_min2, ↓cZ_sum, ↓cZ_sorted, ↓xE_int, ↓xE_bl, ↓xE_str, ↓xE_non, ↓xE_var, ↓xE_op, ↓xE_neg, ↓xE_nt, ↓xE_an, ↓xE_or, ↓xE_ch, ↓xE_isN, ↓xE_notN, ↓xE_ife, ↓xE_tup, ↓xE_lst, ↓xE_sl, ↓sl1_T, ↓sl1_L, ↓xE_cb, ↓xE_isa, ↓xE_call, ↓xE_callS, ↓xE_lc, ↓sN_0, ↓sN_s, ↓xE_lrg, ↓xE_trg, ↓xE_pop, ↓xE_idxL, ↓sT_s, ↓xE_idxT, ↓xE_dget, ↓xE_din, ↓xE_dnin, ↓xE_dset, ↓xA_nil, ↓xA_cons, ↓xT_te, ↓xT_tb, ↓xT_nt, ↓xT_an, ↓xT_or, ↓xT_yes, ↓xT_lend, ↓xP_no, ↓xP_at, ↓xI_rng1, ↓xI_rng2, ↓xI_u, ↓xI_en, ↓xG_nm, ↓xG_tup, ↓xGs_nil, ↓xGs_cons, ↓sV_d, ↓sV_n, ↓sV_w, ↓rV_d, ↓rV_n, ↓rV_w, ↓rV_o, ↓xS_set, ↓xS_asg, ↓xS_seti, ↓xS_app, ↓xS_newD, ↓xS_dput, ↓xS_drop, ↓xS_ret, ↓xS_retN, ↓xS_iff, ↓xS_for, ↓xS_wh, ↓xS_brk, ↓xS_cont, ↓xS_nx, ↓xS_seq, ↓xS_fz, ↓fzK_l, ↓fzK_d, ↓fzK_n, ↓fzK_D, ↓kS_nx, ↓kS_rt, ↓kS_bk, ↓kS_ct, ↓out1_rt, ↓out2_rt, ↓hu, ↓nextK]
    rw [show k + (i : Int) + 1 = k + ((i + 1 : Nat) : Int) by omega]
  rw [this, rgD_len]
  unfold drawsOf
  rw [List.map_map]
  rfl
theorem erase_map {l : List Int} {j : Nat} : (l.map PyData.int).eraseIdx j = (l.eraseIdx j).map .int := (map_erase l j).symm
/-- what is taken out, one a turn -/
theorem pops_lc {N : List Int} {k : Int} {rooms : Nat} {e1 e4 e6 : Ent} (G : Good N) (h0 : 0 ≤ k) (h1 : k + 15 ≤ KMax) (hr : 1 ≤ rooms ∧ rooms ≤ 5) :
    lcGo (ltn [0] 5 .yes e_l_map_5) (rgD 0 rooms) [.own (.lst (stAt N k)), e1, .dat (.int (rooms : Nat)), .own (.lst ((upTo rooms).map .int)), e4, .no, e6] = some ((popsOf N k 1 rooms (upTo rooms)).1.map .int, [.own (.lst (stAt N (k + rooms))), e1, .dat (.int (rooms : Nat)), .own (.lst ((popsOf N k 1 rooms (upTo rooms)).2.map .int)), e4, .no, e6]) := by
  have hK : KMax = 1000000000 := rfl
  have ul := upTo_len rooms
  have := lc_inv0 (f := ltn [0] 5 .yes e_l_map_5) (fun i => [.own (.lst (stAt N (k + (i : Nat)))), e1, .dat (.int (rooms : Nat)), .own (.lst ((popsOf N k 1 i (upTo rooms)).2.map .int)), e4, .no, e6]) (fun i => .int ((popsOf N k 1 rooms (upTo rooms)).1.getD i 0)) (l := rgD 0 rooms) (ρ := [.own (.lst (stAt N k)), e1, .dat (.int (rooms : Nat)), .own (.lst ((upTo rooms).map .int)), e4, .no, e6]) (ρ' := [.own (.lst (stAt N (k + rooms))), e1, .dat (.int (rooms : Nat)), .own (.lst ((popsOf N k 1 rooms (upTo rooms)).2.map .int)), e4, .no, e6]) (by simp [popsOf]) (by rw [rgD_len]) fun i hi => by
    rw [rgD_len] at hi
    rw [rgD_at hi, ltn_x]
    obtain ⟨p1, p2⟩ := pops_len N k 1 (upTo rooms) i (by omega)
    have pe := pops_at N k 1 (upTo rooms) rooms hi (by omega)
    have hp : (0 : Int) < ((popsOf N k 1 i (upTo rooms)).2.length : Int) := by omega
    have n0 := nxt_lo (N := N) (k := k + (i : Nat)) hp
    have n1 := nxt_hi (N := N) (k := k + (i : Nat)) hp
    simp (config := { implicitDefEqProofs := false }) (disch := walk_at "side") only [↓reduceIte, decide_eq_true_eq, decide_true, decide_false, Bool.not_true, Bool.not_false, Bool.false_eq_true, Int.reduceEq, Int.reduceLT, Int.reduceLE, Int.reduceNeg, Int.reduceToNat, ↓okI, ↓okI2, ↓aV_d, ↓aV_o, ↓aV_n, ↓aV_w, ↓dV_d, ↓dV_n, ↓dV_w, ↓gE_0, ↓gE_s, ↓eL_l, ↓eD_l, ↓eV_d, ↓eV_l, ↓nA_d, ↓nA_o, ↓iD_i, ↓bD_b, ↓kD_i, ↓kD_s, ↓zD_d, ↓vZ_d, ↓vZ_n, ↓sR_0, ↓sR_s, ↓sK_n, ↓sK_0, ↓lD_l, ↓sD_l, ↓sD_t, ↓tD_t, ↓dA_nil, ↓dA_d, ↓dN_nil, ↓dN_c, ↓oZ_addI, ↓oZ_addS, ↓oZ_addT, ↓oZ_addL, ↓oZ_sub, ↓oZ_mul, ↓oZ_mulT, ↓oZ_fdiv, ↓oZ_mod, ↓oZ_pow, ↓oZ_eqI, ↓oZ_eqS, ↓oZ_neS, ↓oZ_neI, ↓oZ_lt, ↓oZ_le, ↓oZ_gt, ↓oZ_ge, ↓oZ_ixL, ↓oZ_ixT, ↓aI_0, ↓aI_1, ↓aI_2, ↓nI_0, ↓nI_1, ↓lS_0, ↓lS_s, ↓aI_int, ↓aI_str, ↓aI_row, ↓aI_b2, ↓aI_i1, ↓aI_i2, ↓aI_i3, ↓aI_i4, ↓aI_i5, ↓aI_i6, ↓oZ_abyz, ↓oZ_az, ↓cZ_lenLm, ↓cZ_lenTm, ↓cZ_lenP, ↓oZ_ixP, ↓sD_P, ↓cZ_lstP, ↓cZ_abs, ↓cZ_int, ↓cZ_intB, ↓cZ_tup, ↓cZ_lstL, ↓cZ_lstT, ↓cZ_all, ↓cZ_any, ↓cZ_max2, ↓cZ_min2, ↓cZ_sum, ↓cZ_sorted, ↓xE_int, ↓xE_bl, ↓xE_str, ↓xE_non, ↓xE_var, ↓xE_op, ↓xE_neg, ↓xE_nt, ↓xE_an, ↓xE_or, ↓xE_ch, ↓xE_isN, ↓xE_notN, ↓xE_ife, ↓xE_tup, ↓xE_lst, ↓xE_sl, ↓sl1_T, ↓sl1_L, ↓xE_cb, ↓xE_isa, ↓xE_call, ↓xE_callS, ↓xE_lc, ↓sN_0, ↓sN_s, ↓xE_lrg, ↓xE_trg, ↓xE_pop, ↓xE_idxL, ↓sT_s, ↓xE_idxT, ↓xE_dget, ↓xE_din, ↓xE_dnin, ↓xE_dset, ↓xA_nil, ↓xA_cons, ↓xT_te, ↓xT_tb, ↓xT_nt, ↓xT_an, ↓xT_or, ↓xT_yes, ↓xT_lend, ↓xP_no, ↓xP_at, ↓xI_rng1, ↓xI_rng2, ↓xI_u, ↓xI_en, ↓xG_nm, ↓xG_tup, ↓xGs_nil, ↓xGs_cons, ↓sV_d, ↓sV_n, ↓sV_w, ↓rV_d, ↓rV_n, ↓rV_w, ↓rV_o, ↓xS_set, ↓xS_asg, ↓xS_seti, ↓xS_app, ↓xS_newD, ↓xS_dput, ↓xS_drop, ↓xS_ret, ↓xS_retN, ↓xS_iff, ↓xS_for, ↓xS_wh, ↓xS_brk, ↓xS_cont, ↓xS_nx, ↓xS_seq, ↓xS_fz, ↓fzK_l, ↓fzK_d, ↓fzK_n, ↓fzK_D, ↓kS_nx, ↓kS_rt, ↓kS_bk, ↓kS_ct, ↓out1_rt, ↓out2_rt, ↓u_e_l_map_5, ↓nextK, ↓nI_in, ↓pK_int, List.length_map]
    rw [pe, show k + (i : Int) + 1 = k + ((i + 1 : Nat) : Int) by omega, erase_map, show k + 1 * ((i : Nat) : Int) = k + (i : Nat) by omega]
    simp only [popsOf, Int.one_mul]
  rw [this, rgD_len]
  have pl := (pops_len N k 1 (upTo rooms) rooms (by omega)).2
  have e : (popsOf N k 1 rooms (upTo rooms)).1.map PyData.int = (List.range rooms).map fun i => PyData.int ((popsOf N k 1 rooms (upTo rooms)).1.getD i 0) := by
    have := map_rangeD (popsOf N k 1 rooms (upTo rooms)).1 0 PyData.int
    rw [pl] at this
    exact this.symm
  rw [e]
def found3 (N : List Int) (k : Int) (m i : Nat) : List Int := (List.range i).map fun i => if 0 < nxt N (k + 2 * (i : Nat) + 1) 3 then (popsOf N k 2 m (upTo m)).1.getD i 0 else (m : Nat)
theorem found_loop {N : List Int} {k : Int} {rooms m : Nat} {e1 e6 : Ent} (G : Good N) (h0 : 0 ≤ k) (h1 : k + 15 ≤ KMax) (hr : 1 ≤ rooms ∧ rooms ≤ 5) (hm : (m : Int) = (rooms : Int) - 1) :
    ∃ e, forGo (trn [0] (.nm 5) b_l_map_3) (rgD 0 m) [.own (.lst (stAt N k)), e1, .dat (.int (rooms : Nat)), .own (.lst ((upTo m).map .int)), .own (.lst []), .no, e6] = some (.nx [.own (.lst (stAt N (k + 2 * (m : Nat)))), e1, .dat (.int (rooms : Nat)), .own (.lst ((popsOf N k 2 m (upTo m)).2.map .int)), .own (.lst ((found3 N k m m).map .int)), e, e6]) := by
  have hK : KMax = 1000000000 := rfl
  have ul := upTo_len m
  refine ⟨if m = 0 then .no else .dat (.int ((m : Int) - 1)), ?_⟩
  refine for_inv (fun i => [.own (.lst (stAt N (k + 2 * (i : Nat)))), e1, .dat (.int (rooms : Nat)), .own (.lst ((popsOf N k 2 i (upTo m)).2.map .int)), .own (.lst ((found3 N k m i).map .int)), if i = 0 then .no else .dat (.int ((i : Int) - 1)), e6]) (by simp [popsOf, found3]) (by rw [rgD_len]) fun i hi => ?_
  rw [rgD_len] at hi
  rw [rgD_at hi, trn_x]
  obtain ⟨p1, p2⟩ := pops_len N k 2 (upTo m) i (by omega)
  have pe := pops_at N k 2 (upTo m) m hi (by omega)
  have hp : (0 : Int) < ((popsOf N k 2 i (upTo m)).2.length : Int) := by omega
  have n0 := nxt_lo (N := N) (k := k + 2 * (i : Nat)) hp
  have n1 := nxt_hi (N := N) (k := k + 2 * (i : Nat)) hp
  have hz : ((found3 N k m i).map PyData.int).length < sizeLine := by unfold found3; rw [List.length_map, List.length_map, List.length_range, sizeLine_eq]; omega
  simp (config := { implicitDefEqProofs := false }) (disch := walk_at "side") only [↓reduceIte, decide_eq_true_eq, decide_true, decide_false, Bool.not_true, Bool.not_false, Bool.false_eq_true, Int.reduceEq, Int.reduceLT, Int.reduceLE, Int.reduceNeg, Int.reduceToNat, ↓okI, ↓okI2, ↓aV_d, ↓aV_o, ↓aV_n, ↓aV_w, ↓dV_d, ↓dV_n, ↓dV_w, ↓gE_0, ↓gE_s, ↓eL_l, ↓eD_l, ↓eV_d, ↓eV_l, ↓nA_d, ↓nA_o, ↓iD_i, ↓bD_b, ↓kD_i, ↓kD_s, ↓zD_d, ↓vZ_d, ↓vZ_n, ↓sR_0, ↓sR_s, ↓sK_n, ↓sK_0, ↓lD_l, ↓sD_l, ↓sD_t, ↓tD_t, ↓dA_nil, ↓dA_d, ↓dN_nil, ↓dN_c, ↓oZ_addI, ↓oZ_addS, ↓oZ_addT, ↓oZ_addL, ↓oZ_sub, ↓oZ_mul, ↓oZ_mulT, ↓oZ_fdiv, ↓oZ_mod, ↓oZ_pow, ↓oZ_eqI, ↓oZ_eqS, ↓oZ_neS, ↓oZ_neI, ↓oZ_lt, ↓oZ_le, ↓oZ_gt, ↓oZ_ge, ↓oZ_ixL, ↓oZ_ixT, ↓aI_0, ↓aI_1, ↓aI_2, ↓nI_0, ↓nI_1, ↓lS_0, ↓lS_s, ↓aI_int, ↓aI_str, ↓aI_row, ↓aI_b2, ↓aI_i1, ↓aI_i2, ↓aI_i3, ↓aI_i4, ↓aI_i5, ↓aI_i6, ↓oZ_abyz, ↓oZ_az, ↓cZ_lenLm, ↓cZ_lenTm, ↓cZ_lenP, ↓oZ_ixP, ↓sD_P, ↓cZ_lstP, ↓cZ_abs, ↓cZ_int, ↓cZ_intB, ↓cZ_tup, ↓cZ_lstL, ↓cZ_lstT, ↓cZ_all, ↓cZ_any, ↓cZ_max2, ↓cZ_min2, ↓cZ_sum, ↓cZ_sorted, ↓xE_int, ↓xE_bl, ↓xE_str, ↓xE_non, ↓xE_var, ↓xE_op, ↓xE_neg, ↓xE_nt, ↓xE_an, ↓xE_or, ↓xE_ch, ↓xE_isN, ↓xE_notN, ↓xE_ife, ↓xE_tup, ↓xE_lst, ↓xE_sl, ↓sl1_T, ↓sl1_L, ↓xE_cb, ↓xE_isa, ↓xE_call, ↓xE_callS, ↓xE_lc, ↓sN_0, ↓sN_s, ↓xE_lrg, ↓xE_trg, ↓xE_pop, ↓xE_idxL, ↓sT_s, ↓xE_idxT, ↓xE_dget, ↓xE_din, ↓xE_dnin, ↓xE_dset, ↓xA_nil, ↓xA_cons, ↓xT_te, ↓xT_tb, ↓xT_nt, ↓xT_an, ↓xT_or, ↓xT_yes, ↓xT_lend, ↓xP_no, ↓xP_at, ↓xI_rng1, ↓xI_rng2, ↓xI_u, ↓xI_en, ↓xG_nm, ↓xG_tup, ↓xGs_nil, ↓xGs_cons, ↓sV_d, ↓sV_n, ↓sV_w, ↓rV_d, ↓rV_n, ↓rV_w, ↓rV_o, ↓xS_set, ↓xS_asg, ↓xS_seti, ↓xS_app, ↓xS_newD, ↓xS_dput, ↓xS_drop, ↓xS_ret, ↓xS_retN, ↓xS_iff, ↓xS_for, ↓xS_wh, ↓xS_brk, ↓xS_cont, ↓xS_nx, ↓xS_seq, ↓xS_fz, ↓fzK_l, ↓fzK_d, ↓fzK_n, ↓fzK_D, ↓kS_nx, ↓kS_rt, ↓kS_bk, ↓kS_ct, ↓out1_rt, ↓out2_rt, ↓u_b_l_map_3, ↓nextK, ↓nI_in, ↓pK_int, List.length_map]
  have f1 : found3 N k m (i + 1) = found3 N k m i ++ [if 0 < nxt N (k + 2 * (i : Nat) + 1) 3 then (popsOf N k 2 m (upTo m)).1.getD i 0 else (m : Nat)] := by
    unfold found3
    rw [List.range_succ, List.map_append]; rfl
  rw [f1, pe, if_neg (show ¬ i + 1 = 0 by omega), show k + 2 * (i : Int) + 1 + 1 = k + 2 * ((i + 1 : Nat) : Int) by omega, erase_map, List.map_append]
  simp only [popsOf, Int.zero_add, show ((i + 1 : Nat) : Int) - 1 = i by omega, hm]
  by_cases q : 0 < nxt N (k + 2 * (i : Int) + 1) 3
  · simp [q]
  · simp [q]
theorem rooms_lc {N : List Int} {k : Int} {rooms : Nat} {e1 e3 e4 e5 : Ent} (G : Good N) (h0 : 0 ≤ k) (h1 : k + 15 ≤ KMax) (hr : 1 ≤ rooms ∧ rooms ≤ 5) :
    lcGo (ltn [0] 6 .yes e_l_map_1) (rgD 0 rooms) [.own (.lst (stAt N k)), e1, .dat (.int (rooms : Nat)), e3, e4, e5, .no] = some (((List.range rooms).map fun i => ((i : Nat) : Int) + nxt N (k + (i : Nat)) ((rooms : Int) - (i : Nat))).map .int, [.own (.lst (stAt N (k + rooms))), e1, .dat (.int (rooms : Nat)), e3, e4, e5, .no]) := by
  have hK : KMax = 1000000000 := rfl
  have := lc_inv0 (f := ltn [0] 6 .yes e_l_map_1) (fun i => [.own (.lst (stAt N (k + (i : Nat)))), e1, .dat (.int (rooms : Nat)), e3, e4, e5, .no]) (fun i => .int (((i : Nat) : Int) + nxt N (k + (i : Nat)) ((rooms : Int) - (i : Nat)))) (l := rgD 0 rooms) (ρ := [.own (.lst (stAt N k)), e1, .dat (.int (rooms : Nat)), e3, e4, e5, .no]) (ρ' := [.own (.lst (stAt N (k + rooms))), e1, .dat (.int (rooms : Nat)), e3, e4, e5, .no]) (by simp) (by rw [rgD_len]) fun i hi => by
    rw [rgD_len] at hi
    rw [rgD_at hi, ltn_x]
    simp (config := { implicitDefEqProofs := false }) (disch := walk_at "side") only [↓reduceIte, decide_eq_true_eq, decide_true, decide_false, Bool.not_true, Bool.not_false, Bool.false_eq_true, Int.reduceEq, Int.reduceLT, Int.reduceLE, Int.reduceNeg, Int.reduceToNat, ↓okI, ↓okI2, ↓aV_d, ↓aV_o, ↓aV_n, ↓aV_w, ↓dV_d, ↓dV_n, ↓dV_w, ↓gE_0, ↓gE_s, ↓eL_l, ↓eD_l, ↓eV_d, ↓eV_l, ↓nA_d, ↓nA_o, ↓iD_i, ↓bD_b, ↓kD_i, ↓kD_s, ↓zD_d, ↓vZ_d, ↓vZ_n, ↓sR_0, ↓sR_s, ↓sK_n, ↓sK_0, ↓lD_l, ↓sD_l, ↓sD_t, ↓tD_t, ↓dA_nil, ↓dA_d, ↓dN_nil, ↓dN_c, ↓oZ_addI, ↓oZ_addS, ↓oZ_addT, ↓oZ_addL, ↓oZ_sub, ↓oZ_mul, ↓oZ_mulT, ↓oZ_fdiv, ↓oZ_mod, ↓oZ_pow, ↓oZ_eqI, ↓oZ_eqS, ↓oZ_neS, ↓oZ_neI, ↓oZ_lt, ↓oZ_le, ↓oZ_gt, ↓oZ_ge, ↓oZ_ixL, ↓oZ_ixT, ↓aI_0, ↓aI_1, ↓aI_2, ↓nI_0, ↓nI_1, ↓lS_0, ↓lS_s, ↓aI_int, ↓aI_str, ↓aI_row, ↓aI_b2, ↓aI_i1, ↓aI_i2, ↓aI_i3, ↓aI_i4, ↓aI_i5, ↓aI_i6, ↓oZ_abyz, ↓oZ_az, ↓cZ_lenLm, ↓cZ_lenTm, ↓cZ_lenP, ↓oZ_ixP, ↓sD_P, ↓cZ_lstP, ↓cZ_abs, ↓cZ_int, ↓cZ_intB, ↓cZ_tup, ↓cZ_lstL, ↓cZ_lstT, ↓cZ_all, ↓cZ_any, ↓cZ_max2, ↓cZ_min2, ↓cZ_sum, ↓cZ_sorted, ↓xE_int, ↓xE_bl, ↓xE_str, ↓xE_non, ↓xE_var, ↓xE_op, ↓xE_neg, ↓xE_nt, ↓xE_an, ↓xE_or, ↓xE_ch, ↓xE_isN, ↓xE_notN, ↓xE_ife, ↓xE_tup, ↓xE_lst, ↓xE_sl, ↓sl1_T, ↓sl1_L, ↓xE_cb, ↓xE_isa, ↓xE_call, ↓xE_callS, ↓xE_lc, ↓sN_0, ↓sN_s, ↓xE_lrg, ↓xE_trg, ↓xE_pop, ↓xE_idxL, ↓sT_s, ↓xE_idxT, ↓xE_dget, ↓xE_din, ↓xE_dnin, ↓xE_dset, ↓xA_nil, ↓xA_cons, ↓xT_te, ↓xT_tb, ↓xT_nt, ↓xT_an, ↓xT_or, ↓xT_yes, ↓xT_lend, ↓xP_no, ↓xP_at, ↓xI_rng1, ↓xI_rng2, ↓xI_u, ↓xI_en, ↓xG_nm, ↓xG_tup, ↓xGs_nil, ↓xGs_cons, ↓sV_d, ↓sV_n, ↓sV_w, ↓rV_d, ↓rV_n, ↓rV_w, ↓rV_o, ↓xS_set, ↓xS_asg, ↓xS_seti, ↓xS_app, ↓xS_newD, ↓xS_dput, ↓xS_drop, ↓xS_ret, ↓xS_retN, ↓xS_iff, ↓xS_for, ↓xS_wh, ↓xS_brk, ↓xS_cont, ↓xS_nx, ↓xS_seq, ↓xS_fz, ↓fzK_l, ↓fzK_d, ↓fzK_n, ↓fzK_D, ↓kS_nx, ↓kS_rt, ↓kS_bk, ↓kS_ct, ↓out1_rt, ↓out2_rt, ↓u_e_l_map_1, ↓nextK]
    rw [show k + (i : Int) + 1 = k + ((i + 1 : Nat) : Int) by omega, Int.zero_add]
  rw [this, rgD_len, List.map_map]
  rfl
theorem map_eq {N : List Int} {k kind : Int} {rooms : Nat} (G : Good N) (h0 : 0 ≤ k) (h1 : k + 20 ≤ KMax) (hr : 1 ≤ rooms ∧ rooms ≤ 5) (h2 : kind = 2 → 2 ≤ rooms) : f_l_map (stAt N k) [.int kind, .int (rooms : Nat)] = some (.dat (tupI (mapOf N k kind rooms).1), stAt N (mapOf N k kind rooms).2) := by
  have hK : KMax = 1000000000 := rfl
  have hrz : (rgD 0 rooms).length < sizeLine := by rw [rgD_len, sizeLine_eq]; omega
  have tn : ((rooms : Nat) : Int).toNat = rooms := by omega
  rw [x_l_map]
  by_cases q0 : kind = 0
  · subst q0
    have L := draws_lc (e1 := .dat (.int 0)) (e3 := .no) (e4 := .no) (e5 := .no) (e6 := .no) G h0 (by omega) hr e_l_map_9 (fun ρ kk => u_e_l_map_9 _ _ _)
    simp (config := { implicitDefEqProofs := false }) (disch := walk_at "side") only [↓reduceIte, decide_eq_true_eq, decide_true, decide_false, Bool.not_true, Bool.not_false, Bool.false_eq_true, Int.reduceEq, Int.reduceLT, Int.reduceLE, Int.reduceNeg, Int.reduceToNat, ↓okI, ↓okI2, ↓aV_d, ↓aV_o, ↓aV_n, ↓aV_w, ↓dV_d, ↓dV_n, ↓dV_w, ↓gE_0, ↓gE_s, ↓eL_l, ↓eD_l, ↓eV_d, ↓eV_l, ↓nA_d, ↓nA_o, ↓iD_i, ↓bD_b, ↓kD_i, ↓kD_s, ↓zD_d, ↓vZ_d, ↓vZ_n, ↓sR_0, ↓sR_s, ↓sK_n, ↓sK_0, ↓lD_l, ↓sD_l, ↓sD_t, ↓tD_t, ↓dA_nil, ↓dA_d, ↓dN_nil, ↓dN_c, ↓oZ_addI, ↓oZ_addS, ↓oZ_addT, ↓oZ_addL, ↓oZ_sub, ↓oZ_mul, ↓oZ_mulT, ↓oZ_fdiv, ↓oZ_mod, ↓oZ_pow, ↓oZ_eqI, ↓oZ_eqS, ↓oZ_neS, ↓oZ_neI, ↓oZ_lt, ↓oZ_le, ↓oZ_gt, ↓oZ_ge, ↓oZ_ixL, ↓oZ_ixT, ↓aI_0, ↓aI_1, ↓aI_2, ↓nI_0, ↓nI_1, ↓lS_0, ↓lS_s, ↓aI_int, ↓aI_str, ↓aI_row, ↓aI_b2, ↓aI_i1, ↓aI_i2, ↓aI_i3, ↓aI_i4, ↓aI_i5, ↓aI_i6, ↓oZ_abyz, ↓oZ_az, ↓cZ_lenLm, ↓cZ_lenTm, ↓cZ_lenP, ↓oZ_ixP, ↓sD_P, ↓cZ_lstP, ↓cZ_abs, ↓cZ_int, ↓cZ_intB, ↓cZ_tup, ↓cZ_lstL, ↓cZ_lstT, ↓cZ_all, ↓cZ_any, ↓cZ_max2, ↓cZ_min2, ↓cZ_sum, ↓cZ_sorted, ↓xE_int, ↓xE_bl, ↓xE_str, ↓xE_non, ↓xE_var, ↓xE_op, ↓xE_neg, ↓xE_nt, ↓xE_an, ↓xE_or, ↓xE_ch, ↓xE_isN, ↓xE_notN, ↓xE_ife, ↓xE_tup, ↓xE_lst, ↓xE_sl, ↓sl1_T, ↓sl1_L, ↓xE_cb, ↓xE_isa, ↓xE_call, ↓xE_callS, ↓xE_lc, ↓sN_0, ↓sN_s, ↓xE_lrg, ↓xE_trg, ↓xE_pop, ↓xE_idxL, ↓sT_s, ↓xE_idxT, ↓xE_dget, ↓xE_din, ↓xE_dnin, ↓xE_dset, ↓xA_nil, ↓xA_cons, ↓xT_te, ↓xT_tb, ↓xT_nt, ↓xT_an, ↓xT_or, ↓xT_yes, ↓xT_lend, ↓xP_no, ↓xP_at, ↓xI_rng1, ↓xI_rng2, ↓xI_u, ↓xI_en, ↓xG_nm, ↓xG_tup, ↓xGs_nil, ↓xGs_cons, ↓sV_d, ↓sV_n, ↓sV_w, ↓rV_d, ↓rV_n, ↓rV_w, ↓rV_o, ↓xS_set, ↓xS_asg, ↓xS_seti, ↓xS_app, ↓xS_newD, ↓xS_dput, ↓xS_drop, ↓xS_ret, ↓xS_retN, ↓xS_iff, ↓xS_for, ↓xS_wh, ↓xS_brk, ↓xS_cont, ↓xS_nx, ↓xS_seq, ↓xS_fz, ↓fzK_l, ↓fzK_d, ↓fzK_n, ↓fzK_D, ↓kS_nx, ↓kS_rt, ↓kS_bk, ↓kS_ct, ↓out1_rt, ↓out2_rt, ↓u_c_l_map, tn, ↓lK_s L]
    simp [mapOf, tupI]
  by_cases q1 : kind = 1
  · subst q1
    have L := draws_lc (e1 := .dat (.int 1)) (e3 := .no) (e4 := .no) (e5 := .no) (e6 := .no) G h0 (by omega) hr e_l_map_7 (fun ρ kk => u_e_l_map_7 _ _ _)
    simp (config := { implicitDefEqProofs := false }) (disch := walk_at "side") only [↓reduceIte, decide_eq_true_eq, decide_true, decide_false, Bool.not_true, Bool.not_false, Bool.false_eq_true, Int.reduceEq, Int.reduceLT, Int.reduceLE, Int.reduceNeg, Int.reduceToNat, ↓okI, ↓okI2, ↓aV_d, ↓aV_o, ↓aV_n, ↓aV_w, ↓dV_d, ↓dV_n, ↓dV_w, ↓gE_0, ↓gE_s, ↓eL_l, ↓eD_l, ↓eV_d, ↓eV_l, ↓nA_d, ↓nA_o, ↓iD_i, ↓bD_b, ↓kD_i, ↓kD_s, ↓zD_d, ↓vZ_d, ↓vZ_n, ↓sR_0, ↓sR_s, ↓sK_n, ↓sK_0, ↓lD_l, ↓sD_l, ↓sD_t, ↓tD_t, ↓dA_nil, ↓dA_d, ↓dN_nil, ↓dN_c, ↓oZ_addI, ↓oZ_addS, ↓oZ_addT, ↓oZ_addL, ↓oZ_sub, ↓oZ_mul, ↓oZ_mulT, ↓oZ_fdiv, ↓oZ_mod, ↓oZ_pow, ↓oZ_eqI, ↓oZ_eqS, ↓oZ_neS, ↓oZ_neI, ↓oZ_lt, ↓oZ_le, ↓oZ_gt, ↓oZ_ge, ↓oZ_ixL, ↓oZ_ixT, ↓aI_0, ↓aI_1, ↓aI_2, ↓nI_0, ↓nI_1, ↓lS_0, ↓lS_s, ↓aI_int, ↓aI_str, ↓aI_row, ↓aI_b2, ↓aI_i1, ↓aI_i2, ↓aI_i3, ↓aI_i4, ↓aI_i5, ↓aI_i6, ↓oZ_abyz, ↓oZ_az, ↓cZ_lenLm, ↓cZ_lenTm, ↓cZ_lenP, ↓oZ_ixP, ↓sD_P, ↓cZ_lstP, ↓cZ_abs, ↓cZ_int, ↓cZ_intB, ↓cZ_tup, ↓cZ_lstL, ↓cZ_lstT, ↓cZ_all, ↓cZ_any, ↓cZ_max2, ↓cZ_min2, ↓cZ_sum, ↓cZ_sorted, ↓xE_int, ↓xE_bl, ↓xE_str, ↓xE_non, ↓xE_var, ↓xE_op, ↓xE_neg, ↓xE_nt, ↓xE_an, ↓xE_or, ↓xE_ch, ↓xE_isN, ↓xE_notN, ↓xE_ife, ↓xE_tup, ↓xE_lst, ↓xE_sl, ↓sl1_T, ↓sl1_L, ↓xE_cb, ↓xE_isa, ↓xE_call, ↓xE_callS, ↓xE_lc, ↓sN_0, ↓sN_s, ↓xE_lrg, ↓xE_trg, ↓xE_pop, ↓xE_idxL, ↓sT_s, ↓xE_idxT, ↓xE_dget, ↓xE_din, ↓xE_dnin, ↓xE_dset, ↓xA_nil, ↓xA_cons, ↓xT_te, ↓xT_tb, ↓xT_nt, ↓xT_an, ↓xT_or, ↓xT_yes, ↓xT_lend, ↓xP_no, ↓xP_at, ↓xI_rng1, ↓xI_rng2, ↓xI_u, ↓xI_en, ↓xG_nm, ↓xG_tup, ↓xGs_nil, ↓xGs_cons, ↓sV_d, ↓sV_n, ↓sV_w, ↓rV_d, ↓rV_n, ↓rV_w, ↓rV_o, ↓xS_set, ↓xS_asg, ↓xS_seti, ↓xS_app, ↓xS_newD, ↓xS_dput, ↓xS_drop, ↓xS_ret, ↓xS_retN, ↓xS_iff, ↓xS_for, ↓xS_wh, ↓xS_brk, ↓xS_cont, ↓xS_nx, ↓xS_seq, ↓xS_fz, ↓fzK_l, ↓fzK_d, ↓fzK_n, ↓fzK_D, ↓kS_nx, ↓kS_rt, ↓kS_bk, ↓kS_ct, ↓out1_rt, ↓out2_rt, ↓u_c_l_map, tn, ↓lK_s L]
    simp [mapOf, tupI]
  by_cases q2 : kind = 2
  · subst q2
    by_cases z : nxt N k 3 = 0
    · simp (config := { implicitDefEqProofs := false }) (disch := walk_at "side") only [↓reduceIte, decide_eq_true_eq, decide_true, decide_false, Bool.not_true, Bool.not_false, Bool.false_eq_true, Int.reduceEq, Int.reduceLT, Int.reduceLE, Int.reduceNeg, Int.reduceToNat, ↓okI, ↓okI2, ↓aV_d, ↓aV_o, ↓aV_n, ↓aV_w, ↓dV_d, ↓dV_n, ↓dV_w, ↓gE_0, ↓gE_s, ↓eL_l, ↓eD_l, ↓eV_d, ↓eV_l, ↓nA_d, ↓nA_o, ↓iD_i, ↓bD_b, ↓kD_i, ↓kD_s, ↓zD_d, ↓vZ_d, ↓vZ_n, ↓sR_0, ↓sR_s, ↓sK_n, ↓sK_0, ↓lD_l, ↓sD_l, ↓sD_t, ↓tD_t, ↓dA_nil, ↓dA_d, ↓dN_nil, ↓dN_c, ↓oZ_addI, ↓oZ_addS, ↓oZ_addT, ↓oZ_addL, ↓oZ_sub, ↓oZ_mul, ↓oZ_mulT, ↓oZ_fdiv, ↓oZ_mod, ↓oZ_pow, ↓oZ_eqI, ↓oZ_eqS, ↓oZ_neS, ↓oZ_neI, ↓oZ_lt, ↓oZ_le, ↓oZ_gt, ↓oZ_ge, ↓oZ_ixL, ↓oZ_ixT, ↓aI_0, ↓aI_1, ↓aI_2, ↓nI_0, ↓nI_1, ↓lS_0, ↓lS_s, ↓aI_int, ↓aI_str, ↓aI_row, ↓aI_b2, ↓aI_i1, ↓aI_i2, ↓aI_i3, ↓aI_i4, ↓aI_i5, ↓aI_i6, ↓oZ_abyz, ↓oZ_az, ↓cZ_lenLm, ↓cZ_lenTm, ↓cZ_lenP, ↓oZ_ixP, ↓sD_P, ↓cZ_lstP, ↓cZ_abs, ↓cZ_int, ↓cZ_intB, ↓cZ_tup, ↓cZ_lstL, ↓cZ_lstT, ↓cZ_all, ↓cZ_any, ↓cZ_max2, ↓cZ_min2, ↓cZ_sum, ↓cZ_sorted, ↓xE_int, ↓xE_bl, ↓xE_str, ↓xE_non, ↓xE_var, ↓xE_op, ↓xE_neg, ↓xE_nt, ↓xE_an, ↓xE_or, ↓xE_ch, ↓xE_isN, ↓xE_notN, ↓xE_ife, ↓xE_tup, ↓xE_lst, ↓xE_sl, ↓sl1_T, ↓sl1_L, ↓xE_cb, ↓xE_isa, ↓xE_call, ↓xE_callS, ↓xE_lc, ↓sN_0, ↓sN_s, ↓xE_lrg, ↓xE_trg, ↓xE_pop, ↓xE_idxL, ↓sT_s, ↓xE_idxT, ↓xE_dget, ↓xE_din, ↓xE_dnin, ↓xE_dset, ↓xA_nil, ↓xA_cons, ↓xT_te, ↓xT_tb, ↓xT_nt, ↓xT_an, ↓xT_or, ↓xT_yes, ↓xT_lend, ↓xP_no, ↓xP_at, ↓xI_rng1, ↓xI_rng2, ↓xI_u, ↓xI_en, ↓xG_nm, ↓xG_tup, ↓xGs_nil, ↓xGs_cons, ↓sV_d, ↓sV_n, ↓sV_w, ↓rV_d, ↓rV_n, ↓rV_w, ↓rV_o, ↓xS_set, ↓xS_asg, ↓xS_seti, ↓xS_app, ↓xS_newD, ↓xS_dput, ↓xS_drop, ↓xS_ret, ↓xS_retN, ↓xS_iff, ↓xS_for, ↓xS_wh, ↓xS_brk, ↓xS_cont, ↓xS_nx, ↓xS_seq, ↓xS_fz, ↓fzK_l, ↓fzK_d, ↓fzK_n, ↓fzK_D, ↓kS_nx, ↓kS_rt, ↓kS_bk, ↓kS_ct, ↓out1_rt, ↓out2_rt, ↓u_c_l_map, tn, ↓nextK, ↓oZ_rep1, z]
      simp only [mapOf, tupI, z, show ((2 : Int) = 0) = False by simp, show ((2 : Int) = 1) = False by simp, if_true, if_false]
      rw [show k + 1 + 1 = k + 2 by omega]
    · have L := pops_lc (e1 := .dat (.int 2)) (e4 := .no) (e6 := .no) (k := k + 1) G (by omega) (by omega) hr
      have eU : rgD 0 rooms = (upTo rooms).map .int := rgD_ints
      rw [← eU] at L
      simp (config := { implicitDefEqProofs := false }) (disch := walk_at "side") only [↓reduceIte, decide_eq_true_eq, decide_true, decide_false, Bool.not_true, Bool.not_false, Bool.false_eq_true, Int.reduceEq, Int.reduceLT, Int.reduceLE, Int.reduceNeg, Int.reduceToNat, ↓okI, ↓okI2, ↓aV_d, ↓aV_o, ↓aV_n, ↓aV_w, ↓dV_d, ↓dV_n, ↓dV_w, ↓gE_0, ↓gE_s, ↓eL_l, ↓eD_l, ↓eV_d, ↓eV_l, ↓nA_d, ↓nA_o, ↓iD_i, ↓bD_b, ↓kD_i, ↓kD_s, ↓zD_d, ↓vZ_d, ↓vZ_n, ↓sR_0, ↓sR_s, ↓sK_n, ↓sK_0, ↓lD_l, ↓sD_l, ↓sD_t, ↓tD_t, ↓dA_nil, ↓dA_d, ↓dN_nil, ↓dN_c, ↓oZ_addI, ↓oZ_addS, ↓oZ_addT, ↓oZ_addL, ↓oZ_sub, ↓oZ_mul, ↓oZ_mulT, ↓oZ_fdiv, ↓oZ_mod, ↓oZ_pow, ↓oZ_eqI, ↓oZ_eqS, ↓oZ_neS, ↓oZ_neI, ↓oZ_lt, ↓oZ_le, ↓oZ_gt, ↓oZ_ge, ↓oZ_ixL, ↓oZ_ixT, ↓aI_0, ↓aI_1, ↓aI_2, ↓nI_0, ↓nI_1, ↓lS_0, ↓lS_s, ↓aI_int, ↓aI_str, ↓aI_row, ↓aI_b2, ↓aI_i1, ↓aI_i2, ↓aI_i3, ↓aI_i4, ↓aI_i5, ↓aI_i6, ↓oZ_abyz, ↓oZ_az, ↓cZ_lenLm, ↓cZ_lenTm, ↓cZ_lenP, ↓oZ_ixP, ↓sD_P, ↓cZ_lstP, ↓cZ_abs, ↓cZ_int, ↓cZ_intB, ↓cZ_tup, ↓cZ_lstL, ↓cZ_lstT, ↓cZ_all, ↓cZ_any, ↓cZ_max2, ↓cZ_min2, ↓cZ_sum, ↓cZ_sorted, ↓xE_int, ↓xE_bl, ↓xE_str, ↓xE_non, ↓xE_var, ↓xE_op, ↓xE_neg, ↓xE_nt, ↓xE_an, ↓xE_or, ↓xE_ch, ↓xE_isN, ↓xE_notN, ↓xE_ife, ↓xE_tup, ↓xE_lst, ↓xE_sl, ↓sl1_T, ↓sl1_L, ↓xE_cb, ↓xE_isa, ↓xE_call, ↓xE_callS, ↓xE_lc, ↓sN_0, ↓sN_s, ↓xE_lrg, ↓xE_trg, ↓xE_pop, ↓xE_idxL, ↓sT_s, ↓xE_idxT, ↓xE_dget, ↓xE_din, ↓xE_dnin, ↓xE_dset, ↓xA_nil, ↓xA_cons, ↓xT_te, ↓xT_tb, ↓xT_nt, ↓xT_an, ↓xT_or, ↓xT_yes, ↓xT_lend, ↓xP_no, ↓xP_at, ↓xI_rng1, ↓xI_rng2, ↓xI_u, ↓xI_en, ↓xG_nm, ↓xG_tup, ↓xGs_nil, ↓xGs_cons, ↓sV_d, ↓sV_n, ↓sV_w, ↓rV_d, ↓rV_n, ↓rV_w, ↓rV_o, ↓xS_set, ↓xS_asg, ↓xS_seti, ↓xS_app, ↓xS_newD, ↓xS_dput, ↓xS_drop, ↓xS_ret, ↓xS_retN, ↓xS_iff, ↓xS_for, ↓xS_wh, ↓xS_brk, ↓xS_cont, ↓xS_nx, ↓xS_seq, ↓xS_fz, ↓fzK_l, ↓fzK_d, ↓fzK_n, ↓fzK_D, ↓kS_nx, ↓kS_rt, ↓kS_bk, ↓kS_ct, ↓out1_rt, ↓out2_rt, ↓u_c_l_map, tn, ↓nextK, z, ↓lK_s L]
      simp only [mapOf, tupI, z, show ((2 : Int) = 0) = False by simp, show ((2 : Int) = 1) = False by simp, if_true, if_false]
  by_cases q3 : kind = 3
  · subst q3
    have hm : ((rooms - 1 : Nat) : Int) = (rooms : Int) - 1 := by omega
    obtain ⟨e, L⟩ := found_loop (e1 := .dat (.int 3)) (e6 := .no) (m := rooms - 1) G h0 (by omega) hr hm
    have eU : rgD 0 (rooms - 1) = (upTo (rooms - 1)).map .int := rgD_ints
    have tm : ((rooms : Int) - 1).toNat = rooms - 1 := by omega
    have hz : ((found3 N k (rooms - 1) (rooms - 1)).map PyData.int).length + [PyData.int ((rooms : Int) - 1)].length ≤ sizeLine := by
      unfold found3; rw [List.length_map, List.length_map, List.length_range, List.length_singleton, sizeLine_eq]; omega
    rw [← eU] at L
    simp (config := { implicitDefEqProofs := false }) (disch := walk_at "side") only [↓reduceIte, decide_eq_true_eq, decide_true, decide_false, Bool.not_true, Bool.not_false, Bool.false_eq_true, Int.reduceEq, Int.reduceLT, Int.reduceLE, Int.reduceNeg, Int.reduceToNat, ↓okI, ↓okI2, ↓aV_d, ↓aV_o, ↓aV_n, ↓aV_w, ↓dV_d, ↓dV_n, ↓dV_w, ↓gE_0, ↓gE_s, ↓eL_l, ↓eD_l, ↓eV_d, ↓eV_l, ↓nA_d, ↓nA_o, ↓iD_i, ↓bD_b, ↓kD_i, ↓kD_s, ↓zD_d, ↓vZ_d, ↓vZ_n, ↓sR_0, ↓sR_s, ↓sK_n, ↓sK_0, ↓lD_l, ↓sD_l, ↓sD_t, ↓tD_t, ↓dA_nil, ↓dA_d, ↓dN_nil, ↓dN_c, ↓oZ_addI, ↓oZ_addS, ↓oZ_addT, ↓oZ_addL, ↓oZ_sub, ↓oZ_mul, ↓oZ_mulT, ↓oZ_fdiv, ↓oZ_mod, ↓oZ_pow, ↓oZ_eqI, ↓oZ_eqS, ↓oZ_neS, ↓oZ_neI, ↓oZ_lt, ↓oZ_le, ↓oZ_gt, ↓oZ_ge, ↓oZ_ixL, ↓oZ_ixT, ↓aI_0, ↓aI_1, ↓aI_2, ↓nI_0, ↓nI_1, ↓lS_0, ↓lS_s, ↓aI_int, ↓aI_str, ↓aI_row, ↓aI_b2, ↓aI_i1, ↓aI_i2, ↓aI_i3, ↓aI_i4, ↓aI_i5, ↓aI_i6, ↓oZ_abyz, ↓oZ_az, ↓cZ_lenLm, ↓cZ_lenTm, ↓cZ_lenP, ↓oZ_ixP, ↓sD_P, ↓cZ_lstP, ↓cZ_abs, ↓cZ_int, ↓cZ_intB, ↓cZ_tup, ↓cZ_lstL, ↓cZ_lstT, ↓cZ_all, ↓cZ_any, ↓cZ_max2, ↓cZ_min2, ↓cZ_sum, ↓cZ_sorted, ↓xE_int, ↓xE_bl, ↓xE_str, ↓xE_non, ↓xE_var, ↓xE_op, ↓xE_neg, ↓xE_nt, ↓xE_an, ↓xE_or, ↓xE_ch, ↓xE_isN, ↓xE_notN, ↓xE_ife, ↓xE_tup, ↓xE_lst, ↓xE_sl, ↓sl1_T, ↓sl1_L, ↓xE_cb, ↓xE_isa, ↓xE_call, ↓xE_callS, ↓xE_lc, ↓sN_0, ↓sN_s, ↓xE_lrg, ↓xE_trg, ↓xE_pop, ↓xE_idxL, ↓sT_s, ↓xE_idxT, ↓xE_dget, ↓xE_din, ↓xE_dnin, ↓xE_dset, ↓xA_nil, ↓xA_cons, ↓xT_te, ↓xT_tb, ↓xT_nt, ↓xT_an, ↓xT_or, ↓xT_yes, ↓xT_lend, ↓xP_no, ↓xP_at, ↓xI_rng1, ↓xI_rng2, ↓xI_u, ↓xI_en, ↓xG_nm, ↓xG_tup, ↓xGs_nil, ↓xGs_cons, ↓sV_d, ↓sV_n, ↓sV_w, ↓rV_d, ↓rV_n, ↓rV_w, ↓rV_o, ↓xS_set, ↓xS_asg, ↓xS_seti, ↓xS_app, ↓xS_newD, ↓xS_dput, ↓xS_drop, ↓xS_ret, ↓xS_retN, ↓xS_iff, ↓xS_for, ↓xS_wh, ↓xS_brk, ↓xS_cont, ↓xS_nx, ↓xS_seq, ↓xS_fz, ↓fzK_l, ↓fzK_d, ↓fzK_n, ↓fzK_D, ↓kS_nx, ↓kS_rt, ↓kS_bk, ↓kS_ct, ↓out1_rt, ↓out2_rt, ↓u_c_l_map, tn, tm, ↓nextK, ↓fK_s L]
    have e3 : mapOf N k 3 rooms = (found3 N k (rooms - 1) (rooms - 1) ++ [((rooms - 1 : Nat) : Int)], k + 2 * ((rooms - 1 : Nat) : Int)) := rfl
    rw [e3, hm]
    simp only [tupI, List.map_append, List.map_cons, List.map_nil]
  · have L := rooms_lc (e1 := .dat (.int kind)) (e3 := .no) (e4 := .no) (e5 := .no) G h0 (by omega) hr
    simp (config := { implicitDefEqProofs := false }) (disch := walk_at "side") only [↓reduceIte, decide_eq_true_eq, decide_true, decide_false, Bool.not_true, Bool.not_false, Bool.false_eq_true, Int.reduceEq, Int.reduceLT, Int.reduceLE, Int.reduceNeg, Int.reduceToNat, ↓okI, ↓okI2, ↓aV_d, ↓aV_o, ↓aV_n, ↓aV_w, ↓dV_d, ↓dV_n, ↓dV_w, ↓gE_0, ↓gE_s, ↓eL_l, ↓eD_l, ↓eV_d, ↓eV_l, ↓nA_d, ↓nA_o, ↓iD_i, ↓bD_b, ↓kD_i, ↓kD_s, ↓zD_d, ↓vZ_d, ↓vZ_n, ↓sR_0, ↓sR_s, ↓sK_n, ↓sK_0, ↓lD_l, ↓sD_l, ↓sD_t, ↓tD_t, ↓dA_nil, ↓dA_d, ↓dN_nil, ↓dN_c, ↓oZ_addI, ↓oZ_addS, ↓oZ_addT, ↓oZ_addL, ↓oZ_sub, ↓oZ_mul, ↓oZ_mulT, ↓oZ_fdiv, ↓oZ_mod, ↓oZ_pow, ↓oZ_eqI, ↓oZ_eqS, ↓oZ_neS, ↓oZ_neI, ↓oZ_lt, ↓oZ_le, ↓oZ_gt, ↓oZ_ge, ↓oZ_ixL, ↓oZ_ixT, ↓aI_0, ↓aI_1, ↓aI_2, ↓nI_0, ↓nI_1, ↓lS_0, ↓lS_s, ↓aI_int, ↓aI_str, ↓aI_row, ↓aI_b2, ↓aI_i1, ↓aI_i2, ↓aI_i3, ↓aI_i4, ↓aI_i5, ↓aI_i6, ↓oZ_abyz, ↓oZ_az, ↓cZ_lenLm, ↓cZ_lenTm, ↓cZ_lenP, ↓oZ_ixP, ↓sD_P, ↓cZ_lstP, ↓cZ_abs, ↓cZ_int, ↓cZ_intB, ↓cZ_tup, ↓cZ_lstL, ↓cZ_lstT, ↓cZ_all, ↓cZ_any, ↓cZ_max2, ↓cZ_min2, ↓cZ_sum, ↓cZ_sorted, ↓xE_int, ↓xE_bl, ↓xE_str, ↓xE_non, ↓xE_var, ↓xE_op, ↓xE_neg, ↓xE_nt, ↓xE_an, ↓xE_or, ↓xE_ch, ↓xE_isN, ↓xE_notN, ↓xE_ife, ↓xE_tup, ↓xE_lst, ↓xE_sl, ↓sl1_T, ↓sl1_L, ↓xE_cb, ↓xE_isa, ↓xE_call, ↓xE_callS, ↓xE_lc, ↓sN_0, ↓sN_s, ↓xE_lrg, ↓xE_trg, ↓xE_pop, ↓xE_idxL, ↓sT_s, ↓xE_idxT, ↓xE_dget, ↓xE_din, ↓xE_dnin, ↓xE_dset, ↓xA_nil, ↓xA_cons, ↓xT_te, ↓xT_tb, ↓xT_nt, ↓xT_an, ↓xT_or, ↓xT_yes, ↓xT_lend, ↓xP_no, ↓xP_at, ↓xI_rng1, ↓xI_rng2, ↓xI_u, ↓xI_en, ↓xG_nm, ↓xG_tup, ↓xGs_nil, ↓xGs_cons, ↓sV_d, ↓sV_n, ↓sV_w, ↓rV_d, ↓rV_n, ↓rV_w, ↓rV_o, ↓xS_set, ↓xS_asg, ↓xS_seti, ↓xS_app, ↓xS_newD, ↓xS_dput, ↓xS_drop, ↓xS_ret, ↓xS_retN, ↓xS_iff, ↓xS_for, ↓xS_wh, ↓xS_brk, ↓xS_cont, ↓xS_nx, ↓xS_seq, ↓xS_fz, ↓fzK_l, ↓fzK_d, ↓fzK_n, ↓fzK_D, ↓kS_nx, ↓kS_rt, ↓kS_bk, ↓kS_ct, ↓out1_rt, ↓out2_rt, ↓u_c_l_map, tn, ↓nextK, q0, q1, q2, q3, ↓lK_s L]
    simp only [mapOf, q0, q1, q2, q3, if_false, tupI]
theorem mapK {β : Type} {N : List Int} {k kind : Int} {rooms : Nat} {kv : Vl → List D → Option β} (G : Good N) (h0 : 0 ≤ k) (h1 : k + 20 ≤ KMax) (hr : 1 ≤ rooms ∧ rooms ≤ 5) (h2 : kind = 2 → 2 ≤ rooms) : cKS f_l_map (stAt N k) [.int kind, .int (rooms : Nat)] kv = kv (.d (tupI (mapOf N k kind rooms).1)) (stAt N (mapOf N k kind rooms).2) := cKS_s (map_eq G h0 h1 hr h2)
theorem maps_eq {N : List Int} {k most : Int} (G : Good N) (h0 : 0 ≤ k) (h1 : k + 200 ≤ KMax) (hm : 1 ≤ most ∧ most ≤ 8) : f_l_maps (stAt N k) [.int most] = some (.new (.lst ((mapsOf N k most).1.map tupI)), stAt N (mapsOf N k most).2) := by
  have hK : KMax = 1000000000 := rfl
  obtain ⟨r1, r2, r3, r4⟩ := rooms_ix N k
  have m0 := nxt_lo (N := N) (k := k + 6) (many := most) (by omega)
  have m1 := nxt_hi (N := N) (k := k + 6) (many := most) (by omega)
  let n := (1 + nxt N (k + 6) most).toNat
  have L : lcGo (ltn [0] 4 .yes e_l_maps_1) (rgD 0 (1 + nxt N (k + 6) most).toNat) [.own (.lst (stAt N (k + 6 + 1))), .dat (.int most), .dat (.int (nxt N k 5)), .dat (.int (roomsOf N k : Nat)), .no] = some ((mapsOf N k most).1.map tupI, [.own (.lst (stAt N (mapsOf N k most).2)), .dat (.int most), .dat (.int (nxt N k 5)), .dat (.int (roomsOf N k : Nat)), .no]) := by
    have := lc_inv0 (f := ltn [0] 4 .yes e_l_maps_1) (fun i => [.own (.lst (stAt N (mapsFrom N (nxt N k 5) (roomsOf N k) (k + 7) i).2)), .dat (.int most), .dat (.int (nxt N k 5)), .dat (.int (roomsOf N k : Nat)), .no]) (fun i => tupI (mapOf N (mapsFrom N (nxt N k 5) (roomsOf N k) (k + 7) i).2 (nxt N k 5) (roomsOf N k)).1) (l := rgD 0 (1 + nxt N (k + 6) most).toNat)
      (ρ := [.own (.lst (stAt N (k + 6 + 1))), .dat (.int most), .dat (.int (nxt N k 5)), .dat (.int (roomsOf N k : Nat)), .no]) (ρ' := [.own (.lst (stAt N (mapsOf N k most).2)), .dat (.int most), .dat (.int (nxt N k 5)), .dat (.int (roomsOf N k : Nat)), .no]) (by rw [show k + 6 + 1 = k + 7 by omega]; rfl) (by rw [rgD_len]; rfl) fun i hi => by
        rw [rgD_len] at hi
        rw [rgD_at hi, ltn_x]
        have b := mapsFrom_bnd N (nxt N k 5) (rooms := roomsOf N k) (k + 7) r2 i
        simp (config := { implicitDefEqProofs := false }) (disch := walk_at "side") only [↓reduceIte, decide_eq_true_eq, decide_true, decide_false, Bool.not_true, Bool.not_false, Bool.false_eq_true, Int.reduceEq, Int.reduceLT, Int.reduceLE, Int.reduceNeg, Int.reduceToNat, ↓okI, ↓okI2, ↓aV_d, ↓aV_o, ↓aV_n, ↓aV_w, ↓dV_d, ↓dV_n, ↓dV_w, ↓gE_0, ↓gE_s, ↓eL_l, ↓eD_l, ↓eV_d, ↓eV_l, ↓nA_d, ↓nA_o, ↓iD_i, ↓bD_b, ↓kD_i, ↓kD_s, ↓zD_d, ↓vZ_d, ↓vZ_n, ↓sR_0, ↓sR_s, ↓sK_n, ↓sK_0, ↓lD_l, ↓sD_l, ↓sD_t, ↓tD_t, ↓dA_nil, ↓dA_d, ↓dN_nil, ↓dN_c, ↓oZ_addI, ↓oZ_addS, ↓oZ_addT, ↓oZ_addL, ↓oZ_sub, ↓oZ_mul, ↓oZ_mulT, ↓oZ_fdiv, ↓oZ_mod, ↓oZ_pow, ↓oZ_eqI, ↓oZ_eqS, ↓oZ_neS, ↓oZ_neI, ↓oZ_lt, ↓oZ_le, ↓oZ_gt, ↓oZ_ge, ↓oZ_ixL, ↓oZ_ixT, ↓aI_0, ↓aI_1, ↓aI_2, ↓nI_0, ↓nI_1, ↓lS_0, ↓lS_s, ↓aI_int, ↓aI_str, ↓aI_row, ↓aI_b2, ↓aI_i1, ↓aI_i2, ↓aI_i3, ↓aI_i4, ↓aI_i5, ↓aI_i6, ↓oZ_abyz, ↓oZ_az, ↓cZ_lenLm, ↓cZ_lenTm, ↓cZ_lenP, ↓oZ_ixP, ↓sD_P, ↓cZ_lstP, ↓cZ_abs, ↓cZ_int, ↓cZ_intB, ↓cZ_tup, ↓cZ_lstL, ↓cZ_lstT, ↓cZ_all, ↓cZ_any, ↓cZ_max2, ↓cZ_min2, ↓cZ_sum, ↓cZ_sorted, ↓xE_int, ↓xE_bl, ↓xE_str, ↓xE_non, ↓xE_var, ↓xE_op, ↓xE_neg, ↓xE_nt, ↓xE_an, ↓xE_or, ↓xE_ch, ↓xE_isN, ↓xE_notN, ↓xE_ife, ↓xE_tup, ↓xE_lst, ↓xE_sl, ↓sl1_T, ↓sl1_L, ↓xE_cb, ↓xE_isa, ↓xE_call, ↓xE_callS, ↓xE_lc, ↓sN_0, ↓sN_s, ↓xE_lrg, ↓xE_trg, ↓xE_pop, ↓xE_idxL, ↓sT_s, ↓xE_idxT, ↓xE_dget, ↓xE_din, ↓xE_dnin, ↓xE_dset, ↓xA_nil, ↓xA_cons, ↓xT_te, ↓xT_tb, ↓xT_nt, ↓xT_an, ↓xT_or, ↓xT_yes, ↓xT_lend, ↓xP_no, ↓xP_at, ↓xI_rng1, ↓xI_rng2, ↓xI_u, ↓xI_en, ↓xG_nm, ↓xG_tup, ↓xGs_nil, ↓xGs_cons, ↓sV_d, ↓sV_n, ↓sV_w, ↓rV_d, ↓rV_n, ↓rV_w, ↓rV_o, ↓xS_set, ↓xS_asg, ↓xS_seti, ↓xS_app, ↓xS_newD, ↓xS_dput, ↓xS_drop, ↓xS_ret, ↓xS_retN, ↓xS_iff, ↓xS_for, ↓xS_wh, ↓xS_brk, ↓xS_cont, ↓xS_nx, ↓xS_seq, ↓xS_fz, ↓fzK_l, ↓fzK_d, ↓fzK_n, ↓fzK_D, ↓kS_nx, ↓kS_rt, ↓kS_bk, ↓kS_ct, ↓out1_rt, ↓out2_rt, ↓u_e_l_maps_1, ↓mapK]
        rfl
    rw [this, rgD_len, mapsFrom_list]
    rfl
  have hz : (rgD 0 (1 + nxt N (k + 6) most).toNat).length < sizeLine := by rw [rgD_len, sizeLine_eq]; omega
  rw [x_l_maps]
  simp (config := { implicitDefEqProofs := false }) (disch := walk_at "side") only [↓reduceIte, decide_eq_true_eq, decide_true, decide_false, Bool.not_true, Bool.not_false, Bool.false_eq_true, Int.reduceEq, Int.reduceLT, Int.reduceLE, Int.reduceNeg, Int.reduceToNat, ↓okI, ↓okI2, ↓aV_d, ↓aV_o, ↓aV_n, ↓aV_w, ↓dV_d, ↓dV_n, ↓dV_w, ↓gE_0, ↓gE_s, ↓eL_l, ↓eD_l, ↓eV_d, ↓eV_l, ↓nA_d, ↓nA_o, ↓iD_i, ↓bD_b, ↓kD_i, ↓kD_s, ↓zD_d, ↓vZ_d, ↓vZ_n, ↓sR_0, ↓sR_s, ↓sK_n, ↓sK_0, ↓lD_l, ↓sD_l, ↓sD_t, ↓tD_t, ↓dA_nil, ↓dA_d, ↓dN_nil, ↓dN_c, ↓oZ_addI, ↓oZ_addS, ↓oZ_addT, ↓oZ_addL, ↓oZ_sub, ↓oZ_mul, ↓oZ_mulT, ↓oZ_fdiv, ↓oZ_mod, ↓oZ_pow, ↓oZ_eqI, ↓oZ_eqS, ↓oZ_neS, ↓oZ_neI, ↓oZ_lt, ↓oZ_le, ↓oZ_gt, ↓oZ_ge, ↓oZ_ixL, ↓oZ_ixT, ↓aI_0, ↓aI_1, ↓aI_2, ↓nI_0, ↓nI_1, ↓lS_0, ↓lS_s, ↓aI_int, ↓aI_str, ↓aI_row, ↓aI_b2, ↓aI_i1, ↓aI_i2, ↓aI_i3, ↓aI_i4, ↓aI_i5, ↓aI_i6, ↓oZ_abyz, ↓oZ_az, ↓cZ_lenLm, ↓cZ_lenTm, ↓cZ_lenP, ↓oZ_ixP, ↓sD_P, ↓cZ_lstP, ↓cZ_abs, ↓cZ_int, ↓cZ_intB, ↓cZ_tup, ↓cZ_lstL, ↓cZ_lstT, ↓cZ_all, ↓cZ_any, ↓cZ_max2, ↓cZ_min2, ↓cZ_sum, ↓cZ_sorted, ↓xE_int, ↓xE_bl, ↓xE_str, ↓xE_non, ↓xE_var, ↓xE_op, ↓xE_neg, ↓xE_nt, ↓xE_an, ↓xE_or, ↓xE_ch, ↓xE_isN, ↓xE_notN, ↓xE_ife, ↓xE_tup, ↓xE_lst, ↓xE_sl, ↓sl1_T, ↓sl1_L, ↓xE_cb, ↓xE_isa, ↓xE_call, ↓xE_callS, ↓xE_lc, ↓sN_0, ↓sN_s, ↓xE_lrg, ↓xE_trg, ↓xE_pop, ↓xE_idxL, ↓sT_s, ↓xE_idxT, ↓xE_dget, ↓xE_din, ↓xE_dnin, ↓xE_dset, ↓xA_nil, ↓xA_cons, ↓xT_te, ↓xT_tb, ↓xT_nt, ↓xT_an, ↓xT_or, ↓xT_yes, ↓xT_lend, ↓xP_no, ↓xP_at, ↓xI_rng1, ↓xI_rng2, ↓xI_u, ↓xI_en, ↓xG_nm, ↓xG_tup, ↓xGs_nil, ↓xGs_cons, ↓sV_d, ↓sV_n, ↓sV_w, ↓rV_d, ↓rV_n, ↓rV_w, ↓rV_o, ↓xS_set, ↓xS_asg, ↓xS_seti, ↓xS_app, ↓xS_newD, ↓xS_dput, ↓xS_drop, ↓xS_ret, ↓xS_retN, ↓xS_iff, ↓xS_for, ↓xS_wh, ↓xS_brk, ↓xS_cont, ↓xS_nx, ↓xS_seq, ↓xS_fz, ↓fzK_l, ↓fzK_d, ↓fzK_n, ↓fzK_D, ↓kS_nx, ↓kS_rt, ↓kS_bk, ↓kS_ct, ↓out1_rt, ↓out2_rt, ↓u_c_l_maps, ↓nextK, ↓aI_at r4, show k + 1 + 1 + 1 + 1 + 1 + 1 = k + 6 by omega, ↓lK_s L]

end CS

namespace CS
open PySem PySem.Spec PyProof.Rows L2 DL EV
local macro_rules | `(tactic| walk_at "side") => `(tactic| first | omega | (simp only [List.length_cons, List.length_nil, List.length_map, List.length_append, List.length_range, PySem.sizeLine_eq]; omega) | assumption | (simp; done))
theorem rowsLen {E : List (List Int)} : (E.map tupI).length = E.length := List.length_map _
theorem elements_loop1 {n : Nat} {maps : List (List Int)} {m e4 e5 e3 : Ent} (hm : maps.length ≤ 8) (ho : ∀ x ∈ maps, okMap n x) :
    forGo (trn [] (.nm 3) b_l_elements_5) (maps.map tupI) [.dat (.list (maps.map tupI)), m, .own (.lst []), e3, e4, e5] = some (.nx [.dat (.list (maps.map tupI)), m, .own (.lst ((maps.foldl addI []).map tupI)), lastE tupI maps e3, e4, e5]) ∧ (∀ x ∈ maps.foldl addI [], okMap n x) ∧ (maps.foldl addI []).length ≤ 8 := by
  have := for_foldi (f := trn [] (.nm 3) b_l_elements_5) tupI addI (fun s e => [.dat (.list (maps.map tupI)), m, .own (.lst (s.map tupI)), e, e4, e5]) (fun i s => (∀ x ∈ s, okMap n x) ∧ s.length ≤ i) (xs := maps) (s := []) (e := e3) (by simp) fun i s e x hi hx hp => by
    have ha := add_len (found := s) (x := x)
    obtain ⟨hp1, hp2⟩ := hp
    refine ⟨?_, add_ok hp1 (ho x hx), by omega⟩
    have hz : (s.map tupI).length < sizeLine := by rw [List.length_map, sizeLine_eq]; omega
    have s1 := shT x
    have s2 := shL s
    rw [trn_x]
    by_cases q : x ∈ s
    · simp (config := { implicitDefEqProofs := false }) (disch := walk_at "side") only [↓reduceIte, decide_eq_true_eq, decide_true, decide_false, Bool.not_true, Bool.not_false, Bool.false_eq_true, Int.reduceEq, Int.reduceLT, Int.reduceLE, Int.reduceNeg, Int.reduceToNat, ↓okI, ↓okI2, ↓aV_d, ↓aV_o, ↓aV_n, ↓aV_w, ↓dV_d, ↓dV_n, ↓dV_w, ↓gE_0, ↓gE_s, ↓eL_l, ↓eD_l, ↓eV_d, ↓eV_l, ↓nA_d, ↓nA_o, ↓iD_i, ↓bD_b, ↓kD_i, ↓kD_s, ↓zD_d, ↓vZ_d, ↓vZ_n, ↓sR_0, ↓sR_s, ↓sK_n, ↓sK_0, ↓lD_l, ↓sD_l, ↓sD_t, ↓tD_t, ↓dA_nil, ↓dA_d, ↓dN_nil, ↓dN_c, ↓oZ_addI, ↓oZ_addS, ↓oZ_addT, ↓oZ_addL, ↓oZ_sub, ↓oZ_mul, ↓oZ_mulT, ↓oZ_fdiv, ↓oZ_mod, ↓oZ_pow, ↓oZ_eqI, ↓oZ_eqS, ↓oZ_neS, ↓oZ_neI, ↓oZ_lt, ↓oZ_le, ↓oZ_gt, ↓oZ_ge, ↓oZ_ixL, ↓oZ_ixT, ↓aI_0, ↓aI_1, ↓aI_2, ↓nI_0, ↓nI_1, ↓lS_0, ↓lS_s, ↓aI_int, ↓aI_str, ↓aI_row, ↓aI_b2, ↓aI_i1, ↓aI_i2, ↓aI_i3, ↓aI_i4, ↓aI_i5, ↓aI_i6, ↓oZ_abyz, ↓oZ_az, ↓cZ_lenLm, ↓cZ_lenTm, ↓cZ_lenP, ↓oZ_ixP, ↓sD_P, ↓cZ_lstP, ↓cZ_abs, ↓cZ_int, ↓cZ_intB, ↓cZ_tup, ↓cZ_lstL, ↓cZ_lstT, ↓cZ_all, ↓cZ_any, ↓cZ_max2, ↓cZ_min2, ↓cZ_sum, ↓cZ_sorted, ↓xE_int, ↓xE_bl, ↓xE_str, ↓xE_non, ↓xE_var, ↓xE_op, ↓xE_neg, ↓xE_nt, ↓xE_an, ↓xE_or, ↓xE_ch, ↓xE_isN, ↓xE_notN, ↓xE_ife, ↓xE_tup, ↓xE_lst, ↓xE_sl, ↓sl1_T, ↓sl1_L, ↓xE_cb, ↓xE_isa, ↓xE_call, ↓xE_callS, ↓xE_lc, ↓sN_0, ↓sN_s, ↓xE_lrg, ↓xE_trg, ↓xE_pop, ↓xE_idxL, ↓sT_s, ↓xE_idxT, ↓xE_dget, ↓xE_din, ↓xE_dnin, ↓xE_dset, ↓xA_nil, ↓xA_cons, ↓xT_te, ↓xT_tb, ↓xT_nt, ↓xT_an, ↓xT_or, ↓xT_yes, ↓xT_lend, ↓xP_no, ↓xP_at, ↓xI_rng1, ↓xI_rng2, ↓xI_u, ↓xI_en, ↓xG_nm, ↓xG_tup, ↓xGs_nil, ↓xGs_cons, ↓sV_d, ↓sV_n, ↓sV_w, ↓rV_d, ↓rV_n, ↓rV_w, ↓rV_o, ↓xS_set, ↓xS_asg, ↓xS_seti, ↓xS_app, ↓xS_newD, ↓xS_dput, ↓xS_drop, ↓xS_ret, ↓xS_retN, ↓xS_iff, ↓xS_for, ↓xS_wh, ↓xS_brk, ↓xS_cont, ↓xS_nx, ↓xS_seq, ↓xS_fz, ↓fzK_l, ↓fzK_d, ↓fzK_n, ↓fzK_D, ↓kS_nx, ↓kS_rt, ↓kS_bk, ↓kS_ct, ↓out1_rt, ↓out2_rt, ↓u_b_l_elements_5, ↓oZ_ninL, inD_rows, q]
      simp [addI, q]
    · simp (config := { implicitDefEqProofs := false }) (disch := walk_at "side") only [↓reduceIte, decide_eq_true_eq, decide_true, decide_false, Bool.not_true, Bool.not_false, Bool.false_eq_true, Int.reduceEq, Int.reduceLT, Int.reduceLE, Int.reduceNeg, Int.reduceToNat, ↓okI, ↓okI2, ↓aV_d, ↓aV_o, ↓aV_n, ↓aV_w, ↓dV_d, ↓dV_n, ↓dV_w, ↓gE_0, ↓gE_s, ↓eL_l, ↓eD_l, ↓eV_d, ↓eV_l, ↓nA_d, ↓nA_o, ↓iD_i, ↓bD_b, ↓kD_i, ↓kD_s, ↓zD_d, ↓vZ_d, ↓vZ_n, ↓sR_0, ↓sR_s, ↓sK_n, ↓sK_0, ↓lD_l, ↓sD_l, ↓sD_t, ↓tD_t, ↓dA_nil, ↓dA_d, ↓dN_nil, ↓dN_c, ↓oZ_addI, ↓oZ_addS, ↓oZ_addT, ↓oZ_addL, ↓oZ_sub, ↓oZ_mul, ↓oZ_mulT, ↓oZ_fdiv, ↓oZ_mod, ↓oZ_pow, ↓oZ_eqI, ↓oZ_eqS, ↓oZ_neS, ↓oZ_neI, ↓oZ_lt, ↓oZ_le, ↓oZ_gt, ↓oZ_ge, ↓oZ_ixL, ↓oZ_ixT, ↓aI_0, ↓aI_1, ↓aI_2, ↓nI_0, ↓nI_1, ↓lS_0, ↓lS_s, ↓aI_int, ↓aI_str, ↓aI_row, ↓aI_b2, ↓aI_i1, ↓aI_i2, ↓aI_i3, ↓aI_i4, ↓aI_i5, ↓aI_i6, ↓oZ_abyz, ↓oZ_az, ↓cZ_lenLm, ↓cZ_lenTm, ↓cZ_lenP, ↓oZ_ixP, ↓sD_P, ↓cZ_lstP, ↓cZ_abs, ↓cZ_int, ↓cZ_intB, ↓cZ_tup, ↓cZ_lstL, ↓cZ_lstT, ↓cZ_all, ↓cZ_any, ↓cZ_max2, ↓cZ_min2, ↓cZ_sum, ↓cZ_sorted, ↓xE_int, ↓xE_bl, ↓xE_str, ↓xE_non, ↓xE_var, ↓xE_op, ↓xE_neg, ↓xE_nt, ↓xE_an, ↓xE_or, ↓xE_ch, ↓xE_isN, ↓xE_notN, ↓xE_ife, ↓xE_tup, ↓xE_lst, ↓xE_sl, ↓sl1_T, ↓sl1_L, ↓xE_cb, ↓xE_isa, ↓xE_call, ↓xE_callS, ↓xE_lc, ↓sN_0, ↓sN_s, ↓xE_lrg, ↓xE_trg, ↓xE_pop, ↓xE_idxL, ↓sT_s, ↓xE_idxT, ↓xE_dget, ↓xE_din, ↓xE_dnin, ↓xE_dset, ↓xA_nil, ↓xA_cons, ↓xT_te, ↓xT_tb, ↓xT_nt, ↓xT_an, ↓xT_or, ↓xT_yes, ↓xT_lend, ↓xP_no, ↓xP_at, ↓xI_rng1, ↓xI_rng2, ↓xI_u, ↓xI_en, ↓xG_nm, ↓xG_tup, ↓xGs_nil, ↓xGs_cons, ↓sV_d, ↓sV_n, ↓sV_w, ↓rV_d, ↓rV_n, ↓rV_w, ↓rV_o, ↓xS_set, ↓xS_asg, ↓xS_seti, ↓xS_app, ↓xS_newD, ↓xS_dput, ↓xS_drop, ↓xS_ret, ↓xS_retN, ↓xS_iff, ↓xS_for, ↓xS_wh, ↓xS_brk, ↓xS_cont, ↓xS_nx, ↓xS_seq, ↓xS_fz, ↓fzK_l, ↓fzK_d, ↓fzK_n, ↓fzK_D, ↓kS_nx, ↓kS_rt, ↓kS_bk, ↓kS_ct, ↓out1_rt, ↓out2_rt, ↓u_b_l_elements_5, ↓oZ_ninL, inD_rows, q]
      simp [addI, q]
  exact ⟨this.1, this.2.1, by have := this.2.2; omega⟩
theorem elements_inner {n i most : Nat} {maps found : List (List Int)} {e3 e5 : Ent} (hn : n ≤ 1000) (hm : maps.length ≤ 8) (ho : ∀ x ∈ maps, okMap n x) (hf : ∀ x ∈ found, okMap n x) (hl : found.length ≤ 50) (hmost : most ≤ 40) :
    forGo (trn [] (.nm 5) b_l_elements_1) (maps.map tupI) [.dat (.list (maps.map tupI)), .dat (.int (most : Nat)), .own (.lst (found.map tupI)), e3, .dat (.int (i : Nat)), e5] = some (.nx [.dat (.list (maps.map tupI)), .dat (.int (most : Nat)), .own (.lst ((maps.foldl (fun found other => stepI most found i other) found).map tupI)), e3, .dat (.int (i : Nat)), lastE tupI maps e5]) ∧ (∀ x ∈ maps.foldl (fun found other => stepI most found i other) found, okMap n x) ∧ (maps.foldl (fun found other => stepI most found i other) found).length ≤ 50 := by
  refine for_fold (f := trn [] (.nm 5) b_l_elements_1) tupI (fun found other => stepI most found i other) (fun s e => [.dat (.list (maps.map tupI)), .dat (.int (most : Nat)), .own (.lst (s.map tupI)), e3, .dat (.int (i : Nat)), e]) (fun s => (∀ x ∈ s, okMap n x) ∧ s.length ≤ 50) ⟨hf, hl⟩ fun s e x hx hp => ?_
  obtain ⟨hp1, hp2⟩ := hp
  have sl := step_len (most := most) (at1 := i) (found := s) (other := x)
  refine ⟨?_, step_ok hp1 (ho x hx), by omega⟩
  have hz : (s.map tupI).length < sizeLine := by rw [List.length_map, sizeLine_eq]; omega
  have s2 := shL s
  rw [trn_x]
  by_cases q1 : i < s.length
  · have q1' : (i : Int) < (s.length : Int) := by omega
    have ok1 : okMap n (s.getD i []) := hp1 _ (by rw [List.getD_eq_getElem?_getD, List.getElem?_eq_getElem q1]; exact List.getElem_mem q1)
    have ok2 := ho x hx
    have c1 : (s.getD i []).length ≤ 1000 := by rw [ok1.1]; exact hn
    have c2 : ∀ j ∈ s.getD i [], 0 ≤ j ∧ j < (x.length : Int) := by rw [ok2.1]; exact ok1.2
    by_cases q2 : s.length ≤ most
    · have q2' : (s.length : Int) ≤ (most : Int) := by omega
      have s1 := shT (thenI (s.getD i []) x)
      by_cases q3 : thenI (s.getD i []) x ∈ s
      · simp (config := { implicitDefEqProofs := false }) (disch := walk_at "side") only [↓reduceIte, decide_eq_true_eq, decide_true, decide_false, Bool.not_true, Bool.not_false, Bool.false_eq_true, Int.reduceEq, Int.reduceLT, Int.reduceLE, Int.reduceNeg, Int.reduceToNat, ↓okI, ↓okI2, ↓aV_d, ↓aV_o, ↓aV_n, ↓aV_w, ↓dV_d, ↓dV_n, ↓dV_w, ↓gE_0, ↓gE_s, ↓eL_l, ↓eD_l, ↓eV_d, ↓eV_l, ↓nA_d, ↓nA_o, ↓iD_i, ↓bD_b, ↓kD_i, ↓kD_s, ↓zD_d, ↓vZ_d, ↓vZ_n, ↓sR_0, ↓sR_s, ↓sK_n, ↓sK_0, ↓lD_l, ↓sD_l, ↓sD_t, ↓tD_t, ↓dA_nil, ↓dA_d, ↓dN_nil, ↓dN_c, ↓oZ_addI, ↓oZ_addS, ↓oZ_addT, ↓oZ_addL, ↓oZ_sub, ↓oZ_mul, ↓oZ_mulT, ↓oZ_fdiv, ↓oZ_mod, ↓oZ_pow, ↓oZ_eqI, ↓oZ_eqS, ↓oZ_neS, ↓oZ_neI, ↓oZ_lt, ↓oZ_le, ↓oZ_gt, ↓oZ_ge, ↓oZ_ixL, ↓oZ_ixT, ↓aI_0, ↓aI_1, ↓aI_2, ↓nI_0, ↓nI_1, ↓lS_0, ↓lS_s, ↓aI_int, ↓aI_str, ↓aI_row, ↓aI_b2, ↓aI_i1, ↓aI_i2, ↓aI_i3, ↓aI_i4, ↓aI_i5, ↓aI_i6, ↓oZ_abyz, ↓oZ_az, ↓cZ_lenLm, ↓cZ_lenTm, ↓cZ_lenP, ↓oZ_ixP, ↓sD_P, ↓cZ_lstP, ↓cZ_abs, ↓cZ_int, ↓cZ_intB, ↓cZ_tup, ↓cZ_lstL, ↓cZ_lstT, ↓cZ_all, ↓cZ_any, ↓cZ_max2, ↓cZ_min2, ↓cZ_sum, ↓cZ_sorted, ↓xE_int, ↓xE_bl, ↓xE_str, ↓xE_non, ↓xE_var, ↓xE_op, ↓xE_neg, ↓xE_nt, ↓xE_an, ↓xE_or, ↓xE_ch, ↓xE_isN, ↓xE_notN, ↓xE_ife, ↓xE_tup, ↓xE_lst, ↓xE_sl, ↓sl1_T, ↓sl1_L, ↓xE_cb, ↓xE_isa, ↓xE_call, ↓xE_callS, ↓xE_lc, ↓sN_0, ↓sN_s, ↓xE_lrg, ↓xE_trg, ↓xE_pop, ↓xE_idxL, ↓sT_s, ↓xE_idxT, ↓xE_dget, ↓xE_din, ↓xE_dnin, ↓xE_dset, ↓xA_nil, ↓xA_cons, ↓xT_te, ↓xT_tb, ↓xT_nt, ↓xT_an, ↓xT_or, ↓xT_yes, ↓xT_lend, ↓xP_no, ↓xP_at, ↓xI_rng1, ↓xI_rng2, ↓xI_u, ↓xI_en, ↓xG_nm, ↓xG_tup, ↓xGs_nil, ↓xGs_cons, ↓sV_d, ↓sV_n, ↓sV_w, ↓rV_d, ↓rV_n, ↓rV_w, ↓rV_o, ↓xS_set, ↓xS_asg, ↓xS_seti, ↓xS_app, ↓xS_newD, ↓xS_dput, ↓xS_drop, ↓xS_ret, ↓xS_retN, ↓xS_iff, ↓xS_for, ↓xS_wh, ↓xS_brk, ↓xS_cont, ↓xS_nx, ↓xS_seq, ↓xS_fz, ↓fzK_l, ↓fzK_d, ↓fzK_n, ↓fzK_D, ↓kS_nx, ↓kS_rt, ↓kS_bk, ↓kS_ct, ↓out1_rt, ↓out2_rt, ↓u_b_l_elements_1, ↓sameK, ↓oZ_ninL, inD_rows, q1', q2', Int.toNat_natCast, q3]
        unfold stepI
        rw [if_neg fun h => h.2.2 q3]
      · simp (config := { implicitDefEqProofs := false }) (disch := walk_at "side") only [↓reduceIte, decide_eq_true_eq, decide_true, decide_false, Bool.not_true, Bool.not_false, Bool.false_eq_true, Int.reduceEq, Int.reduceLT, Int.reduceLE, Int.reduceNeg, Int.reduceToNat, ↓okI, ↓okI2, ↓aV_d, ↓aV_o, ↓aV_n, ↓aV_w, ↓dV_d, ↓dV_n, ↓dV_w, ↓gE_0, ↓gE_s, ↓eL_l, ↓eD_l, ↓eV_d, ↓eV_l, ↓nA_d, ↓nA_o, ↓iD_i, ↓bD_b, ↓kD_i, ↓kD_s, ↓zD_d, ↓vZ_d, ↓vZ_n, ↓sR_0, ↓sR_s, ↓sK_n, ↓sK_0, ↓lD_l, ↓sD_l, ↓sD_t, ↓tD_t, ↓dA_nil, ↓dA_d, ↓dN_nil, ↓dN_c, ↓oZ_addI, ↓oZ_addS, ↓oZ_addT, ↓oZ_addL, ↓oZ_sub, ↓oZ_mul, ↓oZ_mulT, ↓oZ_fdiv, ↓oZ_mod, ↓oZ_pow, ↓oZ_eqI, ↓oZ_eqS, ↓oZ_neS, ↓oZ_neI, ↓oZ_lt, ↓oZ_le, ↓oZ_gt, ↓oZ_ge, ↓oZ_ixL, ↓oZ_ixT, ↓aI_0, ↓aI_1, ↓aI_2, ↓nI_0, ↓nI_1, ↓lS_0, ↓lS_s, ↓aI_int, ↓aI_str, ↓aI_row, ↓aI_b2, ↓aI_i1, ↓aI_i2, ↓aI_i3, ↓aI_i4, ↓aI_i5, ↓aI_i6, ↓oZ_abyz, ↓oZ_az, ↓cZ_lenLm, ↓cZ_lenTm, ↓cZ_lenP, ↓oZ_ixP, ↓sD_P, ↓cZ_lstP, ↓cZ_abs, ↓cZ_int, ↓cZ_intB, ↓cZ_tup, ↓cZ_lstL, ↓cZ_lstT, ↓cZ_all, ↓cZ_any, ↓cZ_max2, ↓cZ_min2, ↓cZ_sum, ↓cZ_sorted, ↓xE_int, ↓xE_bl, ↓xE_str, ↓xE_non, ↓xE_var, ↓xE_op, ↓xE_neg, ↓xE_nt, ↓xE_an, ↓xE_or, ↓xE_ch, ↓xE_isN, ↓xE_notN, ↓xE_ife, ↓xE_tup, ↓xE_lst, ↓xE_sl, ↓sl1_T, ↓sl1_L, ↓xE_cb, ↓xE_isa, ↓xE_call, ↓xE_callS, ↓xE_lc, ↓sN_0, ↓sN_s, ↓xE_lrg, ↓xE_trg, ↓xE_pop, ↓xE_idxL, ↓sT_s, ↓xE_idxT, ↓xE_dget, ↓xE_din, ↓xE_dnin, ↓xE_dset, ↓xA_nil, ↓xA_cons, ↓xT_te, ↓xT_tb, ↓xT_nt, ↓xT_an, ↓xT_or, ↓xT_yes, ↓xT_lend, ↓xP_no, ↓xP_at, ↓xI_rng1, ↓xI_rng2, ↓xI_u, ↓xI_en, ↓xG_nm, ↓xG_tup, ↓xGs_nil, ↓xGs_cons, ↓sV_d, ↓sV_n, ↓sV_w, ↓rV_d, ↓rV_n, ↓rV_w, ↓rV_o, ↓xS_set, ↓xS_asg, ↓xS_seti, ↓xS_app, ↓xS_newD, ↓xS_dput, ↓xS_drop, ↓xS_ret, ↓xS_retN, ↓xS_iff, ↓xS_for, ↓xS_wh, ↓xS_brk, ↓xS_cont, ↓xS_nx, ↓xS_seq, ↓xS_fz, ↓fzK_l, ↓fzK_d, ↓fzK_n, ↓fzK_D, ↓kS_nx, ↓kS_rt, ↓kS_bk, ↓kS_ct, ↓out1_rt, ↓out2_rt, ↓u_b_l_elements_1, ↓sameK, ↓oZ_ninL, inD_rows, q1', q2', Int.toNat_natCast, q3]
        unfold stepI
        rw [if_pos ⟨q1, q2, q3⟩, List.map_append]
        rfl
    · have q2' : ¬ (s.length : Int) ≤ (most : Int) := by omega
      simp (config := { implicitDefEqProofs := false }) (disch := walk_at "side") only [↓reduceIte, decide_eq_true_eq, decide_true, decide_false, Bool.not_true, Bool.not_false, Bool.false_eq_true, Int.reduceEq, Int.reduceLT, Int.reduceLE, Int.reduceNeg, Int.reduceToNat, ↓okI, ↓okI2, ↓aV_d, ↓aV_o, ↓aV_n, ↓aV_w, ↓dV_d, ↓dV_n, ↓dV_w, ↓gE_0, ↓gE_s, ↓eL_l, ↓eD_l, ↓eV_d, ↓eV_l, ↓nA_d, ↓nA_o, ↓iD_i, ↓bD_b, ↓kD_i, ↓kD_s, ↓zD_d, ↓vZ_d, ↓vZ_n, ↓sR_0, ↓sR_s, ↓sK_n, ↓sK_0, ↓lD_l, ↓sD_l, ↓sD_t, ↓tD_t, ↓dA_nil, ↓dA_d, ↓dN_nil, ↓dN_c, ↓oZ_addI, ↓oZ_addS, ↓oZ_addT, ↓oZ_addL, ↓oZ_sub, ↓oZ_mul, ↓oZ_mulT, ↓oZ_fdiv, ↓oZ_mod, ↓oZ_pow, ↓oZ_eqI, ↓oZ_eqS, ↓oZ_neS, ↓oZ_neI, ↓oZ_lt, ↓oZ_le, ↓oZ_gt, ↓oZ_ge, ↓oZ_ixL, ↓oZ_ixT, ↓aI_0, ↓aI_1, ↓aI_2, ↓nI_0, ↓nI_1, ↓lS_0, ↓lS_s, ↓aI_int, ↓aI_str, ↓aI_row, ↓aI_b2, ↓aI_i1, ↓aI_i2, ↓aI_i3, ↓aI_i4, ↓aI_i5, ↓aI_i6, ↓oZ_abyz, ↓oZ_az, ↓cZ_lenLm, ↓cZ_lenTm, ↓cZ_lenP, ↓oZ_ixP, ↓sD_P, ↓cZ_lstP, ↓cZ_abs, ↓cZ_int, ↓cZ_intB, ↓cZ_tup, ↓cZ_lstL, ↓cZ_lstT, ↓cZ_all, ↓cZ_any, ↓cZ_max2, ↓cZ_min2, ↓cZ_sum, ↓cZ_sorted, ↓xE_int, ↓xE_bl, ↓xE_str, ↓xE_non, ↓xE_var, ↓xE_op, ↓xE_neg, ↓xE_nt, ↓xE_an, ↓xE_or, ↓xE_ch, ↓xE_isN, ↓xE_notN, ↓xE_ife, ↓xE_tup, ↓xE_lst, ↓xE_sl, ↓sl1_T, ↓sl1_L, ↓xE_cb, ↓xE_isa, ↓xE_call, ↓xE_callS, ↓xE_lc, ↓sN_0, ↓sN_s, ↓xE_lrg, ↓xE_trg, ↓xE_pop, ↓xE_idxL, ↓sT_s, ↓xE_idxT, ↓xE_dget, ↓xE_din, ↓xE_dnin, ↓xE_dset, ↓xA_nil, ↓xA_cons, ↓xT_te, ↓xT_tb, ↓xT_nt, ↓xT_an, ↓xT_or, ↓xT_yes, ↓xT_lend, ↓xP_no, ↓xP_at, ↓xI_rng1, ↓xI_rng2, ↓xI_u, ↓xI_en, ↓xG_nm, ↓xG_tup, ↓xGs_nil, ↓xGs_cons, ↓sV_d, ↓sV_n, ↓sV_w, ↓rV_d, ↓rV_n, ↓rV_w, ↓rV_o, ↓xS_set, ↓xS_asg, ↓xS_seti, ↓xS_app, ↓xS_newD, ↓xS_dput, ↓xS_drop, ↓xS_ret, ↓xS_retN, ↓xS_iff, ↓xS_for, ↓xS_wh, ↓xS_brk, ↓xS_cont, ↓xS_nx, ↓xS_seq, ↓xS_fz, ↓fzK_l, ↓fzK_d, ↓fzK_n, ↓fzK_D, ↓kS_nx, ↓kS_rt, ↓kS_bk, ↓kS_ct, ↓out1_rt, ↓out2_rt, ↓u_b_l_elements_1, ↓sameK, ↓oZ_ninL, inD_rows, q1', q2']
      simp [stepI, q2]
  · have q1' : ¬ (i : Int) < (s.length : Int) := by omega
    simp (config := { implicitDefEqProofs := false }) (disch := walk_at "side") only [↓reduceIte, decide_eq_true_eq, decide_true, decide_false, Bool.not_true, Bool.not_false, Bool.false_eq_true, Int.reduceEq, Int.reduceLT, Int.reduceLE, Int.reduceNeg, Int.reduceToNat, ↓okI, ↓okI2, ↓aV_d, ↓aV_o, ↓aV_n, ↓aV_w, ↓dV_d, ↓dV_n, ↓dV_w, ↓gE_0, ↓gE_s, ↓eL_l, ↓eD_l, ↓eV_d, ↓eV_l, ↓nA_d, ↓nA_o, ↓iD_i, ↓bD_b, ↓kD_i, ↓kD_s, ↓zD_d, ↓vZ_d, ↓vZ_n, ↓sR_0, ↓sR_s, ↓sK_n, ↓sK_0, ↓lD_l, ↓sD_l, ↓sD_t, ↓tD_t, ↓dA_nil, ↓dA_d, ↓dN_nil, ↓dN_c, ↓oZ_addI, ↓oZ_addS, ↓oZ_addT, ↓oZ_addL, ↓oZ_sub, ↓oZ_mul, ↓oZ_mulT, ↓oZ_fdiv, ↓oZ_mod, ↓oZ_pow, ↓oZ_eqI, ↓oZ_eqS, ↓oZ_neS, ↓oZ_neI, ↓oZ_lt, ↓oZ_le, ↓oZ_gt, ↓oZ_ge, ↓oZ_ixL, ↓oZ_ixT, ↓aI_0, ↓aI_1, ↓aI_2, ↓nI_0, ↓nI_1, ↓lS_0, ↓lS_s, ↓aI_int, ↓aI_str, ↓aI_row, ↓aI_b2, ↓aI_i1, ↓aI_i2, ↓aI_i3, ↓aI_i4, ↓aI_i5, ↓aI_i6, ↓oZ_abyz, ↓oZ_az, ↓cZ_lenLm, ↓cZ_lenTm, ↓cZ_lenP, ↓oZ_ixP, ↓sD_P, ↓cZ_lstP, ↓cZ_abs, ↓cZ_int, ↓cZ_intB, ↓cZ_tup, ↓cZ_lstL, ↓cZ_lstT, ↓cZ_all, ↓cZ_any, ↓cZ_max2, ↓cZ_min2, ↓cZ_sum, ↓cZ_sorted, ↓xE_int, ↓xE_bl, ↓xE_str, ↓xE_non, ↓xE_var, ↓xE_op, ↓xE_neg, ↓xE_nt, ↓xE_an, ↓xE_or, ↓xE_ch, ↓xE_isN, ↓xE_notN, ↓xE_ife, ↓xE_tup, ↓xE_lst, ↓xE_sl, ↓sl1_T, ↓sl1_L, ↓xE_cb, ↓xE_isa, ↓xE_call, ↓xE_callS, ↓xE_lc, ↓sN_0, ↓sN_s, ↓xE_lrg, ↓xE_trg, ↓xE_pop, ↓xE_idxL, ↓sT_s, ↓xE_idxT, ↓xE_dget, ↓xE_din, ↓xE_dnin, ↓xE_dset, ↓xA_nil, ↓xA_cons, ↓xT_te, ↓xT_tb, ↓xT_nt, ↓xT_an, ↓xT_or, ↓xT_yes, ↓xT_lend, ↓xP_no, ↓xP_at, ↓xI_rng1, ↓xI_rng2, ↓xI_u, ↓xI_en, ↓xG_nm, ↓xG_tup, ↓xGs_nil, ↓xGs_cons, ↓sV_d, ↓sV_n, ↓sV_w, ↓rV_d, ↓rV_n, ↓rV_w, ↓rV_o, ↓xS_set, ↓xS_asg, ↓xS_seti, ↓xS_app, ↓xS_newD, ↓xS_dput, ↓xS_drop, ↓xS_ret, ↓xS_retN, ↓xS_iff, ↓xS_for, ↓xS_wh, ↓xS_brk, ↓xS_cont, ↓xS_nx, ↓xS_seq, ↓xS_fz, ↓fzK_l, ↓fzK_d, ↓fzK_n, ↓fzK_D, ↓kS_nx, ↓kS_rt, ↓kS_bk, ↓kS_ct, ↓out1_rt, ↓out2_rt, ↓u_b_l_elements_1, q1']
    simp [stepI, q1]

theorem elements_eq' {n : Nat} {maps : List (List Int)} {most : Nat} (hn : n ≤ 1000) (ho : ∀ x ∈ maps, okMap n x) (hm : maps.length ≤ 8) (hmost : most ≤ 40) : f_l_elements [.list (maps.map tupI), .int (most : Nat)] = some (.new (.lst ((elementsOf maps most).map tupI))) := by
  obtain ⟨L1, f1, f2⟩ := elements_loop1 (m := .dat (.int (most : Nat))) (e3 := .no) (e4 := .no) (e5 := .no) hm ho
  have tn : ((most : Int) + 1).toNat = most + 1 := by omega
  have L2 : ∃ e4 e5, forGo (trn [] (.nm 4) b_l_elements_3) (rgD 0 (most + 1)) [.dat (.list (maps.map tupI)), .dat (.int (most : Nat)), .own (.lst ((maps.foldl addI []).map tupI)), lastE tupI maps .no, .no, .no] = some (.nx [.dat (.list (maps.map tupI)), .dat (.int (most : Nat)), .own (.lst ((elementsOf maps most).map tupI)), lastE tupI maps .no, e4, e5]) := by
    rw [rgD_0]
    have := for_fold (f := trn [] (.nm 4) b_l_elements_3) (fun i : Nat => PyData.int ((i : Nat) : Int)) (fun (s : List (List Int) × Ent) at1 => (maps.foldl (fun found other => stepI most found at1 other) s.1, lastE tupI maps s.2)) (fun s e => [.dat (.list (maps.map tupI)), .dat (.int (most : Nat)), .own (.lst (s.1.map tupI)), lastE tupI maps .no, e, s.2]) (fun s => (∀ x ∈ s.1, okMap n x) ∧ s.1.length ≤ 50) (xs := List.range (most + 1)) (s := (maps.foldl addI [], .no)) (e := .no) ⟨f1, by show (maps.foldl addI []).length ≤ 50; omega⟩ fun s e i hi hp => by
      obtain ⟨L, g1, g2⟩ := elements_inner (i := i) (most := most) (found := s.1) (e3 := lastE tupI maps .no) (e5 := s.2) hn hm ho hp.1 hp.2 hmost
      refine ⟨?_, g1, g2⟩
      rw [trn_x]
      simp (config := { implicitDefEqProofs := false }) (disch := walk_at "side") only [↓reduceIte, decide_eq_true_eq, decide_true, decide_false, Bool.not_true, Bool.not_false, Bool.false_eq_true, Int.reduceEq, Int.reduceLT, Int.reduceLE, Int.reduceNeg, Int.reduceToNat, ↓okI, ↓okI2, ↓aV_d, ↓aV_o, ↓aV_n, ↓aV_w, ↓dV_d, ↓dV_n, ↓dV_w, ↓gE_0, ↓gE_s, ↓eL_l, ↓eD_l, ↓eV_d, ↓eV_l, ↓nA_d, ↓nA_o, ↓iD_i, ↓bD_b, ↓kD_i, ↓kD_s, ↓zD_d, ↓vZ_d, ↓vZ_n, ↓sR_0, ↓sR_s, ↓sK_n, ↓sK_0, ↓lD_l, ↓sD_l, ↓sD_t, ↓tD_t, ↓dA_nil, ↓dA_d, ↓dN_nil, ↓dN_c, ↓oZ_addI, ↓oZ_addS, ↓oZ_addT, ↓oZ_addL, ↓oZ_sub, ↓oZ_mul, ↓oZ_mulT, ↓oZ_fdiv, ↓oZ_mod, ↓oZ_pow, ↓oZ_eqI, ↓oZ_eqS, ↓oZ_neS, ↓oZ_neI, ↓oZ_lt, ↓oZ_le, ↓oZ_gt, ↓oZ_ge, ↓oZ_ixL, ↓oZ_ixT, ↓aI_0, ↓aI_1, ↓aI_2, ↓nI_0, ↓nI_1, ↓lS_0, ↓lS_s, ↓aI_int, ↓aI_str, ↓aI_row, ↓aI_b2, ↓aI_i1, ↓aI_i2, ↓aI_i3, ↓aI_i4, ↓aI_i5, ↓aI_i6, ↓oZ_abyz, ↓oZ_az, ↓cZ_lenLm, ↓cZ_lenTm, ↓cZ_lenP, ↓oZ_ixP, ↓sD_P, ↓cZ_lstP, ↓cZ_abs, ↓cZ_int, ↓cZ_intB, ↓cZ_tup, ↓cZ_lstL, ↓cZ_lstT, ↓cZ_all, ↓cZ_any, ↓cZ_max2, ↓cZ_min2, ↓cZ_sum, ↓cZ_sorted, ↓xE_int, ↓xE_bl, ↓xE_str, ↓xE_non, ↓xE_var, ↓xE_op, ↓xE_neg, ↓xE_nt, ↓xE_an, ↓xE_or, ↓xE_ch, ↓xE_isN, ↓xE_notN, ↓xE_ife, ↓xE_tup, ↓xE_lst, ↓xE_sl, ↓sl1_T, ↓sl1_L, ↓xE_cb, ↓xE_isa, ↓xE_call, ↓xE_callS, ↓xE_lc, ↓sN_0, ↓sN_s, ↓xE_lrg, ↓xE_trg, ↓xE_pop, ↓xE_idxL, ↓sT_s, ↓xE_idxT, ↓xE_dget, ↓xE_din, ↓xE_dnin, ↓xE_dset, ↓xA_nil, ↓xA_cons, ↓xT_te, ↓xT_tb, ↓xT_nt, ↓xT_an, ↓xT_or, ↓xT_yes, ↓xT_lend, ↓xP_no, ↓xP_at, ↓xI_rng1, ↓xI_rng2, ↓xI_u, ↓xI_en, ↓xG_nm, ↓xG_tup, ↓xGs_nil, ↓xGs_cons, ↓sV_d, ↓sV_n, ↓sV_w, ↓rV_d, ↓rV_n, ↓rV_w, ↓rV_o, ↓xS_set, ↓xS_asg, ↓xS_seti, ↓xS_app, ↓xS_newD, ↓xS_dput, ↓xS_drop, ↓xS_ret, ↓xS_retN, ↓xS_iff, ↓xS_for, ↓xS_wh, ↓xS_brk, ↓xS_cont, ↓xS_nx, ↓xS_seq, ↓xS_fz, ↓fzK_l, ↓fzK_d, ↓fzK_n, ↓fzK_D, ↓kS_nx, ↓kS_rt, ↓kS_bk, ↓kS_ct, ↓out1_rt, ↓out2_rt, ↓u_b_l_elements_3, ↓fK_s L]
    have e : ((List.range (most + 1)).foldl (fun (s : List (List Int) × Ent) at1 => (maps.foldl (fun found other => stepI most found at1 other) s.1, lastE tupI maps s.2)) (maps.foldl addI [], .no)).1 = elementsOf maps most := by
      unfold elementsOf
      generalize List.range (most + 1) = l
      generalize maps.foldl addI [] = z
      generalize Ent.no = w
      induction l generalizing z w with
      | nil => rfl
      | cons i l ih => rw [List.foldl_cons, List.foldl_cons]; exact ih _ _
    have t := this.1
    rw [e] at t
    exact ⟨_, _, t⟩
  obtain ⟨e4, e5, L2⟩ := L2
  rw [x_l_elements]
  simp (config := { implicitDefEqProofs := false }) (disch := walk_at "side") only [↓reduceIte, decide_eq_true_eq, decide_true, decide_false, Bool.not_true, Bool.not_false, Bool.false_eq_true, Int.reduceEq, Int.reduceLT, Int.reduceLE, Int.reduceNeg, Int.reduceToNat, ↓okI, ↓okI2, ↓aV_d, ↓aV_o, ↓aV_n, ↓aV_w, ↓dV_d, ↓dV_n, ↓dV_w, ↓gE_0, ↓gE_s, ↓eL_l, ↓eD_l, ↓eV_d, ↓eV_l, ↓nA_d, ↓nA_o, ↓iD_i, ↓bD_b, ↓kD_i, ↓kD_s, ↓zD_d, ↓vZ_d, ↓vZ_n, ↓sR_0, ↓sR_s, ↓sK_n, ↓sK_0, ↓lD_l, ↓sD_l, ↓sD_t, ↓tD_t, ↓dA_nil, ↓dA_d, ↓dN_nil, ↓dN_c, ↓oZ_addI, ↓oZ_addS, ↓oZ_addT, ↓oZ_addL, ↓oZ_sub, ↓oZ_mul, ↓oZ_mulT, ↓oZ_fdiv, ↓oZ_mod, ↓oZ_pow, ↓oZ_eqI, ↓oZ_eqS, ↓oZ_neS, ↓oZ_neI, ↓oZ_lt, ↓oZ_le, ↓oZ_gt, ↓oZ_ge, ↓oZ_ixL, ↓oZ_ixT, ↓aI_0, ↓aI_1, ↓aI_2, ↓nI_0, ↓nI_1, ↓lS_0, ↓lS_s, ↓aI_int, ↓aI_str, ↓aI_row, ↓aI_b2, ↓aI_i1, ↓aI_i2, ↓aI_i3, ↓aI_i4, ↓aI_i5, ↓aI_i6, ↓oZ_abyz, ↓oZ_az, ↓cZ_lenLm, ↓cZ_lenTm, ↓cZ_lenP, ↓oZ_ixP, ↓sD_P, ↓cZ_lstP, ↓cZ_abs, ↓cZ_int, ↓cZ_intB, ↓cZ_tup, ↓cZ_lstL, ↓cZ_lstT, ↓cZ_all, ↓cZ_any, ↓cZ_max2, ↓cZ_min2, ↓cZ_sum, ↓cZ_sorted, ↓xE_int, ↓xE_bl, ↓xE_str, ↓xE_non, ↓xE_var, ↓xE_op, ↓xE_neg, ↓xE_nt, ↓xE_an, ↓xE_or, ↓xE_ch, ↓xE_isN, ↓xE_notN, ↓xE_ife, ↓xE_tup, ↓xE_lst, ↓xE_sl, ↓sl1_T, ↓sl1_L, ↓xE_cb, ↓xE_isa, ↓xE_call, ↓xE_callS, ↓xE_lc, ↓sN_0, ↓sN_s, ↓xE_lrg, ↓xE_trg, ↓xE_pop, ↓xE_idxL, ↓sT_s, ↓xE_idxT, ↓xE_dget, ↓xE_din, ↓xE_dnin, ↓xE_dset, ↓xA_nil, ↓xA_cons, ↓xT_te, ↓xT_tb, ↓xT_nt, ↓xT_an, ↓xT_or, ↓xT_yes, ↓xT_lend, ↓xP_no, ↓xP_at, ↓xI_rng1, ↓xI_rng2, ↓xI_u, ↓xI_en, ↓xG_nm, ↓xG_tup, ↓xGs_nil, ↓xGs_cons, ↓sV_d, ↓sV_n, ↓sV_w, ↓rV_d, ↓rV_n, ↓rV_w, ↓rV_o, ↓xS_set, ↓xS_asg, ↓xS_seti, ↓xS_app, ↓xS_newD, ↓xS_dput, ↓xS_drop, ↓xS_ret, ↓xS_retN, ↓xS_iff, ↓xS_for, ↓xS_wh, ↓xS_brk, ↓xS_cont, ↓xS_nx, ↓xS_seq, ↓xS_fz, ↓fzK_l, ↓fzK_d, ↓fzK_n, ↓fzK_D, ↓kS_nx, ↓kS_rt, ↓kS_bk, ↓kS_ct, ↓out1_rt, ↓out2_rt, ↓u_c_l_elements, ↓fK_s L1, tn, ↓fK_s L2]
theorem elementsK {β : Type} {n : Nat} {maps : List (List Int)} {most : Nat} {kv : Vl → Option β} (hn : n ≤ 1000) (ho : ∀ x ∈ maps, okMap n x) (hm : maps.length ≤ 8) (hmost : most ≤ 40) : cK f_l_elements [.list (maps.map tupI), .int (most : Nat)] kv = kv (.w (.lst ((elementsOf maps most).map tupI))) := cK_s (elements_eq' hn ho hm hmost)
theorem elements40 {β : Type} {n : Nat} {maps : List (List Int)} {kv : Vl → Option β} (hn : n ≤ 1000) (ho : ∀ x ∈ maps, okMap n x) (hm : maps.length ≤ 8) : cK f_l_elements [.list (maps.map tupI), .int 40] kv = kv (.w (.lst ((elementsOf maps 40).map tupI))) := elementsK (most := 40) hn ho hm (by omega)

end CS

namespace CS
open PySem PySem.Spec PyProof.Rows L2 DL EV
local macro_rules | `(tactic| walk_at "side") => `(tactic| first | omega | (simp only [List.length_cons, List.length_nil, List.length_map, List.length_append, List.length_range, PySem.sizeLine_eq]; omega) | assumption | (simp; done))
theorem rowsLt {rows : List (List Int)} : ((rows.map tupI).length : Int) = rows.length := by rw [List.length_map]
theorem times_eq {L : List Str} {F : List Int} {rows : List (List Int)} {a b : Int} (ha : -1 ≤ a ∧ a < rows.length) (hb : -1 ≤ b) (hr : 0 ≤ a → 0 ≤ b → b < ((rows.getD a.toNat []).length : Int)) : f_times [tableD L F rows, .int a, .int b] = some (.dat (.int (timesI rows a b))) := by
  rw [x_times]
  unfold tableD prodD
  by_cases qa : a = -1
  · simp (config := { implicitDefEqProofs := false }) (disch := walk_at "side") only [↓reduceIte, decide_eq_true_eq, decide_true, decide_false, Bool.not_true, Bool.not_false, Bool.false_eq_true, Int.reduceEq, Int.reduceLT, Int.reduceLE, Int.reduceNeg, Int.reduceToNat, ↓okI, ↓okI2, ↓aV_d, ↓aV_o, ↓aV_n, ↓aV_w, ↓dV_d, ↓dV_n, ↓dV_w, ↓gE_0, ↓gE_s, ↓eL_l, ↓eD_l, ↓eV_d, ↓eV_l, ↓nA_d, ↓nA_o, ↓iD_i, ↓bD_b, ↓kD_i, ↓kD_s, ↓zD_d, ↓vZ_d, ↓vZ_n, ↓sR_0, ↓sR_s, ↓sK_n, ↓sK_0, ↓lD_l, ↓sD_l, ↓sD_t, ↓tD_t, ↓dA_nil, ↓dA_d, ↓dN_nil, ↓dN_c, ↓oZ_addI, ↓oZ_addS, ↓oZ_addT, ↓oZ_addL, ↓oZ_sub, ↓oZ_mul, ↓oZ_mulT, ↓oZ_fdiv, ↓oZ_mod, ↓oZ_pow, ↓oZ_eqI, ↓oZ_eqS, ↓oZ_neS, ↓oZ_neI, ↓oZ_lt, ↓oZ_le, ↓oZ_gt, ↓oZ_ge, ↓oZ_ixL, ↓oZ_ixT, ↓aI_0, ↓aI_1, ↓aI_2, ↓nI_0, ↓nI_1, ↓lS_0, ↓lS_s, ↓aI_int, ↓aI_str, ↓aI_row, ↓aI_b2, ↓aI_i1, ↓aI_i2, ↓aI_i3, ↓aI_i4, ↓aI_i5, ↓aI_i6, ↓oZ_abyz, ↓oZ_az, ↓cZ_lenLm, ↓cZ_lenTm, ↓cZ_lenP, ↓oZ_ixP, ↓sD_P, ↓cZ_lstP, ↓cZ_abs, ↓cZ_int, ↓cZ_intB, ↓cZ_tup, ↓cZ_lstL, ↓cZ_lstT, ↓cZ_all, ↓cZ_any, ↓cZ_max2, ↓cZ_min2, ↓cZ_sum, ↓cZ_sorted, ↓xE_int, ↓xE_bl, ↓xE_str, ↓xE_non, ↓xE_var, ↓xE_op, ↓xE_neg, ↓xE_nt, ↓xE_an, ↓xE_or, ↓xE_ch, ↓xE_isN, ↓xE_notN, ↓xE_ife, ↓xE_tup, ↓xE_lst, ↓xE_sl, ↓sl1_T, ↓sl1_L, ↓xE_cb, ↓xE_isa, ↓xE_call, ↓xE_callS, ↓xE_lc, ↓sN_0, ↓sN_s, ↓xE_lrg, ↓xE_trg, ↓xE_pop, ↓xE_idxL, ↓sT_s, ↓xE_idxT, ↓xE_dget, ↓xE_din, ↓xE_dnin, ↓xE_dset, ↓xA_nil, ↓xA_cons, ↓xT_te, ↓xT_tb, ↓xT_nt, ↓xT_an, ↓xT_or, ↓xT_yes, ↓xT_lend, ↓xP_no, ↓xP_at, ↓xI_rng1, ↓xI_rng2, ↓xI_u, ↓xI_en, ↓xG_nm, ↓xG_tup, ↓xGs_nil, ↓xGs_cons, ↓sV_d, ↓sV_n, ↓sV_w, ↓rV_d, ↓rV_n, ↓rV_w, ↓rV_o, ↓xS_set, ↓xS_asg, ↓xS_seti, ↓xS_app, ↓xS_newD, ↓xS_dput, ↓xS_drop, ↓xS_ret, ↓xS_retN, ↓xS_iff, ↓xS_for, ↓xS_wh, ↓xS_brk, ↓xS_cont, ↓xS_nx, ↓xS_seq, ↓xS_fz, ↓fzK_l, ↓fzK_d, ↓fzK_n, ↓fzK_D, ↓kS_nx, ↓kS_rt, ↓kS_bk, ↓kS_ct, ↓out1_rt, ↓out2_rt, ↓u_c_times, qa]
    simp [timesI, qa]
  by_cases qb : b = -1
  · simp (config := { implicitDefEqProofs := false }) (disch := walk_at "side") only [↓reduceIte, decide_eq_true_eq, decide_true, decide_false, Bool.not_true, Bool.not_false, Bool.false_eq_true, Int.reduceEq, Int.reduceLT, Int.reduceLE, Int.reduceNeg, Int.reduceToNat, ↓okI, ↓okI2, ↓aV_d, ↓aV_o, ↓aV_n, ↓aV_w, ↓dV_d, ↓dV_n, ↓dV_w, ↓gE_0, ↓gE_s, ↓eL_l, ↓eD_l, ↓eV_d, ↓eV_l, ↓nA_d, ↓nA_o, ↓iD_i, ↓bD_b, ↓kD_i, ↓kD_s, ↓zD_d, ↓vZ_d, ↓vZ_n, ↓sR_0, ↓sR_s, ↓sK_n, ↓sK_0, ↓lD_l, ↓sD_l, ↓sD_t, ↓tD_t, ↓dA_nil, ↓dA_d, ↓dN_nil, ↓dN_c, ↓oZ_addI, ↓oZ_addS, ↓oZ_addT, ↓oZ_addL, ↓oZ_sub, ↓oZ_mul, ↓oZ_mulT, ↓oZ_fdiv, ↓oZ_mod, ↓oZ_pow, ↓oZ_eqI, ↓oZ_eqS, ↓oZ_neS, ↓oZ_neI, ↓oZ_lt, ↓oZ_le, ↓oZ_gt, ↓oZ_ge, ↓oZ_ixL, ↓oZ_ixT, ↓aI_0, ↓aI_1, ↓aI_2, ↓nI_0, ↓nI_1, ↓lS_0, ↓lS_s, ↓aI_int, ↓aI_str, ↓aI_row, ↓aI_b2, ↓aI_i1, ↓aI_i2, ↓aI_i3, ↓aI_i4, ↓aI_i5, ↓aI_i6, ↓oZ_abyz, ↓oZ_az, ↓cZ_lenLm, ↓cZ_lenTm, ↓cZ_lenP, ↓oZ_ixP, ↓sD_P, ↓cZ_lstP, ↓cZ_abs, ↓cZ_int, ↓cZ_intB, ↓cZ_tup, ↓cZ_lstL, ↓cZ_lstT, ↓cZ_all, ↓cZ_any, ↓cZ_max2, ↓cZ_min2, ↓cZ_sum, ↓cZ_sorted, ↓xE_int, ↓xE_bl, ↓xE_str, ↓xE_non, ↓xE_var, ↓xE_op, ↓xE_neg, ↓xE_nt, ↓xE_an, ↓xE_or, ↓xE_ch, ↓xE_isN, ↓xE_notN, ↓xE_ife, ↓xE_tup, ↓xE_lst, ↓xE_sl, ↓sl1_T, ↓sl1_L, ↓xE_cb, ↓xE_isa, ↓xE_call, ↓xE_callS, ↓xE_lc, ↓sN_0, ↓sN_s, ↓xE_lrg, ↓xE_trg, ↓xE_pop, ↓xE_idxL, ↓sT_s, ↓xE_idxT, ↓xE_dget, ↓xE_din, ↓xE_dnin, ↓xE_dset, ↓xA_nil, ↓xA_cons, ↓xT_te, ↓xT_tb, ↓xT_nt, ↓xT_an, ↓xT_or, ↓xT_yes, ↓xT_lend, ↓xP_no, ↓xP_at, ↓xI_rng1, ↓xI_rng2, ↓xI_u, ↓xI_en, ↓xG_nm, ↓xG_tup, ↓xGs_nil, ↓xGs_cons, ↓sV_d, ↓sV_n, ↓sV_w, ↓rV_d, ↓rV_n, ↓rV_w, ↓rV_o, ↓xS_set, ↓xS_asg, ↓xS_seti, ↓xS_app, ↓xS_newD, ↓xS_dput, ↓xS_drop, ↓xS_ret, ↓xS_retN, ↓xS_iff, ↓xS_for, ↓xS_wh, ↓xS_brk, ↓xS_cont, ↓xS_nx, ↓xS_seq, ↓xS_fz, ↓fzK_l, ↓fzK_d, ↓fzK_n, ↓fzK_D, ↓kS_nx, ↓kS_rt, ↓kS_bk, ↓kS_ct, ↓out1_rt, ↓out2_rt, ↓u_c_times, qa, qb]
    simp [timesI, qa, qb]
  have h0 : 0 ≤ a := by omega
  have h1 : 0 ≤ b := by omega
  have h2 := hr h0 h1
  simp (config := { implicitDefEqProofs := false }) (disch := walk_at "side") only [↓reduceIte, decide_eq_true_eq, decide_true, decide_false, Bool.not_true, Bool.not_false, Bool.false_eq_true, Int.reduceEq, Int.reduceLT, Int.reduceLE, Int.reduceNeg, Int.reduceToNat, ↓okI, ↓okI2, ↓aV_d, ↓aV_o, ↓aV_n, ↓aV_w, ↓dV_d, ↓dV_n, ↓dV_w, ↓gE_0, ↓gE_s, ↓eL_l, ↓eD_l, ↓eV_d, ↓eV_l, ↓nA_d, ↓nA_o, ↓iD_i, ↓bD_b, ↓kD_i, ↓kD_s, ↓zD_d, ↓vZ_d, ↓vZ_n, ↓sR_0, ↓sR_s, ↓sK_n, ↓sK_0, ↓lD_l, ↓sD_l, ↓sD_t, ↓tD_t, ↓dA_nil, ↓dA_d, ↓dN_nil, ↓dN_c, ↓oZ_addI, ↓oZ_addS, ↓oZ_addT, ↓oZ_addL, ↓oZ_sub, ↓oZ_mul, ↓oZ_mulT, ↓oZ_fdiv, ↓oZ_mod, ↓oZ_pow, ↓oZ_eqI, ↓oZ_eqS, ↓oZ_neS, ↓oZ_neI, ↓oZ_lt, ↓oZ_le, ↓oZ_gt, ↓oZ_ge, ↓oZ_ixL, ↓oZ_ixT, ↓aI_0, ↓aI_1, ↓aI_2, ↓nI_0, ↓nI_1, ↓lS_0, ↓lS_s, ↓aI_int, ↓aI_str, ↓aI_row, ↓aI_b2, ↓aI_i1, ↓aI_i2, ↓aI_i3, ↓aI_i4, ↓aI_i5, ↓aI_i6, ↓oZ_abyz, ↓oZ_az, ↓cZ_lenLm, ↓cZ_lenTm, ↓cZ_lenP, ↓oZ_ixP, ↓sD_P, ↓cZ_lstP, ↓cZ_abs, ↓cZ_int, ↓cZ_intB, ↓cZ_tup, ↓cZ_lstL, ↓cZ_lstT, ↓cZ_all, ↓cZ_any, ↓cZ_max2, ↓cZ_min2, ↓cZ_sum, ↓cZ_sorted, ↓xE_int, ↓xE_bl, ↓xE_str, ↓xE_non, ↓xE_var, ↓xE_op, ↓xE_neg, ↓xE_nt, ↓xE_an, ↓xE_or, ↓xE_ch, ↓xE_isN, ↓xE_notN, ↓xE_ife, ↓xE_tup, ↓xE_lst, ↓xE_sl, ↓sl1_T, ↓sl1_L, ↓xE_cb, ↓xE_isa, ↓xE_call, ↓xE_callS, ↓xE_lc, ↓sN_0, ↓sN_s, ↓xE_lrg, ↓xE_trg, ↓xE_pop, ↓xE_idxL, ↓sT_s, ↓xE_idxT, ↓xE_dget, ↓xE_din, ↓xE_dnin, ↓xE_dset, ↓xA_nil, ↓xA_cons, ↓xT_te, ↓xT_tb, ↓xT_nt, ↓xT_an, ↓xT_or, ↓xT_yes, ↓xT_lend, ↓xP_no, ↓xP_at, ↓xI_rng1, ↓xI_rng2, ↓xI_u, ↓xI_en, ↓xG_nm, ↓xG_tup, ↓xGs_nil, ↓xGs_cons, ↓sV_d, ↓sV_n, ↓sV_w, ↓rV_d, ↓rV_n, ↓rV_w, ↓rV_o, ↓xS_set, ↓xS_asg, ↓xS_seti, ↓xS_app, ↓xS_newD, ↓xS_dput, ↓xS_drop, ↓xS_ret, ↓xS_retN, ↓xS_iff, ↓xS_for, ↓xS_wh, ↓xS_brk, ↓xS_cont, ↓xS_nx, ↓xS_seq, ↓xS_fz, ↓fzK_l, ↓fzK_d, ↓fzK_n, ↓fzK_D, ↓kS_nx, ↓kS_rt, ↓kS_bk, ↓kS_ct, ↓out1_rt, ↓out2_rt, ↓u_c_times, qa, qb, tupI]
  simp only [timesI, qa, qb, if_false]
theorem timesK {β : Type} {L : List Str} {F : List Int} {rows : List (List Int)} {a b : Int} {kv : Vl → Option β} (ha : -1 ≤ a ∧ a < rows.length) (hb : -1 ≤ b) (hr : 0 ≤ a → 0 ≤ b → b < ((rows.getD a.toNat []).length : Int)) : cK f_times [tableD L F rows, .int a, .int b] kv = kv (.d (.int (timesI rows a b))) := cK_s (times_eq ha hb hr)
theorem fixS_lt {x : Str} : ∀ {L : List Str}, x ∈ L → fixS x L < L.length
  | [], h => by cases h
  | y :: L, h => by
    unfold fixS
    split
    · simp
    · rename_i e
      have := fixS_lt ((List.mem_cons.mp h).resolve_left fun z => e z.symm)
      simp only [List.length_cons]; omega
theorem element_eq {L : List Str} {F : List Int} {rows : List (List Int)} {x : Str} (hx : x ∈ L) (hF : F.length = L.length) : f_element_of [tableD L F rows, .str x] = some (.dat (.int (F.getD (fixS x L) 0))) := by
  have hl := fixS_lt hx
  rw [x_element_of]
  unfold tableD
  simp (config := { implicitDefEqProofs := false }) (disch := walk_at "side") only [↓reduceIte, decide_eq_true_eq, decide_true, decide_false, Bool.not_true, Bool.not_false, Bool.false_eq_true, Int.reduceEq, Int.reduceLT, Int.reduceLE, Int.reduceNeg, Int.reduceToNat, ↓okI, ↓okI2, ↓aV_d, ↓aV_o, ↓aV_n, ↓aV_w, ↓dV_d, ↓dV_n, ↓dV_w, ↓gE_0, ↓gE_s, ↓eL_l, ↓eD_l, ↓eV_d, ↓eV_l, ↓nA_d, ↓nA_o, ↓iD_i, ↓bD_b, ↓kD_i, ↓kD_s, ↓zD_d, ↓vZ_d, ↓vZ_n, ↓sR_0, ↓sR_s, ↓sK_n, ↓sK_0, ↓lD_l, ↓sD_l, ↓sD_t, ↓tD_t, ↓dA_nil, ↓dA_d, ↓dN_nil, ↓dN_c, ↓oZ_addI, ↓oZ_addS, ↓oZ_addT, ↓oZ_addL, ↓oZ_sub, ↓oZ_mul, ↓oZ_mulT, ↓oZ_fdiv, ↓oZ_mod, ↓oZ_pow, ↓oZ_eqI, ↓oZ_eqS, ↓oZ_neS, ↓oZ_neI, ↓oZ_lt, ↓oZ_le, ↓oZ_gt, ↓oZ_ge, ↓oZ_ixL, ↓oZ_ixT, ↓aI_0, ↓aI_1, ↓aI_2, ↓nI_0, ↓nI_1, ↓lS_0, ↓lS_s, ↓aI_int, ↓aI_str, ↓aI_row, ↓aI_b2, ↓aI_i1, ↓aI_i2, ↓aI_i3, ↓aI_i4, ↓aI_i5, ↓aI_i6, ↓oZ_abyz, ↓oZ_az, ↓cZ_lenLm, ↓cZ_lenTm, ↓cZ_lenP, ↓oZ_ixP, ↓sD_P, ↓cZ_lstP, ↓cZ_abs, ↓cZ_int, ↓cZ_intB, ↓cZ_tup, ↓cZ_lstL, ↓cZ_lstT, ↓cZ_all, ↓cZ_any, ↓cZ_max2, ↓cZ_min2, ↓cZ_sum, ↓cZ_sorted, ↓xE_int, ↓xE_bl, ↓xE_str, ↓xE_non, ↓xE_var, ↓xE_op, ↓xE_neg, ↓xE_nt, ↓xE_an, ↓xE_or, ↓xE_ch, ↓xE_isN, ↓xE_notN, ↓xE_ife, ↓xE_tup, ↓xE_lst, ↓xE_sl, ↓sl1_T, ↓sl1_L, ↓xE_cb, ↓xE_isa, ↓xE_call, ↓xE_callS, ↓xE_lc, ↓sN_0, ↓sN_s, ↓xE_lrg, ↓xE_trg, ↓xE_pop, ↓xE_idxL, ↓sT_s, ↓xE_idxT, ↓xE_dget, ↓xE_din, ↓xE_dnin, ↓xE_dset, ↓xA_nil, ↓xA_cons, ↓xT_te, ↓xT_tb, ↓xT_nt, ↓xT_an, ↓xT_or, ↓xT_yes, ↓xT_lend, ↓xP_no, ↓xP_at, ↓xI_rng1, ↓xI_rng2, ↓xI_u, ↓xI_en, ↓xG_nm, ↓xG_tup, ↓xGs_nil, ↓xGs_cons, ↓sV_d, ↓sV_n, ↓sV_w, ↓rV_d, ↓rV_n, ↓rV_w, ↓rV_o, ↓xS_set, ↓xS_asg, ↓xS_seti, ↓xS_app, ↓xS_newD, ↓xS_dput, ↓xS_drop, ↓xS_ret, ↓xS_retN, ↓xS_iff, ↓xS_for, ↓xS_wh, ↓xS_brk, ↓xS_cont, ↓xS_nx, ↓xS_seq, ↓xS_fz, ↓fzK_l, ↓fzK_d, ↓fzK_n, ↓fzK_D, ↓kS_nx, ↓kS_rt, ↓kS_bk, ↓kS_ct, ↓out1_rt, ↓out2_rt, ↓u_c_element_of, ↓ixS_fix, Int.toNat_natCast]
theorem elementK {β : Type} {L : List Str} {F : List Int} {rows : List (List Int)} {x : Str} {kv : Vl → Option β} (hx : x ∈ L) (hF : F.length = L.length) : cK f_element_of [tableD L F rows, .str x] kv = kv (.d (.int (F.getD (fixS x L) 0))) := cK_s (element_eq hx hF)
theorem value_of_eq {L : List Str} {F : List Int} {rows : List (List Int)} {log : List Str} (T : okTab L F rows) (hx : ∀ x ∈ log, x ∈ L) (hlog : log.length ≤ 1000) : f_value_of [tableD L F rows, .tuple (log.map .str)] = some (.dat (.int (valueI L F rows log))) := by
  have Tl := T.1
  have L1 := (for_fold (f := trn [] (.nm 3) b_value_of_1) PyData.str (fun v x => timesI rows v (F.getD (fixS x L) 0)) (fun v e => [.dat (tableD L F rows), .dat (.tuple (log.map .str)), .dat (.int v), e]) (fun v => -1 ≤ v ∧ v < (rows.length : Int) ∨ v = -1) (xs := log) (s := -1) (e := .no) (.inr rfl) fun v e x hm hv => by
    have hxL := hx x hm
    have hl := fixS_lt hxL
    have eF := T.2.1 (F.getD (fixS x L) 0) (by rw [List.getD_eq_getElem?_getD, List.getElem?_eq_getElem (by omega)]; exact List.getElem_mem _)
    have hr0 : (0 : Int) < rows.length := by omega
    have hv' : -1 ≤ v ∧ v < (rows.length : Int) := by omega
    obtain ⟨t1, t2, t3⟩ := times_ok T hv'.1 hv'.2 eF.1 eF.2
    refine ⟨?_, .inl (by omega)⟩
    rw [trn_x]
    simp (config := { implicitDefEqProofs := false }) (disch := walk_at "side") only [↓reduceIte, decide_eq_true_eq, decide_true, decide_false, Bool.not_true, Bool.not_false, Bool.false_eq_true, Int.reduceEq, Int.reduceLT, Int.reduceLE, Int.reduceNeg, Int.reduceToNat, ↓okI, ↓okI2, ↓aV_d, ↓aV_o, ↓aV_n, ↓aV_w, ↓dV_d, ↓dV_n, ↓dV_w, ↓gE_0, ↓gE_s, ↓eL_l, ↓eD_l, ↓eV_d, ↓eV_l, ↓nA_d, ↓nA_o, ↓iD_i, ↓bD_b, ↓kD_i, ↓kD_s, ↓zD_d, ↓vZ_d, ↓vZ_n, ↓sR_0, ↓sR_s, ↓sK_n, ↓sK_0, ↓lD_l, ↓sD_l, ↓sD_t, ↓tD_t, ↓dA_nil, ↓dA_d, ↓dN_nil, ↓dN_c, ↓oZ_addI, ↓oZ_addS, ↓oZ_addT, ↓oZ_addL, ↓oZ_sub, ↓oZ_mul, ↓oZ_mulT, ↓oZ_fdiv, ↓oZ_mod, ↓oZ_pow, ↓oZ_eqI, ↓oZ_eqS, ↓oZ_neS, ↓oZ_neI, ↓oZ_lt, ↓oZ_le, ↓oZ_gt, ↓oZ_ge, ↓oZ_ixL, ↓oZ_ixT, ↓aI_0, ↓aI_1, ↓aI_2, ↓nI_0, ↓nI_1, ↓lS_0, ↓lS_s, ↓aI_int, ↓aI_str, ↓aI_row, ↓aI_b2, ↓aI_i1, ↓aI_i2, ↓aI_i3, ↓aI_i4, ↓aI_i5, ↓aI_i6, ↓oZ_abyz, ↓oZ_az, ↓cZ_lenLm, ↓cZ_lenTm, ↓cZ_lenP, ↓oZ_ixP, ↓sD_P, ↓cZ_lstP, ↓cZ_abs, ↓cZ_int, ↓cZ_intB, ↓cZ_tup, ↓cZ_lstL, ↓cZ_lstT, ↓cZ_all, ↓cZ_any, ↓cZ_max2, ↓cZ_min2, ↓cZ_sum, ↓cZ_sorted, ↓xE_int, ↓xE_bl, ↓xE_str, ↓xE_non, ↓xE_var, ↓xE_op, ↓xE_neg, ↓xE_nt, ↓xE_an, ↓xE_or, ↓xE_ch, ↓xE_isN, ↓xE_notN, ↓xE_ife, ↓xE_tup, ↓xE_lst, ↓xE_sl, ↓sl1_T, ↓sl1_L, ↓xE_cb, ↓xE_isa, ↓xE_call, ↓xE_callS, ↓xE_lc, ↓sN_0, ↓sN_s, ↓xE_lrg, ↓xE_trg, ↓xE_pop, ↓xE_idxL, ↓sT_s, ↓xE_idxT, ↓xE_dget, ↓xE_din, ↓xE_dnin, ↓xE_dset, ↓xA_nil, ↓xA_cons, ↓xT_te, ↓xT_tb, ↓xT_nt, ↓xT_an, ↓xT_or, ↓xT_yes, ↓xT_lend, ↓xP_no, ↓xP_at, ↓xI_rng1, ↓xI_rng2, ↓xI_u, ↓xI_en, ↓xG_nm, ↓xG_tup, ↓xGs_nil, ↓xGs_cons, ↓sV_d, ↓sV_n, ↓sV_w, ↓rV_d, ↓rV_n, ↓rV_w, ↓rV_o, ↓xS_set, ↓xS_asg, ↓xS_seti, ↓xS_app, ↓xS_newD, ↓xS_dput, ↓xS_drop, ↓xS_ret, ↓xS_retN, ↓xS_iff, ↓xS_for, ↓xS_wh, ↓xS_brk, ↓xS_cont, ↓xS_nx, ↓xS_seq, ↓xS_fz, ↓fzK_l, ↓fzK_d, ↓fzK_n, ↓fzK_D, ↓kS_nx, ↓kS_rt, ↓kS_bk, ↓kS_ct, ↓out1_rt, ↓out2_rt, ↓u_b_value_of_1, ↓elementK, ↓timesK]).1
  rw [x_value_of]
  simp (config := { implicitDefEqProofs := false }) (disch := walk_at "side") only [↓reduceIte, decide_eq_true_eq, decide_true, decide_false, Bool.not_true, Bool.not_false, Bool.false_eq_true, Int.reduceEq, Int.reduceLT, Int.reduceLE, Int.reduceNeg, Int.reduceToNat, ↓okI, ↓okI2, ↓aV_d, ↓aV_o, ↓aV_n, ↓aV_w, ↓dV_d, ↓dV_n, ↓dV_w, ↓gE_0, ↓gE_s, ↓eL_l, ↓eD_l, ↓eV_d, ↓eV_l, ↓nA_d, ↓nA_o, ↓iD_i, ↓bD_b, ↓kD_i, ↓kD_s, ↓zD_d, ↓vZ_d, ↓vZ_n, ↓sR_0, ↓sR_s, ↓sK_n, ↓sK_0, ↓lD_l, ↓sD_l, ↓sD_t, ↓tD_t, ↓dA_nil, ↓dA_d, ↓dN_nil, ↓dN_c, ↓oZ_addI, ↓oZ_addS, ↓oZ_addT, ↓oZ_addL, ↓oZ_sub, ↓oZ_mul, ↓oZ_mulT, ↓oZ_fdiv, ↓oZ_mod, ↓oZ_pow, ↓oZ_eqI, ↓oZ_eqS, ↓oZ_neS, ↓oZ_neI, ↓oZ_lt, ↓oZ_le, ↓oZ_gt, ↓oZ_ge, ↓oZ_ixL, ↓oZ_ixT, ↓aI_0, ↓aI_1, ↓aI_2, ↓nI_0, ↓nI_1, ↓lS_0, ↓lS_s, ↓aI_int, ↓aI_str, ↓aI_row, ↓aI_b2, ↓aI_i1, ↓aI_i2, ↓aI_i3, ↓aI_i4, ↓aI_i5, ↓aI_i6, ↓oZ_abyz, ↓oZ_az, ↓cZ_lenLm, ↓cZ_lenTm, ↓cZ_lenP, ↓oZ_ixP, ↓sD_P, ↓cZ_lstP, ↓cZ_abs, ↓cZ_int, ↓cZ_intB, ↓cZ_tup, ↓cZ_lstL, ↓cZ_lstT, ↓cZ_all, ↓cZ_any, ↓cZ_max2, ↓cZ_min2, ↓cZ_sum, ↓cZ_sorted, ↓xE_int, ↓xE_bl, ↓xE_str, ↓xE_non, ↓xE_var, ↓xE_op, ↓xE_neg, ↓xE_nt, ↓xE_an, ↓xE_or, ↓xE_ch, ↓xE_isN, ↓xE_notN, ↓xE_ife, ↓xE_tup, ↓xE_lst, ↓xE_sl, ↓sl1_T, ↓sl1_L, ↓xE_cb, ↓xE_isa, ↓xE_call, ↓xE_callS, ↓xE_lc, ↓sN_0, ↓sN_s, ↓xE_lrg, ↓xE_trg, ↓xE_pop, ↓xE_idxL, ↓sT_s, ↓xE_idxT, ↓xE_dget, ↓xE_din, ↓xE_dnin, ↓xE_dset, ↓xA_nil, ↓xA_cons, ↓xT_te, ↓xT_tb, ↓xT_nt, ↓xT_an, ↓xT_or, ↓xT_yes, ↓xT_lend, ↓xP_no, ↓xP_at, ↓xI_rng1, ↓xI_rng2, ↓xI_u, ↓xI_en, ↓xG_nm, ↓xG_tup, ↓xGs_nil, ↓xGs_cons, ↓sV_d, ↓sV_n, ↓sV_w, ↓rV_d, ↓rV_n, ↓rV_w, ↓rV_o, ↓xS_set, ↓xS_asg, ↓xS_seti, ↓xS_app, ↓xS_newD, ↓xS_dput, ↓xS_drop, ↓xS_ret, ↓xS_retN, ↓xS_iff, ↓xS_for, ↓xS_wh, ↓xS_brk, ↓xS_cont, ↓xS_nx, ↓xS_seq, ↓xS_fz, ↓fzK_l, ↓fzK_d, ↓fzK_n, ↓fzK_D, ↓kS_nx, ↓kS_rt, ↓kS_bk, ↓kS_ct, ↓out1_rt, ↓out2_rt, ↓u_c_value_of, ↓fK_s L1]
  rfl
def valMap (n : Nat) (maps : List (List Int)) (L : List Str) (log : List Str) : List Int := log.foldl (fun v x => thenI v (maps.getD (fixS x L) [])) (upTo n)
theorem upTo_ok (n : Nat) : okMap n (upTo n) := ⟨upTo_len n, fun i m => upTo_mem m⟩
theorem upTo_then {n : Nat} {m : List Int} (h : m.length = n) : thenI (upTo n) m = m := by
  unfold thenI upTo
  rw [List.map_map]
  have := map_rangeD m 0 (fun x => x)
  rw [h] at this
  simp only [List.map_id'] at this
  refine Eq.trans (List.map_congr_left fun i _ => ?_) this
  simp only [Function.comp, Int.zero_add, Int.toNat_natCast]
/-- the value that the law reckons -/
theorem l_value_eq {n : Nat} {maps E : List (List Int)} {L log : List Str} (hn : n ≤ 1000 ∧ 1 ≤ n) (hm0 : 1 ≤ maps.length) (hm : ∀ x ∈ maps, okMap n x) (hL : L.length = maps.length) (hx : ∀ x ∈ log, x ∈ L) (hin : log ≠ [] → valMap n maps L log ∈ E) : f_l_value [.list (E.map tupI), .tuple (L.map .str), .list (maps.map tupI), .tuple (log.map .str)] = some (.dat (.int (if log = [] then -1 else (idxI (valMap n maps L log) E : Nat)))) := by
  have m0 : maps.getD 0 [] ∈ maps := getD_mem (by omega)
  have l0 : (maps.getD 0 []).length = n := (hm _ m0).1
  have L1 := for_fold (f := trn [] (.nm 5) b_l_value_1) PyData.str (fun v x => thenI v (maps.getD (fixS x L) [])) (fun v e => [.dat (.list (E.map tupI)), .dat (.tuple (L.map .str)), .dat (.list (maps.map tupI)), .dat (.tuple (log.map .str)), .dat (tupI v), e]) (okMap n) (xs := log) (s := upTo n) (e := .no) (upTo_ok n) fun v e x hxm hv => by
    have hl := fixS_lt (hx x hxm)
    have hmm := hm (maps.getD (fixS x L) []) (getD_mem (by omega))
    refine ⟨?_, then_ok hv hmm⟩
    have c1 : v.length ≤ 1000 := by rw [hv.1]; omega
    have c2 : ∀ j ∈ v, 0 ≤ j ∧ j < ((maps.getD (fixS x L) []).length : Int) := by rw [hmm.1]; exact hv.2
    have hxL := hx x hxm
    rw [trn_x]
    simp (config := { implicitDefEqProofs := false }) (disch := walk_at "side") only [↓reduceIte, decide_eq_true_eq, decide_true, decide_false, Bool.not_true, Bool.not_false, Bool.false_eq_true, Int.reduceEq, Int.reduceLT, Int.reduceLE, Int.reduceNeg, Int.reduceToNat, ↓okI, ↓okI2, ↓aV_d, ↓aV_o, ↓aV_n, ↓aV_w, ↓dV_d, ↓dV_n, ↓dV_w, ↓gE_0, ↓gE_s, ↓eL_l, ↓eD_l, ↓eV_d, ↓eV_l, ↓nA_d, ↓nA_o, ↓iD_i, ↓bD_b, ↓kD_i, ↓kD_s, ↓zD_d, ↓vZ_d, ↓vZ_n, ↓sR_0, ↓sR_s, ↓sK_n, ↓sK_0, ↓lD_l, ↓sD_l, ↓sD_t, ↓tD_t, ↓dA_nil, ↓dA_d, ↓dN_nil, ↓dN_c, ↓oZ_addI, ↓oZ_addS, ↓oZ_addT, ↓oZ_addL, ↓oZ_sub, ↓oZ_mul, ↓oZ_mulT, ↓oZ_fdiv, ↓oZ_mod, ↓oZ_pow, ↓oZ_eqI, ↓oZ_eqS, ↓oZ_neS, ↓oZ_neI, ↓oZ_lt, ↓oZ_le, ↓oZ_gt, ↓oZ_ge, ↓oZ_ixL, ↓oZ_ixT, ↓aI_0, ↓aI_1, ↓aI_2, ↓nI_0, ↓nI_1, ↓lS_0, ↓lS_s, ↓aI_int, ↓aI_str, ↓aI_row, ↓aI_b2, ↓aI_i1, ↓aI_i2, ↓aI_i3, ↓aI_i4, ↓aI_i5, ↓aI_i6, ↓oZ_abyz, ↓oZ_az, ↓cZ_lenLm, ↓cZ_lenTm, ↓cZ_lenP, ↓oZ_ixP, ↓sD_P, ↓cZ_lstP, ↓cZ_abs, ↓cZ_int, ↓cZ_intB, ↓cZ_tup, ↓cZ_lstL, ↓cZ_lstT, ↓cZ_all, ↓cZ_any, ↓cZ_max2, ↓cZ_min2, ↓cZ_sum, ↓cZ_sorted, ↓xE_int, ↓xE_bl, ↓xE_str, ↓xE_non, ↓xE_var, ↓xE_op, ↓xE_neg, ↓xE_nt, ↓xE_an, ↓xE_or, ↓xE_ch, ↓xE_isN, ↓xE_notN, ↓xE_ife, ↓xE_tup, ↓xE_lst, ↓xE_sl, ↓sl1_T, ↓sl1_L, ↓xE_cb, ↓xE_isa, ↓xE_call, ↓xE_callS, ↓xE_lc, ↓sN_0, ↓sN_s, ↓xE_lrg, ↓xE_trg, ↓xE_pop, ↓xE_idxL, ↓sT_s, ↓xE_idxT, ↓xE_dget, ↓xE_din, ↓xE_dnin, ↓xE_dset, ↓xA_nil, ↓xA_cons, ↓xT_te, ↓xT_tb, ↓xT_nt, ↓xT_an, ↓xT_or, ↓xT_yes, ↓xT_lend, ↓xP_no, ↓xP_at, ↓xI_rng1, ↓xI_rng2, ↓xI_u, ↓xI_en, ↓xG_nm, ↓xG_tup, ↓xGs_nil, ↓xGs_cons, ↓sV_d, ↓sV_n, ↓sV_w, ↓rV_d, ↓rV_n, ↓rV_w, ↓rV_o, ↓xS_set, ↓xS_asg, ↓xS_seti, ↓xS_app, ↓xS_newD, ↓xS_dput, ↓xS_drop, ↓xS_ret, ↓xS_retN, ↓xS_iff, ↓xS_for, ↓xS_wh, ↓xS_brk, ↓xS_cont, ↓xS_nx, ↓xS_seq, ↓xS_fz, ↓fzK_l, ↓fzK_d, ↓fzK_n, ↓fzK_D, ↓kS_nx, ↓kS_rt, ↓kS_bk, ↓kS_ct, ↓out1_rt, ↓out2_rt, ↓u_b_l_value_1, ↓ixS_fix, ↓sameK, Int.toNat_natCast]
  have vm : ((log.foldl (fun v x => thenI v (maps.getD (fixS x L) [])) (upTo n))) = valMap n maps L log := rfl
  have L1' := L1.1
  rw [vm] at L1'
  have eU : PyData.tuple (rgD 0 n) = tupI (upTo n) := by rw [rgD_ints]; rfl
  have t0 : (maps.map tupI)[0]? = some (tupI (maps.getD 0 [])) := by
    rw [List.getElem?_map, List.getD_eq_getElem?_getD, List.getElem?_eq_getElem (show 0 < maps.length by omega)]; rfl
  have a0 : atI (maps.map tupI) 0 = some (tupI (maps.getD 0 [])) := by
    unfold atI ixN
    rw [if_pos (by omega), if_pos (by rw [List.length_map]; omega)]
    exact t0
  have cl : ((maps.getD 0 []).map PyData.int).length = n := by rw [List.length_map, l0]
  have tn : ((n : Nat) : Int).toNat = n := by omega
  have s1 := shL E
  have s2 := shT (valMap n maps L log)
  have gt0 : (0 : Int) < (log.length : Int) ↔ log ≠ [] := by
    constructor
    · intro h e; rw [e] at h; simp at h
    · intro h
      have : log.length ≠ 0 := fun z => h (List.length_eq_zero_iff.mp z)
      omega
  rw [← eU] at L1'
  rw [x_l_value]
  by_cases q : log = []
  · have q2 : ¬ (0 : Int) < (log.length : Int) := fun z => gt0.mp z q
    simp (config := { implicitDefEqProofs := false }) (disch := walk_at "side") only [↓reduceIte, decide_eq_true_eq, decide_true, decide_false, Bool.not_true, Bool.not_false, Bool.false_eq_true, Int.reduceEq, Int.reduceLT, Int.reduceLE, Int.reduceNeg, Int.reduceToNat, ↓okI, ↓okI2, ↓aV_d, ↓aV_o, ↓aV_n, ↓aV_w, ↓dV_d, ↓dV_n, ↓dV_w, ↓gE_0, ↓gE_s, ↓eL_l, ↓eD_l, ↓eV_d, ↓eV_l, ↓nA_d, ↓nA_o, ↓iD_i, ↓bD_b, ↓kD_i, ↓kD_s, ↓zD_d, ↓vZ_d, ↓vZ_n, ↓sR_0, ↓sR_s, ↓sK_n, ↓sK_0, ↓lD_l, ↓sD_l, ↓sD_t, ↓tD_t, ↓dA_nil, ↓dA_d, ↓dN_nil, ↓dN_c, ↓oZ_addI, ↓oZ_addS, ↓oZ_addT, ↓oZ_addL, ↓oZ_sub, ↓oZ_mul, ↓oZ_mulT, ↓oZ_fdiv, ↓oZ_mod, ↓oZ_pow, ↓oZ_eqI, ↓oZ_eqS, ↓oZ_neS, ↓oZ_neI, ↓oZ_lt, ↓oZ_le, ↓oZ_gt, ↓oZ_ge, ↓oZ_ixL, ↓oZ_ixT, ↓aI_0, ↓aI_1, ↓aI_2, ↓nI_0, ↓nI_1, ↓lS_0, ↓lS_s, ↓aI_int, ↓aI_str, ↓aI_row, ↓aI_b2, ↓aI_i1, ↓aI_i2, ↓aI_i3, ↓aI_i4, ↓aI_i5, ↓aI_i6, ↓oZ_abyz, ↓oZ_az, ↓cZ_lenLm, ↓cZ_lenTm, ↓cZ_lenP, ↓oZ_ixP, ↓sD_P, ↓cZ_lstP, ↓cZ_abs, ↓cZ_int, ↓cZ_intB, ↓cZ_tup, ↓cZ_lstL, ↓cZ_lstT, ↓cZ_all, ↓cZ_any, ↓cZ_max2, ↓cZ_min2, ↓cZ_sum, ↓cZ_sorted, ↓xE_int, ↓xE_bl, ↓xE_str, ↓xE_non, ↓xE_var, ↓xE_op, ↓xE_neg, ↓xE_nt, ↓xE_an, ↓xE_or, ↓xE_ch, ↓xE_isN, ↓xE_notN, ↓xE_ife, ↓xE_tup, ↓xE_lst, ↓xE_sl, ↓sl1_T, ↓sl1_L, ↓xE_cb, ↓xE_isa, ↓xE_call, ↓xE_callS, ↓xE_lc, ↓sN_0, ↓sN_s, ↓xE_lrg, ↓xE_trg, ↓xE_pop, ↓xE_idxL, ↓sT_s, ↓xE_idxT, ↓xE_dget, ↓xE_din, ↓xE_dnin, ↓xE_dset, ↓xA_nil, ↓xA_cons, ↓xT_te, ↓xT_tb, ↓xT_nt, ↓xT_an, ↓xT_or, ↓xT_yes, ↓xT_lend, ↓xP_no, ↓xP_at, ↓xI_rng1, ↓xI_rng2, ↓xI_u, ↓xI_en, ↓xG_nm, ↓xG_tup, ↓xGs_nil, ↓xGs_cons, ↓sV_d, ↓sV_n, ↓sV_w, ↓rV_d, ↓rV_n, ↓rV_w, ↓rV_o, ↓xS_set, ↓xS_asg, ↓xS_seti, ↓xS_app, ↓xS_newD, ↓xS_dput, ↓xS_drop, ↓xS_ret, ↓xS_retN, ↓xS_iff, ↓xS_for, ↓xS_wh, ↓xS_brk, ↓xS_cont, ↓xS_nx, ↓xS_seq, ↓xS_fz, ↓fzK_l, ↓fzK_d, ↓fzK_n, ↓fzK_D, ↓kS_nx, ↓kS_rt, ↓kS_bk, ↓kS_ct, ↓out1_rt, ↓out2_rt, ↓u_c_l_value, ↓aI_at a0, l0, tn, ↓fK_s L1', q2]
    rw [if_pos q]
  · have q2 : (0 : Int) < (log.length : Int) := gt0.mpr q
    have hi := hin q
    simp (config := { implicitDefEqProofs := false }) (disch := walk_at "side") only [↓reduceIte, decide_eq_true_eq, decide_true, decide_false, Bool.not_true, Bool.not_false, Bool.false_eq_true, Int.reduceEq, Int.reduceLT, Int.reduceLE, Int.reduceNeg, Int.reduceToNat, ↓okI, ↓okI2, ↓aV_d, ↓aV_o, ↓aV_n, ↓aV_w, ↓dV_d, ↓dV_n, ↓dV_w, ↓gE_0, ↓gE_s, ↓eL_l, ↓eD_l, ↓eV_d, ↓eV_l, ↓nA_d, ↓nA_o, ↓iD_i, ↓bD_b, ↓kD_i, ↓kD_s, ↓zD_d, ↓vZ_d, ↓vZ_n, ↓sR_0, ↓sR_s, ↓sK_n, ↓sK_0, ↓lD_l, ↓sD_l, ↓sD_t, ↓tD_t, ↓dA_nil, ↓dA_d, ↓dN_nil, ↓dN_c, ↓oZ_addI, ↓oZ_addS, ↓oZ_addT, ↓oZ_addL, ↓oZ_sub, ↓oZ_mul, ↓oZ_mulT, ↓oZ_fdiv, ↓oZ_mod, ↓oZ_pow, ↓oZ_eqI, ↓oZ_eqS, ↓oZ_neS, ↓oZ_neI, ↓oZ_lt, ↓oZ_le, ↓oZ_gt, ↓oZ_ge, ↓oZ_ixL, ↓oZ_ixT, ↓aI_0, ↓aI_1, ↓aI_2, ↓nI_0, ↓nI_1, ↓lS_0, ↓lS_s, ↓aI_int, ↓aI_str, ↓aI_row, ↓aI_b2, ↓aI_i1, ↓aI_i2, ↓aI_i3, ↓aI_i4, ↓aI_i5, ↓aI_i6, ↓oZ_abyz, ↓oZ_az, ↓cZ_lenLm, ↓cZ_lenTm, ↓cZ_lenP, ↓oZ_ixP, ↓sD_P, ↓cZ_lstP, ↓cZ_abs, ↓cZ_int, ↓cZ_intB, ↓cZ_tup, ↓cZ_lstL, ↓cZ_lstT, ↓cZ_all, ↓cZ_any, ↓cZ_max2, ↓cZ_min2, ↓cZ_sum, ↓cZ_sorted, ↓xE_int, ↓xE_bl, ↓xE_str, ↓xE_non, ↓xE_var, ↓xE_op, ↓xE_neg, ↓xE_nt, ↓xE_an, ↓xE_or, ↓xE_ch, ↓xE_isN, ↓xE_notN, ↓xE_ife, ↓xE_tup, ↓xE_lst, ↓xE_sl, ↓sl1_T, ↓sl1_L, ↓xE_cb, ↓xE_isa, ↓xE_call, ↓xE_callS, ↓xE_lc, ↓sN_0, ↓sN_s, ↓xE_lrg, ↓xE_trg, ↓xE_pop, ↓xE_idxL, ↓sT_s, ↓xE_idxT, ↓xE_dget, ↓xE_din, ↓xE_dnin, ↓xE_dset, ↓xA_nil, ↓xA_cons, ↓xT_te, ↓xT_tb, ↓xT_nt, ↓xT_an, ↓xT_or, ↓xT_yes, ↓xT_lend, ↓xP_no, ↓xP_at, ↓xI_rng1, ↓xI_rng2, ↓xI_u, ↓xI_en, ↓xG_nm, ↓xG_tup, ↓xGs_nil, ↓xGs_cons, ↓sV_d, ↓sV_n, ↓sV_w, ↓rV_d, ↓rV_n, ↓rV_w, ↓rV_o, ↓xS_set, ↓xS_asg, ↓xS_seti, ↓xS_app, ↓xS_newD, ↓xS_dput, ↓xS_drop, ↓xS_ret, ↓xS_retN, ↓xS_iff, ↓xS_for, ↓xS_wh, ↓xS_brk, ↓xS_cont, ↓xS_nx, ↓xS_seq, ↓xS_fz, ↓fzK_l, ↓fzK_d, ↓fzK_n, ↓fzK_D, ↓kS_nx, ↓kS_rt, ↓kS_bk, ↓kS_ct, ↓out1_rt, ↓out2_rt, ↓u_c_l_value, ↓aI_at a0, l0, tn, ↓fK_s L1', q2, ↓ixK_rows]
    rw [if_neg q]

theorem table_eq {n : Nat} {maps : List (List Int)} {L : List Str} (hn : n ≤ 1000) (hok : ∀ x ∈ maps, okMap n x) (hl : maps.length ≤ 8) (hE : (elementsOf maps 40).length ≤ 40) : f_l_table [.tuple (L.map .str), .list (maps.map tupI)] = some (.dat (tableD L (firstsOf maps) (rowsOf maps))) := by
  have okE : ∀ x ∈ elementsOf maps 40, okMap n x := fun x m => gen_ok hok (elements_gen x m)
  have tm : ∀ a ∈ elementsOf maps 40, ∀ b ∈ elementsOf maps 40, thenI a b ∈ elementsOf maps 40 := fun a ha b hb => elements_times hok hE ha hb
  have mi : ∀ m ∈ maps, m ∈ elementsOf maps 40 := maps_in
  have K1 := @elements40
  generalize hEe : elementsOf maps 40 = E at hE okE tm mi
  have s1 := shL E
  have zE : (E.map tupI).length < sizeLine := by rw [List.length_map, sizeLine_eq]; omega
  have zM : (maps.map tupI).length < sizeLine := by rw [List.length_map, sizeLine_eq]; omega
  have inner : ∀ a ∈ E, ∀ e3 : Ent, lcGo (ltn [] 5 .yes e_l_table_3) (E.map tupI) [.dat (.tuple (L.map .str)), .dat (.list (maps.map tupI)), .dat (.list (E.map tupI)), e3, .dat (tupI a), .no] = some (E.map (fun b => .int (idxI (thenI a b) E : Nat)), [.dat (.tuple (L.map .str)), .dat (.list (maps.map tupI)), .dat (.list (E.map tupI)), e3, .dat (tupI a), .no]) := fun a ha e3 => by
    refine lc_map _ _ fun b hb => ?_
    have c1 : a.length ≤ 1000 := by rw [(okE a ha).1]; exact hn
    have c2 : ∀ j ∈ a, 0 ≤ j ∧ j < (b.length : Int) := by rw [(okE b hb).1]; exact (okE a ha).2
    have s2 := shT (thenI a b)
    have hi := tm a ha b hb
    rw [ltn_x]
    simp (config := { implicitDefEqProofs := false }) (disch := walk_at "side") only [↓reduceIte, decide_eq_true_eq, decide_true, decide_false, Bool.not_true, Bool.not_false, Bool.false_eq_true, Int.reduceEq, Int.reduceLT, Int.reduceLE, Int.reduceNeg, Int.reduceToNat, ↓okI, ↓okI2, ↓aV_d, ↓aV_o, ↓aV_n, ↓aV_w, ↓dV_d, ↓dV_n, ↓dV_w, ↓gE_0, ↓gE_s, ↓eL_l, ↓eD_l, ↓eV_d, ↓eV_l, ↓nA_d, ↓nA_o, ↓iD_i, ↓bD_b, ↓kD_i, ↓kD_s, ↓zD_d, ↓vZ_d, ↓vZ_n, ↓sR_0, ↓sR_s, ↓sK_n, ↓sK_0, ↓lD_l, ↓sD_l, ↓sD_t, ↓tD_t, ↓dA_nil, ↓dA_d, ↓dN_nil, ↓dN_c, ↓oZ_addI, ↓oZ_addS, ↓oZ_addT, ↓oZ_addL, ↓oZ_sub, ↓oZ_mul, ↓oZ_mulT, ↓oZ_fdiv, ↓oZ_mod, ↓oZ_pow, ↓oZ_eqI, ↓oZ_eqS, ↓oZ_neS, ↓oZ_neI, ↓oZ_lt, ↓oZ_le, ↓oZ_gt, ↓oZ_ge, ↓oZ_ixL, ↓oZ_ixT, ↓aI_0, ↓aI_1, ↓aI_2, ↓nI_0, ↓nI_1, ↓lS_0, ↓lS_s, ↓aI_int, ↓aI_str, ↓aI_row, ↓aI_b2, ↓aI_i1, ↓aI_i2, ↓aI_i3, ↓aI_i4, ↓aI_i5, ↓aI_i6, ↓oZ_abyz, ↓oZ_az, ↓cZ_lenLm, ↓cZ_lenTm, ↓cZ_lenP, ↓oZ_ixP, ↓sD_P, ↓cZ_lstP, ↓cZ_abs, ↓cZ_int, ↓cZ_intB, ↓cZ_tup, ↓cZ_lstL, ↓cZ_lstT, ↓cZ_all, ↓cZ_any, ↓cZ_max2, ↓cZ_min2, ↓cZ_sum, ↓cZ_sorted, ↓xE_int, ↓xE_bl, ↓xE_str, ↓xE_non, ↓xE_var, ↓xE_op, ↓xE_neg, ↓xE_nt, ↓xE_an, ↓xE_or, ↓xE_ch, ↓xE_isN, ↓xE_notN, ↓xE_ife, ↓xE_tup, ↓xE_lst, ↓xE_sl, ↓sl1_T, ↓sl1_L, ↓xE_cb, ↓xE_isa, ↓xE_call, ↓xE_callS, ↓xE_lc, ↓sN_0, ↓sN_s, ↓xE_lrg, ↓xE_trg, ↓xE_pop, ↓xE_idxL, ↓sT_s, ↓xE_idxT, ↓xE_dget, ↓xE_din, ↓xE_dnin, ↓xE_dset, ↓xA_nil, ↓xA_cons, ↓xT_te, ↓xT_tb, ↓xT_nt, ↓xT_an, ↓xT_or, ↓xT_yes, ↓xT_lend, ↓xP_no, ↓xP_at, ↓xI_rng1, ↓xI_rng2, ↓xI_u, ↓xI_en, ↓xG_nm, ↓xG_tup, ↓xGs_nil, ↓xGs_cons, ↓sV_d, ↓sV_n, ↓sV_w, ↓rV_d, ↓rV_n, ↓rV_w, ↓rV_o, ↓xS_set, ↓xS_asg, ↓xS_seti, ↓xS_app, ↓xS_newD, ↓xS_dput, ↓xS_drop, ↓xS_ret, ↓xS_retN, ↓xS_iff, ↓xS_for, ↓xS_wh, ↓xS_brk, ↓xS_cont, ↓xS_nx, ↓xS_seq, ↓xS_fz, ↓fzK_l, ↓fzK_d, ↓fzK_n, ↓fzK_D, ↓kS_nx, ↓kS_rt, ↓kS_bk, ↓kS_ct, ↓out1_rt, ↓out2_rt, ↓u_e_l_table_3, ↓sameK, ↓ixK_rows]
  have outer : lcGo (ltn [] 4 .yes e_l_table_5) (E.map tupI) [.dat (.tuple (L.map .str)), .dat (.list (maps.map tupI)), .dat (.list (E.map tupI)), .no, .no, .no] = some (E.map (fun a => tupI (E.map fun b => (idxI (thenI a b) E : Nat))), [.dat (.tuple (L.map .str)), .dat (.list (maps.map tupI)), .dat (.list (E.map tupI)), .no, .no, .no]) := by
    refine lc_map _ _ fun a ha => ?_
    have L3 := inner a ha .no
    rw [ltn_x]
    simp (config := { implicitDefEqProofs := false }) (disch := walk_at "side") only [↓reduceIte, decide_eq_true_eq, decide_true, decide_false, Bool.not_true, Bool.not_false, Bool.false_eq_true, Int.reduceEq, Int.reduceLT, Int.reduceLE, Int.reduceNeg, Int.reduceToNat, ↓okI, ↓okI2, ↓aV_d, ↓aV_o, ↓aV_n, ↓aV_w, ↓dV_d, ↓dV_n, ↓dV_w, ↓gE_0, ↓gE_s, ↓eL_l, ↓eD_l, ↓eV_d, ↓eV_l, ↓nA_d, ↓nA_o, ↓iD_i, ↓bD_b, ↓kD_i, ↓kD_s, ↓zD_d, ↓vZ_d, ↓vZ_n, ↓sR_0, ↓sR_s, ↓sK_n, ↓sK_0, ↓lD_l, ↓sD_l, ↓sD_t, ↓tD_t, ↓dA_nil, ↓dA_d, ↓dN_nil, ↓dN_c, ↓oZ_addI, ↓oZ_addS, ↓oZ_addT, ↓oZ_addL, ↓oZ_sub, ↓oZ_mul, ↓oZ_mulT, ↓oZ_fdiv, ↓oZ_mod, ↓oZ_pow, ↓oZ_eqI, ↓oZ_eqS, ↓oZ_neS, ↓oZ_neI, ↓oZ_lt, ↓oZ_le, ↓oZ_gt, ↓oZ_ge, ↓oZ_ixL, ↓oZ_ixT, ↓aI_0, ↓aI_1, ↓aI_2, ↓nI_0, ↓nI_1, ↓lS_0, ↓lS_s, ↓aI_int, ↓aI_str, ↓aI_row, ↓aI_b2, ↓aI_i1, ↓aI_i2, ↓aI_i3, ↓aI_i4, ↓aI_i5, ↓aI_i6, ↓oZ_abyz, ↓oZ_az, ↓cZ_lenLm, ↓cZ_lenTm, ↓cZ_lenP, ↓oZ_ixP, ↓sD_P, ↓cZ_lstP, ↓cZ_abs, ↓cZ_int, ↓cZ_intB, ↓cZ_tup, ↓cZ_lstL, ↓cZ_lstT, ↓cZ_all, ↓cZ_any, ↓cZ_max2, ↓cZ_min2, ↓cZ_sum, ↓cZ_sorted, ↓xE_int, ↓xE_bl, ↓xE_str, ↓xE_non, ↓xE_var, ↓xE_op, ↓xE_neg, ↓xE_nt, ↓xE_an, ↓xE_or, ↓xE_ch, ↓xE_isN, ↓xE_notN, ↓xE_ife, ↓xE_tup, ↓xE_lst, ↓xE_sl, ↓sl1_T, ↓sl1_L, ↓xE_cb, ↓xE_isa, ↓xE_call, ↓xE_callS, ↓xE_lc, ↓sN_0, ↓sN_s, ↓xE_lrg, ↓xE_trg, ↓xE_pop, ↓xE_idxL, ↓sT_s, ↓xE_idxT, ↓xE_dget, ↓xE_din, ↓xE_dnin, ↓xE_dset, ↓xA_nil, ↓xA_cons, ↓xT_te, ↓xT_tb, ↓xT_nt, ↓xT_an, ↓xT_or, ↓xT_yes, ↓xT_lend, ↓xP_no, ↓xP_at, ↓xI_rng1, ↓xI_rng2, ↓xI_u, ↓xI_en, ↓xG_nm, ↓xG_tup, ↓xGs_nil, ↓xGs_cons, ↓sV_d, ↓sV_n, ↓sV_w, ↓rV_d, ↓rV_n, ↓rV_w, ↓rV_o, ↓xS_set, ↓xS_asg, ↓xS_seti, ↓xS_app, ↓xS_newD, ↓xS_dput, ↓xS_drop, ↓xS_ret, ↓xS_retN, ↓xS_iff, ↓xS_for, ↓xS_wh, ↓xS_brk, ↓xS_cont, ↓xS_nx, ↓xS_seq, ↓xS_fz, ↓fzK_l, ↓fzK_d, ↓fzK_n, ↓fzK_D, ↓kS_nx, ↓kS_rt, ↓kS_bk, ↓kS_ct, ↓out1_rt, ↓out2_rt, ↓u_e_l_table_5, ↓lK_s L3]
    unfold tupI
    rw [List.map_map]
    rfl
  have firsts : ∀ e3 : Ent, lcGo (ltn [] 4 .yes e_l_table_1) (maps.map tupI) [.dat (.tuple (L.map .str)), .dat (.list (maps.map tupI)), .dat (.list (E.map tupI)), e3, .no, .no] = some (maps.map (fun m => .int (idxI m E : Nat)), [.dat (.tuple (L.map .str)), .dat (.list (maps.map tupI)), .dat (.list (E.map tupI)), e3, .no, .no]) := fun e3 => by
    refine lc_map _ _ fun m hm => ?_
    have s2 := shT m
    have hi := mi m hm
    rw [ltn_x]
    simp (config := { implicitDefEqProofs := false }) (disch := walk_at "side") only [↓reduceIte, decide_eq_true_eq, decide_true, decide_false, Bool.not_true, Bool.not_false, Bool.false_eq_true, Int.reduceEq, Int.reduceLT, Int.reduceLE, Int.reduceNeg, Int.reduceToNat, ↓okI, ↓okI2, ↓aV_d, ↓aV_o, ↓aV_n, ↓aV_w, ↓dV_d, ↓dV_n, ↓dV_w, ↓gE_0, ↓gE_s, ↓eL_l, ↓eD_l, ↓eV_d, ↓eV_l, ↓nA_d, ↓nA_o, ↓iD_i, ↓bD_b, ↓kD_i, ↓kD_s, ↓zD_d, ↓vZ_d, ↓vZ_n, ↓sR_0, ↓sR_s, ↓sK_n, ↓sK_0, ↓lD_l, ↓sD_l, ↓sD_t, ↓tD_t, ↓dA_nil, ↓dA_d, ↓dN_nil, ↓dN_c, ↓oZ_addI, ↓oZ_addS, ↓oZ_addT, ↓oZ_addL, ↓oZ_sub, ↓oZ_mul, ↓oZ_mulT, ↓oZ_fdiv, ↓oZ_mod, ↓oZ_pow, ↓oZ_eqI, ↓oZ_eqS, ↓oZ_neS, ↓oZ_neI, ↓oZ_lt, ↓oZ_le, ↓oZ_gt, ↓oZ_ge, ↓oZ_ixL, ↓oZ_ixT, ↓aI_0, ↓aI_1, ↓aI_2, ↓nI_0, ↓nI_1, ↓lS_0, ↓lS_s, ↓aI_int, ↓aI_str, ↓aI_row, ↓aI_b2, ↓aI_i1, ↓aI_i2, ↓aI_i3, ↓aI_i4, ↓aI_i5, ↓aI_i6, ↓oZ_abyz, ↓oZ_az, ↓cZ_lenLm, ↓cZ_lenTm, ↓cZ_lenP, ↓oZ_ixP, ↓sD_P, ↓cZ_lstP, ↓cZ_abs, ↓cZ_int, ↓cZ_intB, ↓cZ_tup, ↓cZ_lstL, ↓cZ_lstT, ↓cZ_all, ↓cZ_any, ↓cZ_max2, ↓cZ_min2, ↓cZ_sum, ↓cZ_sorted, ↓xE_int, ↓xE_bl, ↓xE_str, ↓xE_non, ↓xE_var, ↓xE_op, ↓xE_neg, ↓xE_nt, ↓xE_an, ↓xE_or, ↓xE_ch, ↓xE_isN, ↓xE_notN, ↓xE_ife, ↓xE_tup, ↓xE_lst, ↓xE_sl, ↓sl1_T, ↓sl1_L, ↓xE_cb, ↓xE_isa, ↓xE_call, ↓xE_callS, ↓xE_lc, ↓sN_0, ↓sN_s, ↓xE_lrg, ↓xE_trg, ↓xE_pop, ↓xE_idxL, ↓sT_s, ↓xE_idxT, ↓xE_dget, ↓xE_din, ↓xE_dnin, ↓xE_dset, ↓xA_nil, ↓xA_cons, ↓xT_te, ↓xT_tb, ↓xT_nt, ↓xT_an, ↓xT_or, ↓xT_yes, ↓xT_lend, ↓xP_no, ↓xP_at, ↓xI_rng1, ↓xI_rng2, ↓xI_u, ↓xI_en, ↓xG_nm, ↓xG_tup, ↓xGs_nil, ↓xGs_cons, ↓sV_d, ↓sV_n, ↓sV_w, ↓rV_d, ↓rV_n, ↓rV_w, ↓rV_o, ↓xS_set, ↓xS_asg, ↓xS_seti, ↓xS_app, ↓xS_newD, ↓xS_dput, ↓xS_drop, ↓xS_ret, ↓xS_retN, ↓xS_iff, ↓xS_for, ↓xS_wh, ↓xS_brk, ↓xS_cont, ↓xS_nx, ↓xS_seq, ↓xS_fz, ↓fzK_l, ↓fzK_d, ↓fzK_n, ↓fzK_D, ↓kS_nx, ↓kS_rt, ↓kS_bk, ↓kS_ct, ↓out1_rt, ↓out2_rt, ↓u_e_l_table_1, ↓ixK_rows]
  rw [x_l_table]
  have F := firsts (.dat (.tuple (E.map (fun a => tupI (E.map fun b => ((idxI (thenI a b) E : Nat) : Int))))))
  have Kel : ∀ (kv : Vl → Option RetV), cK f_l_elements [.list (maps.map tupI), .int 40] kv = kv (.w (.lst (E.map tupI))) := fun kv => by rw [elements40 hn hok hl, hEe]
  simp (config := { implicitDefEqProofs := false }) (disch := walk_at "side") only [↓reduceIte, decide_eq_true_eq, decide_true, decide_false, Bool.not_true, Bool.not_false, Bool.false_eq_true, Int.reduceEq, Int.reduceLT, Int.reduceLE, Int.reduceNeg, Int.reduceToNat, ↓okI, ↓okI2, ↓aV_d, ↓aV_o, ↓aV_n, ↓aV_w, ↓dV_d, ↓dV_n, ↓dV_w, ↓gE_0, ↓gE_s, ↓eL_l, ↓eD_l, ↓eV_d, ↓eV_l, ↓nA_d, ↓nA_o, ↓iD_i, ↓bD_b, ↓kD_i, ↓kD_s, ↓zD_d, ↓vZ_d, ↓vZ_n, ↓sR_0, ↓sR_s, ↓sK_n, ↓sK_0, ↓lD_l, ↓sD_l, ↓sD_t, ↓tD_t, ↓dA_nil, ↓dA_d, ↓dN_nil, ↓dN_c, ↓oZ_addI, ↓oZ_addS, ↓oZ_addT, ↓oZ_addL, ↓oZ_sub, ↓oZ_mul, ↓oZ_mulT, ↓oZ_fdiv, ↓oZ_mod, ↓oZ_pow, ↓oZ_eqI, ↓oZ_eqS, ↓oZ_neS, ↓oZ_neI, ↓oZ_lt, ↓oZ_le, ↓oZ_gt, ↓oZ_ge, ↓oZ_ixL, ↓oZ_ixT, ↓aI_0, ↓aI_1, ↓aI_2, ↓nI_0, ↓nI_1, ↓lS_0, ↓lS_s, ↓aI_int, ↓aI_str, ↓aI_row, ↓aI_b2, ↓aI_i1, ↓aI_i2, ↓aI_i3, ↓aI_i4, ↓aI_i5, ↓aI_i6, ↓oZ_abyz, ↓oZ_az, ↓cZ_lenLm, ↓cZ_lenTm, ↓cZ_lenP, ↓oZ_ixP, ↓sD_P, ↓cZ_lstP, ↓cZ_abs, ↓cZ_int, ↓cZ_intB, ↓cZ_tup, ↓cZ_lstL, ↓cZ_lstT, ↓cZ_all, ↓cZ_any, ↓cZ_max2, ↓cZ_min2, ↓cZ_sum, ↓cZ_sorted, ↓xE_int, ↓xE_bl, ↓xE_str, ↓xE_non, ↓xE_var, ↓xE_op, ↓xE_neg, ↓xE_nt, ↓xE_an, ↓xE_or, ↓xE_ch, ↓xE_isN, ↓xE_notN, ↓xE_ife, ↓xE_tup, ↓xE_lst, ↓xE_sl, ↓sl1_T, ↓sl1_L, ↓xE_cb, ↓xE_isa, ↓xE_call, ↓xE_callS, ↓xE_lc, ↓sN_0, ↓sN_s, ↓xE_lrg, ↓xE_trg, ↓xE_pop, ↓xE_idxL, ↓sT_s, ↓xE_idxT, ↓xE_dget, ↓xE_din, ↓xE_dnin, ↓xE_dset, ↓xA_nil, ↓xA_cons, ↓xT_te, ↓xT_tb, ↓xT_nt, ↓xT_an, ↓xT_or, ↓xT_yes, ↓xT_lend, ↓xP_no, ↓xP_at, ↓xI_rng1, ↓xI_rng2, ↓xI_u, ↓xI_en, ↓xG_nm, ↓xG_tup, ↓xGs_nil, ↓xGs_cons, ↓sV_d, ↓sV_n, ↓sV_w, ↓rV_d, ↓rV_n, ↓rV_w, ↓rV_o, ↓xS_set, ↓xS_asg, ↓xS_seti, ↓xS_app, ↓xS_newD, ↓xS_dput, ↓xS_drop, ↓xS_ret, ↓xS_retN, ↓xS_iff, ↓xS_for, ↓xS_wh, ↓xS_brk, ↓xS_cont, ↓xS_nx, ↓xS_seq, ↓xS_fz, ↓fzK_l, ↓fzK_d, ↓fzK_n, ↓fzK_D, ↓kS_nx, ↓kS_rt, ↓kS_bk, ↓kS_ct, ↓out1_rt, ↓out2_rt, ↓u_c_l_table, ↓Kel, ↓lK_s outer, ↓lK_s F]
  unfold tableD prodD firstsOf rowsOf
  rw [hEe, List.map_map, List.map_map]
  rfl
theorem tableK {β : Type} {n : Nat} {maps : List (List Int)} {L : List Str} {kv : Vl → Option β} (hn : n ≤ 1000) (hok : ∀ x ∈ maps, okMap n x) (hl : maps.length ≤ 8) (hE : (elementsOf maps 40).length ≤ 40) : cK f_l_table [.tuple (L.map .str), .list (maps.map tupI)] kv = kv (.d (tableD L (firstsOf maps) (rowsOf maps))) := cK_s (table_eq hn hok hl hE)

end CS

namespace CS
open PySem PySem.Spec PyProof.Rows L2 DL EV
local macro_rules | `(tactic| walk_at "side") => `(tactic| first | omega | (simp only [List.length_cons, List.length_nil, List.length_map, List.length_append, List.length_range, PySem.sizeLine_eq]; omega) | assumption | (simp; done))
def logD (l : List Str) : D := .tuple (l.map .str)
abbrev FL := List (List Int) × List (List Str)
def addL (L : List Str) (maps : List (List Int)) (s : FL) (k : Nat) : FL := if maps.getD k [] ∈ s.1 then s else (s.1 ++ [maps.getD k []], s.2 ++ [[L.getD k ""]])
def stepL (L : List Str) (maps : List (List Int)) (at1 : Nat) (s : FL) (k : Nat) : FL := if at1 < s.1.length ∧ ¬ thenI (s.1.getD at1 []) (maps.getD k []) ∈ s.1 then (s.1 ++ [thenI (s.1.getD at1 []) (maps.getD k [])], s.2 ++ [s.2.getD at1 [] ++ [L.getD k ""]]) else s
def initL (L : List Str) (maps : List (List Int)) : FL := (List.range maps.length).foldl (addL L maps) ([], [])
def roundL (L : List Str) (maps : List (List Int)) (s : FL) (at1 : Nat) : FL := (List.range maps.length).foldl (stepL L maps at1) s
def stageL (L : List Str) (maps : List (List Int)) (i : Nat) : FL := (List.range i).foldl (roundL L maps) (initL L maps)
/-- what holds of found and logs: lengths alike, no log longer than there are logs -/
structure OkFL (n b : Nat) (s : FL) : Prop where
  ok : ∀ x ∈ s.1, okMap n x
  len : s.2.length = s.1.length
  le : s.1.length ≤ b
  logs : ∀ l ∈ s.2, l.length ≤ s.1.length
theorem OkFL.mono {n b b' : Nat} {s : FL} (h : OkFL n b s) (hb : b ≤ b') : OkFL n b' s := ⟨h.ok, h.len, by have := h.le; omega, h.logs⟩
theorem getD_memS {L : List (List Str)} {k : Nat} (h : k < L.length) : L.getD k [] ∈ L := by
  rw [List.getD_eq_getElem?_getD, List.getElem?_eq_getElem h]
  exact List.getElem_mem h
theorem addL_ok {n b : Nat} {L : List Str} {maps : List (List Int)} {s : FL} {k : Nat} (hk : k < maps.length) (ho : ∀ x ∈ maps, okMap n x) (h : OkFL n b s) : OkFL n (b + 1) (addL L maps s k) := by
  unfold addL
  split
  · exact h.mono (by omega)
  · obtain ⟨h1, h2, h3, h4⟩ := h
    refine ⟨fun x m => ?_, by simp [h2], by rw [List.length_append, List.length_singleton]; omega, fun l m => ?_⟩
    · rcases List.mem_append.mp m with m | m
      · exact h1 x m
      · rw [List.mem_singleton.mp m]; exact ho _ (getD_mem hk)
    · rw [List.length_append, List.length_singleton]
      rcases List.mem_append.mp m with m | m
      · have := h4 l m; omega
      · rw [List.mem_singleton.mp m]; simp
theorem stepL_ok {n b at1 : Nat} {L : List Str} {maps : List (List Int)} {s : FL} {k : Nat} (hk : k < maps.length) (ho : ∀ x ∈ maps, okMap n x) (h : OkFL n b s) : OkFL n (b + 1) (stepL L maps at1 s k) := by
  unfold stepL
  split
  · rename_i q
    obtain ⟨h1, h2, h3, h4⟩ := h
    refine ⟨fun x m => ?_, by simp [h2], by rw [List.length_append, List.length_singleton]; omega, fun l m => ?_⟩
    · rcases List.mem_append.mp m with m | m
      · exact h1 x m
      · rw [List.mem_singleton.mp m]; exact then_ok (h1 _ (getD_mem q.1)) (ho _ (getD_mem hk))
    · rw [List.length_append, List.length_singleton]
      rcases List.mem_append.mp m with m | m
      · have := h4 l m; omega
      · rw [List.mem_singleton.mp m]
        have := h4 _ (getD_memS (k := at1) (by omega))
        rw [List.length_append, List.length_singleton]; omega
  · exact h.mono (by omega)
theorem fl_loop1 {n : Nat} {maps : List (List Int)} {L : List Str} (hn : n ≤ 1000) (ho : ∀ x ∈ maps, okMap n x) (hm : maps.length ≤ 8) (hL : L.length = maps.length) :
    forGo (trn [] (.nm 4) b_l_first_logs_5) (rgD 0 maps.length) [.dat (.tuple (L.map .str)), .dat (.list (maps.map tupI)), .own (.lst []), .own (.lst []), .no, .no] = some (.nx [.dat (.tuple (L.map .str)), .dat (.list (maps.map tupI)), .own (.lst ((initL L maps).1.map tupI)), .own (.lst ((initL L maps).2.map logD)), lastE (fun i : Nat => PyData.int ((i : Nat) : Int)) (List.range maps.length) .no, .no]) ∧ OkFL n 8 (initL L maps) := by
  rw [rgD_0]
  have := for_foldi (f := trn [] (.nm 4) b_l_first_logs_5) (fun i : Nat => PyData.int ((i : Nat) : Int)) (addL L maps) (fun s e => [.dat (.tuple (L.map .str)), .dat (.list (maps.map tupI)), .own (.lst (s.1.map tupI)), .own (.lst (s.2.map logD)), e, .no]) (fun i s => OkFL n i s) (xs := List.range maps.length) (s := ([], [])) (e := .no) ⟨by simp, rfl, by simp, by simp⟩ fun i s e k hi hk hp => by
    have hk' := List.mem_range.mp hk
    rw [List.length_range] at hi
    refine ⟨?_, addL_ok hk' ho hp⟩
    obtain ⟨h1, h2, h3, h4⟩ := hp
    have hz : (s.1.map tupI).length < sizeLine := by rw [List.length_map, sizeLine_eq]; omega
    have hz2 : (s.2.map logD).length < sizeLine := by rw [List.length_map, sizeLine_eq]; omega
    have s1 := shT (maps.getD k [])
    have s2 := shL s.1
    rw [trn_x]
    by_cases q : maps.getD k [] ∈ s.1
    · simp (config := { implicitDefEqProofs := false }) (disch := walk_at "side") only [↓reduceIte, decide_eq_true_eq, decide_true, decide_false, Bool.not_true, Bool.not_false, Bool.false_eq_true, Int.reduceEq, Int.reduceLT, Int.reduceLE, Int.reduceNeg, Int.reduceToNat, ↓okI, ↓okI2, ↓aV_d, ↓aV_o, ↓aV_n, ↓aV_w, ↓dV_d, ↓dV_n, ↓dV_w, ↓gE_0, ↓gE_s, ↓eL_l, ↓eD_l, ↓eV_d, ↓eV_l, ↓nA_d, ↓nA_o, ↓iD_i, ↓bD_b, ↓kD_i, ↓kD_s, ↓zD_d, ↓vZ_d, ↓vZ_n, ↓sR_0, ↓sR_s, ↓sK_n, ↓sK_0, ↓lD_l, ↓sD_l, ↓sD_t, ↓tD_t, ↓dA_nil, ↓dA_d, ↓dN_nil, ↓dN_c, ↓oZ_addI, ↓oZ_addS, ↓oZ_addT, ↓oZ_addL, ↓oZ_sub, ↓oZ_mul, ↓oZ_mulT, ↓oZ_fdiv, ↓oZ_mod, ↓oZ_pow, ↓oZ_eqI, ↓oZ_eqS, ↓oZ_neS, ↓oZ_neI, ↓oZ_lt, ↓oZ_le, ↓oZ_gt, ↓oZ_ge, ↓oZ_ixL, ↓oZ_ixT, ↓aI_0, ↓aI_1, ↓aI_2, ↓nI_0, ↓nI_1, ↓lS_0, ↓lS_s, ↓aI_int, ↓aI_str, ↓aI_row, ↓aI_b2, ↓aI_i1, ↓aI_i2, ↓aI_i3, ↓aI_i4, ↓aI_i5, ↓aI_i6, ↓oZ_abyz, ↓oZ_az, ↓cZ_lenLm, ↓cZ_lenTm, ↓cZ_lenP, ↓oZ_ixP, ↓sD_P, ↓cZ_lstP, ↓cZ_abs, ↓cZ_int, ↓cZ_intB, ↓cZ_tup, ↓cZ_lstL, ↓cZ_lstT, ↓cZ_all, ↓cZ_any, ↓cZ_max2, ↓cZ_min2, ↓cZ_sum, ↓cZ_sorted, ↓xE_int, ↓xE_bl, ↓xE_str, ↓xE_non, ↓xE_var, ↓xE_op, ↓xE_neg, ↓xE_nt, ↓xE_an, ↓xE_or, ↓xE_ch, ↓xE_isN, ↓xE_notN, ↓xE_ife, ↓xE_tup, ↓xE_lst, ↓xE_sl, ↓sl1_T, ↓sl1_L, ↓xE_cb, ↓xE_isa, ↓xE_call, ↓xE_callS, ↓xE_lc, ↓sN_0, ↓sN_s, ↓xE_lrg, ↓xE_trg, ↓xE_pop, ↓xE_idxL, ↓sT_s, ↓xE_idxT, ↓xE_dget, ↓xE_din, ↓xE_dnin, ↓xE_dset, ↓xA_nil, ↓xA_cons, ↓xT_te, ↓xT_tb, ↓xT_nt, ↓xT_an, ↓xT_or, ↓xT_yes, ↓xT_lend, ↓xP_no, ↓xP_at, ↓xI_rng1, ↓xI_rng2, ↓xI_u, ↓xI_en, ↓xG_nm, ↓xG_tup, ↓xGs_nil, ↓xGs_cons, ↓sV_d, ↓sV_n, ↓sV_w, ↓rV_d, ↓rV_n, ↓rV_w, ↓rV_o, ↓xS_set, ↓xS_asg, ↓xS_seti, ↓xS_app, ↓xS_newD, ↓xS_dput, ↓xS_drop, ↓xS_ret, ↓xS_retN, ↓xS_iff, ↓xS_for, ↓xS_wh, ↓xS_brk, ↓xS_cont, ↓xS_nx, ↓xS_seq, ↓xS_fz, ↓fzK_l, ↓fzK_d, ↓fzK_n, ↓fzK_D, ↓kS_nx, ↓kS_rt, ↓kS_bk, ↓kS_ct, ↓out1_rt, ↓out2_rt, ↓u_b_l_first_logs_5, ↓oZ_ninL, inD_rows, q, Int.toNat_natCast]
      unfold addL
      rw [if_pos q]
    · simp (config := { implicitDefEqProofs := false }) (disch := walk_at "side") only [↓reduceIte, decide_eq_true_eq, decide_true, decide_false, Bool.not_true, Bool.not_false, Bool.false_eq_true, Int.reduceEq, Int.reduceLT, Int.reduceLE, Int.reduceNeg, Int.reduceToNat, ↓okI, ↓okI2, ↓aV_d, ↓aV_o, ↓aV_n, ↓aV_w, ↓dV_d, ↓dV_n, ↓dV_w, ↓gE_0, ↓gE_s, ↓eL_l, ↓eD_l, ↓eV_d, ↓eV_l, ↓nA_d, ↓nA_o, ↓iD_i, ↓bD_b, ↓kD_i, ↓kD_s, ↓zD_d, ↓vZ_d, ↓vZ_n, ↓sR_0, ↓sR_s, ↓sK_n, ↓sK_0, ↓lD_l, ↓sD_l, ↓sD_t, ↓tD_t, ↓dA_nil, ↓dA_d, ↓dN_nil, ↓dN_c, ↓oZ_addI, ↓oZ_addS, ↓oZ_addT, ↓oZ_addL, ↓oZ_sub, ↓oZ_mul, ↓oZ_mulT, ↓oZ_fdiv, ↓oZ_mod, ↓oZ_pow, ↓oZ_eqI, ↓oZ_eqS, ↓oZ_neS, ↓oZ_neI, ↓oZ_lt, ↓oZ_le, ↓oZ_gt, ↓oZ_ge, ↓oZ_ixL, ↓oZ_ixT, ↓aI_0, ↓aI_1, ↓aI_2, ↓nI_0, ↓nI_1, ↓lS_0, ↓lS_s, ↓aI_int, ↓aI_str, ↓aI_row, ↓aI_b2, ↓aI_i1, ↓aI_i2, ↓aI_i3, ↓aI_i4, ↓aI_i5, ↓aI_i6, ↓oZ_abyz, ↓oZ_az, ↓cZ_lenLm, ↓cZ_lenTm, ↓cZ_lenP, ↓oZ_ixP, ↓sD_P, ↓cZ_lstP, ↓cZ_abs, ↓cZ_int, ↓cZ_intB, ↓cZ_tup, ↓cZ_lstL, ↓cZ_lstT, ↓cZ_all, ↓cZ_any, ↓cZ_max2, ↓cZ_min2, ↓cZ_sum, ↓cZ_sorted, ↓xE_int, ↓xE_bl, ↓xE_str, ↓xE_non, ↓xE_var, ↓xE_op, ↓xE_neg, ↓xE_nt, ↓xE_an, ↓xE_or, ↓xE_ch, ↓xE_isN, ↓xE_notN, ↓xE_ife, ↓xE_tup, ↓xE_lst, ↓xE_sl, ↓sl1_T, ↓sl1_L, ↓xE_cb, ↓xE_isa, ↓xE_call, ↓xE_callS, ↓xE_lc, ↓sN_0, ↓sN_s, ↓xE_lrg, ↓xE_trg, ↓xE_pop, ↓xE_idxL, ↓sT_s, ↓xE_idxT, ↓xE_dget, ↓xE_din, ↓xE_dnin, ↓xE_dset, ↓xA_nil, ↓xA_cons, ↓xT_te, ↓xT_tb, ↓xT_nt, ↓xT_an, ↓xT_or, ↓xT_yes, ↓xT_lend, ↓xP_no, ↓xP_at, ↓xI_rng1, ↓xI_rng2, ↓xI_u, ↓xI_en, ↓xG_nm, ↓xG_tup, ↓xGs_nil, ↓xGs_cons, ↓sV_d, ↓sV_n, ↓sV_w, ↓rV_d, ↓rV_n, ↓rV_w, ↓rV_o, ↓xS_set, ↓xS_asg, ↓xS_seti, ↓xS_app, ↓xS_newD, ↓xS_dput, ↓xS_drop, ↓xS_ret, ↓xS_retN, ↓xS_iff, ↓xS_for, ↓xS_wh, ↓xS_brk, ↓xS_cont, ↓xS_nx, ↓xS_seq, ↓xS_fz, ↓fzK_l, ↓fzK_d, ↓fzK_n, ↓fzK_D, ↓kS_nx, ↓kS_rt, ↓kS_bk, ↓kS_ct, ↓out1_rt, ↓out2_rt, ↓u_b_l_first_logs_5, ↓oZ_ninL, inD_rows, q, Int.toNat_natCast]
      unfold addL
      rw [if_neg q, List.map_append, List.map_append]
      rfl
  rw [List.length_range] at this
  exact ⟨this.1, this.2.mono hm⟩
theorem fl_inner {n b at1 : Nat} {maps : List (List Int)} {L : List Str} {s0 : FL} {e4 : Ent} (hb : b ≤ 1000) (hn : n ≤ 1000) (ho : ∀ x ∈ maps, okMap n x) (hm : maps.length ≤ 8) (hL : L.length = maps.length) (h0 : OkFL n b s0) :
    forGo (trn [] (.nm 4) b_l_first_logs_1) (rgD 0 maps.length) [.dat (.tuple (L.map .str)), .dat (.list (maps.map tupI)), .own (.lst (s0.1.map tupI)), .own (.lst (s0.2.map logD)), e4, .dat (.int (at1 : Nat))] = some (.nx [.dat (.tuple (L.map .str)), .dat (.list (maps.map tupI)), .own (.lst ((roundL L maps s0 at1).1.map tupI)), .own (.lst ((roundL L maps s0 at1).2.map logD)), lastE (fun i : Nat => PyData.int ((i : Nat) : Int)) (List.range maps.length) e4, .dat (.int (at1 : Nat))]) ∧ OkFL n (b + 8) (roundL L maps s0 at1) := by
  rw [rgD_0]
  have := for_foldi (f := trn [] (.nm 4) b_l_first_logs_1) (fun i : Nat => PyData.int ((i : Nat) : Int)) (stepL L maps at1) (fun s e => [.dat (.tuple (L.map .str)), .dat (.list (maps.map tupI)), .own (.lst (s.1.map tupI)), .own (.lst (s.2.map logD)), e, .dat (.int (at1 : Nat))]) (fun i s => OkFL n (b + i) s) (xs := List.range maps.length) (s := s0) (e := e4) (h0.mono (by omega)) fun i s e k hi hk hp => by
    have hk' := List.mem_range.mp hk
    rw [List.length_range] at hi
    refine ⟨?_, stepL_ok hk' ho hp⟩
    obtain ⟨h1, h2, h3, h4⟩ := hp
    have hz : (s.1.map tupI).length < sizeLine := by rw [List.length_map, sizeLine_eq]; omega
    have hz2 : (s.2.map logD).length < sizeLine := by rw [List.length_map, sizeLine_eq]; omega
    have s2 := shL s.1
    rw [trn_x]
    by_cases q1 : at1 < s.1.length
    · have q1' : (at1 : Int) < (s.1.length : Int) := by omega
      have ok1 := h1 _ (getD_mem q1)
      have ok2 := ho _ (getD_mem hk')
      have c1 : (s.1.getD at1 []).length ≤ 1000 := by rw [ok1.1]; exact hn
      have c2 : ∀ j ∈ s.1.getD at1 [], 0 ≤ j ∧ j < ((maps.getD k []).length : Int) := by rw [ok2.1]; exact ok1.2
      have s1 := shT (thenI (s.1.getD at1 []) (maps.getD k []))
      have l1 := h4 _ (getD_memS (k := at1) (by omega))
      have aL : ∀ {β : Type} (kd : D → Option β), aI (s.2.map logD) (at1 : Nat) kd = kd (logD (s.2.getD at1 [])) := fun kd => by
        rw [aI_map [] (by omega) (by omega), Int.toNat_natCast]
      have hz3 : ((s.2.getD at1 []).map PyData.str).length + [PyData.str (L.getD k "")].length ≤ sizeLine := by rw [List.length_map, List.length_singleton, sizeLine_eq]; omega
      have oA : ∀ {β : Type} (kz : Rz → Option β), oZ .add (logD (s.2.getD at1 [])) (.tuple [.str (L.getD k "")]) kz = kz (.d (logD (s.2.getD at1 [] ++ [L.getD k ""]))) := fun kz => by
        unfold logD
        rw [oZ_addT hz3, List.map_append]; rfl
      by_cases q2 : thenI (s.1.getD at1 []) (maps.getD k []) ∈ s.1
      · simp (config := { implicitDefEqProofs := false }) (disch := walk_at "side") only [↓reduceIte, decide_eq_true_eq, decide_true, decide_false, Bool.not_true, Bool.not_false, Bool.false_eq_true, Int.reduceEq, Int.reduceLT, Int.reduceLE, Int.reduceNeg, Int.reduceToNat, ↓okI, ↓okI2, ↓aV_d, ↓aV_o, ↓aV_n, ↓aV_w, ↓dV_d, ↓dV_n, ↓dV_w, ↓gE_0, ↓gE_s, ↓eL_l, ↓eD_l, ↓eV_d, ↓eV_l, ↓nA_d, ↓nA_o, ↓iD_i, ↓bD_b, ↓kD_i, ↓kD_s, ↓zD_d, ↓vZ_d, ↓vZ_n, ↓sR_0, ↓sR_s, ↓sK_n, ↓sK_0, ↓lD_l, ↓sD_l, ↓sD_t, ↓tD_t, ↓dA_nil, ↓dA_d, ↓dN_nil, ↓dN_c, ↓oZ_addI, ↓oZ_addS, ↓oZ_addT, ↓oZ_addL, ↓oZ_sub, ↓oZ_mul, ↓oZ_mulT, ↓oZ_fdiv, ↓oZ_mod, ↓oZ_pow, ↓oZ_eqI, ↓oZ_eqS, ↓oZ_neS, ↓oZ_neI, ↓oZ_lt, ↓oZ_le, ↓oZ_gt, ↓oZ_ge, ↓oZ_ixL, ↓oZ_ixT, ↓aI_0, ↓aI_1, ↓aI_2, ↓nI_0, ↓nI_1, ↓lS_0, ↓lS_s, ↓aI_int, ↓aI_str, ↓aI_row, ↓aI_b2, ↓aI_i1, ↓aI_i2, ↓aI_i3, ↓aI_i4, ↓aI_i5, ↓aI_i6, ↓oZ_abyz, ↓oZ_az, ↓cZ_lenLm, ↓cZ_lenTm, ↓cZ_lenP, ↓oZ_ixP, ↓sD_P, ↓cZ_lstP, ↓cZ_abs, ↓cZ_int, ↓cZ_intB, ↓cZ_tup, ↓cZ_lstL, ↓cZ_lstT, ↓cZ_all, ↓cZ_any, ↓cZ_max2, ↓cZ_min2, ↓cZ_sum, ↓cZ_sorted, ↓xE_int, ↓xE_bl, ↓xE_str, ↓xE_non, ↓xE_var, ↓xE_op, ↓xE_neg, ↓xE_nt, ↓xE_an, ↓xE_or, ↓xE_ch, ↓xE_isN, ↓xE_notN, ↓xE_ife, ↓xE_tup, ↓xE_lst, ↓xE_sl, ↓sl1_T, ↓sl1_L, ↓xE_cb, ↓xE_isa, ↓xE_call, ↓xE_callS, ↓xE_lc, ↓sN_0, ↓sN_s, ↓xE_lrg, ↓xE_trg, ↓xE_pop, ↓xE_idxL, ↓sT_s, ↓xE_idxT, ↓xE_dget, ↓xE_din, ↓xE_dnin, ↓xE_dset, ↓xA_nil, ↓xA_cons, ↓xT_te, ↓xT_tb, ↓xT_nt, ↓xT_an, ↓xT_or, ↓xT_yes, ↓xT_lend, ↓xP_no, ↓xP_at, ↓xI_rng1, ↓xI_rng2, ↓xI_u, ↓xI_en, ↓xG_nm, ↓xG_tup, ↓xGs_nil, ↓xGs_cons, ↓sV_d, ↓sV_n, ↓sV_w, ↓rV_d, ↓rV_n, ↓rV_w, ↓rV_o, ↓xS_set, ↓xS_asg, ↓xS_seti, ↓xS_app, ↓xS_newD, ↓xS_dput, ↓xS_drop, ↓xS_ret, ↓xS_retN, ↓xS_iff, ↓xS_for, ↓xS_wh, ↓xS_brk, ↓xS_cont, ↓xS_nx, ↓xS_seq, ↓xS_fz, ↓fzK_l, ↓fzK_d, ↓fzK_n, ↓fzK_D, ↓kS_nx, ↓kS_rt, ↓kS_bk, ↓kS_ct, ↓out1_rt, ↓out2_rt, ↓u_b_l_first_logs_1, ↓sameK, ↓oZ_ninL, inD_rows, q1', q2, Int.toNat_natCast]
        unfold stepL
        rw [if_neg fun h => h.2 q2]
      · simp (config := { implicitDefEqProofs := false }) (disch := walk_at "side") only [↓reduceIte, decide_eq_true_eq, decide_true, decide_false, Bool.not_true, Bool.not_false, Bool.false_eq_true, Int.reduceEq, Int.reduceLT, Int.reduceLE, Int.reduceNeg, Int.reduceToNat, ↓okI, ↓okI2, ↓aV_d, ↓aV_o, ↓aV_n, ↓aV_w, ↓dV_d, ↓dV_n, ↓dV_w, ↓gE_0, ↓gE_s, ↓eL_l, ↓eD_l, ↓eV_d, ↓eV_l, ↓nA_d, ↓nA_o, ↓iD_i, ↓bD_b, ↓kD_i, ↓kD_s, ↓zD_d, ↓vZ_d, ↓vZ_n, ↓sR_0, ↓sR_s, ↓sK_n, ↓sK_0, ↓lD_l, ↓sD_l, ↓sD_t, ↓tD_t, ↓dA_nil, ↓dA_d, ↓dN_nil, ↓dN_c, ↓oZ_addI, ↓oZ_addS, ↓oZ_addT, ↓oZ_addL, ↓oZ_sub, ↓oZ_mul, ↓oZ_mulT, ↓oZ_fdiv, ↓oZ_mod, ↓oZ_pow, ↓oZ_eqI, ↓oZ_eqS, ↓oZ_neS, ↓oZ_neI, ↓oZ_lt, ↓oZ_le, ↓oZ_gt, ↓oZ_ge, ↓oZ_ixL, ↓oZ_ixT, ↓aI_0, ↓aI_1, ↓aI_2, ↓nI_0, ↓nI_1, ↓lS_0, ↓lS_s, ↓aI_int, ↓aI_str, ↓aI_row, ↓aI_b2, ↓aI_i1, ↓aI_i2, ↓aI_i3, ↓aI_i4, ↓aI_i5, ↓aI_i6, ↓oZ_abyz, ↓oZ_az, ↓cZ_lenLm, ↓cZ_lenTm, ↓cZ_lenP, ↓oZ_ixP, ↓sD_P, ↓cZ_lstP, ↓cZ_abs, ↓cZ_int, ↓cZ_intB, ↓cZ_tup, ↓cZ_lstL, ↓cZ_lstT, ↓cZ_all, ↓cZ_any, ↓cZ_max2, ↓cZ_min2, ↓cZ_sum, ↓cZ_sorted, ↓xE_int, ↓xE_bl, ↓xE_str, ↓xE_non, ↓xE_var, ↓xE_op, ↓xE_neg, ↓xE_nt, ↓xE_an, ↓xE_or, ↓xE_ch, ↓xE_isN, ↓xE_notN, ↓xE_ife, ↓xE_tup, ↓xE_lst, ↓xE_sl, ↓sl1_T, ↓sl1_L, ↓xE_cb, ↓xE_isa, ↓xE_call, ↓xE_callS, ↓xE_lc, ↓sN_0, ↓sN_s, ↓xE_lrg, ↓xE_trg, ↓xE_pop, ↓xE_idxL, ↓sT_s, ↓xE_idxT, ↓xE_dget, ↓xE_din, ↓xE_dnin, ↓xE_dset, ↓xA_nil, ↓xA_cons, ↓xT_te, ↓xT_tb, ↓xT_nt, ↓xT_an, ↓xT_or, ↓xT_yes, ↓xT_lend, ↓xP_no, ↓xP_at, ↓xI_rng1, ↓xI_rng2, ↓xI_u, ↓xI_en, ↓xG_nm, ↓xG_tup, ↓xGs_nil, ↓xGs_cons, ↓sV_d, ↓sV_n, ↓sV_w, ↓rV_d, ↓rV_n, ↓rV_w, ↓rV_o, ↓xS_set, ↓xS_asg, ↓xS_seti, ↓xS_app, ↓xS_newD, ↓xS_dput, ↓xS_drop, ↓xS_ret, ↓xS_retN, ↓xS_iff, ↓xS_for, ↓xS_wh, ↓xS_brk, ↓xS_cont, ↓xS_nx, ↓xS_seq, ↓xS_fz, ↓fzK_l, ↓fzK_d, ↓fzK_n, ↓fzK_D, ↓kS_nx, ↓kS_rt, ↓kS_bk, ↓kS_ct, ↓out1_rt, ↓out2_rt, ↓u_b_l_first_logs_1, ↓sameK, ↓oZ_ninL, inD_rows, q1', q2, Int.toNat_natCast, ↓aL, ↓oA]
        unfold stepL
        rw [if_pos ⟨q1, q2⟩, List.map_append, List.map_append]
        rfl
    · have q1' : ¬ (at1 : Int) < (s.1.length : Int) := by omega
      simp (config := { implicitDefEqProofs := false }) (disch := walk_at "side") only [↓reduceIte, decide_eq_true_eq, decide_true, decide_false, Bool.not_true, Bool.not_false, Bool.false_eq_true, Int.reduceEq, Int.reduceLT, Int.reduceLE, Int.reduceNeg, Int.reduceToNat, ↓okI, ↓okI2, ↓aV_d, ↓aV_o, ↓aV_n, ↓aV_w, ↓dV_d, ↓dV_n, ↓dV_w, ↓gE_0, ↓gE_s, ↓eL_l, ↓eD_l, ↓eV_d, ↓eV_l, ↓nA_d, ↓nA_o, ↓iD_i, ↓bD_b, ↓kD_i, ↓kD_s, ↓zD_d, ↓vZ_d, ↓vZ_n, ↓sR_0, ↓sR_s, ↓sK_n, ↓sK_0, ↓lD_l, ↓sD_l, ↓sD_t, ↓tD_t, ↓dA_nil, ↓dA_d, ↓dN_nil, ↓dN_c, ↓oZ_addI, ↓oZ_addS, ↓oZ_addT, ↓oZ_addL, ↓oZ_sub, ↓oZ_mul, ↓oZ_mulT, ↓oZ_fdiv, ↓oZ_mod, ↓oZ_pow, ↓oZ_eqI, ↓oZ_eqS, ↓oZ_neS, ↓oZ_neI, ↓oZ_lt, ↓oZ_le, ↓oZ_gt, ↓oZ_ge, ↓oZ_ixL, ↓oZ_ixT, ↓aI_0, ↓aI_1, ↓aI_2, ↓nI_0, ↓nI_1, ↓lS_0, ↓lS_s, ↓aI_int, ↓aI_str, ↓aI_row, ↓aI_b2, ↓aI_i1, ↓aI_i2, ↓aI_i3, ↓aI_i4, ↓aI_i5, ↓aI_i6, ↓oZ_abyz, ↓oZ_az, ↓cZ_lenLm, ↓cZ_lenTm, ↓cZ_lenP, ↓oZ_ixP, ↓sD_P, ↓cZ_lstP, ↓cZ_abs, ↓cZ_int, ↓cZ_intB, ↓cZ_tup, ↓cZ_lstL, ↓cZ_lstT, ↓cZ_all, ↓cZ_any, ↓cZ_max2, ↓cZ_min2, ↓cZ_sum, ↓cZ_sorted, ↓xE_int, ↓xE_bl, ↓xE_str, ↓xE_non, ↓xE_var, ↓xE_op, ↓xE_neg, ↓xE_nt, ↓xE_an, ↓xE_or, ↓xE_ch, ↓xE_isN, ↓xE_notN, ↓xE_ife, ↓xE_tup, ↓xE_lst, ↓xE_sl, ↓sl1_T, ↓sl1_L, ↓xE_cb, ↓xE_isa, ↓xE_call, ↓xE_callS, ↓xE_lc, ↓sN_0, ↓sN_s, ↓xE_lrg, ↓xE_trg, ↓xE_pop, ↓xE_idxL, ↓sT_s, ↓xE_idxT, ↓xE_dget, ↓xE_din, ↓xE_dnin, ↓xE_dset, ↓xA_nil, ↓xA_cons, ↓xT_te, ↓xT_tb, ↓xT_nt, ↓xT_an, ↓xT_or, ↓xT_yes, ↓xT_lend, ↓xP_no, ↓xP_at, ↓xI_rng1, ↓xI_rng2, ↓xI_u, ↓xI_en, ↓xG_nm, ↓xG_tup, ↓xGs_nil, ↓xGs_cons, ↓sV_d, ↓sV_n, ↓sV_w, ↓rV_d, ↓rV_n, ↓rV_w, ↓rV_o, ↓xS_set, ↓xS_asg, ↓xS_seti, ↓xS_app, ↓xS_newD, ↓xS_dput, ↓xS_drop, ↓xS_ret, ↓xS_retN, ↓xS_iff, ↓xS_for, ↓xS_wh, ↓xS_brk, ↓xS_cont, ↓xS_nx, ↓xS_seq, ↓xS_fz, ↓fzK_l, ↓fzK_d, ↓fzK_n, ↓fzK_D, ↓kS_nx, ↓kS_rt, ↓kS_bk, ↓kS_ct, ↓out1_rt, ↓out2_rt, ↓u_b_l_first_logs_1, q1']
      unfold stepL
      rw [if_neg fun h => q1 h.1]
  rw [List.length_range] at this
  exact ⟨this.1, this.2.mono (by omega)⟩
theorem first_logs_eq {n : Nat} {maps : List (List Int)} {L : List Str} (hn : n ≤ 1000) (ho : ∀ x ∈ maps, okMap n x) (hm : maps.length ≤ 8) (hL : L.length = maps.length) : f_l_first_logs [.tuple (L.map .str), .list (maps.map tupI)] = some (.new (.lst ((stageL L maps 40).2.map logD))) ∧ OkFL n 328 (stageL L maps 40) := by
  obtain ⟨L1, o1⟩ := fl_loop1 hn ho hm hL
  have tn : ((maps.length : Nat) : Int).toNat = maps.length := by omega
  have L2 := for_foldi (f := trn [] (.nm 5) b_l_first_logs_3) (fun i : Nat => PyData.int ((i : Nat) : Int)) (fun (s : FL × Ent) at1 => (roundL L maps s.1 at1, lastE (fun i : Nat => PyData.int ((i : Nat) : Int)) (List.range maps.length) s.2)) (fun s e => [.dat (.tuple (L.map .str)), .dat (.list (maps.map tupI)), .own (.lst (s.1.1.map tupI)), .own (.lst (s.1.2.map logD)), s.2, e]) (fun i s => OkFL n (8 + 8 * i) s.1) (xs := List.range 40) (s := (initL L maps, lastE (fun i : Nat => PyData.int ((i : Nat) : Int)) (List.range maps.length) .no)) (e := .no) o1 fun i s e k hi hk hp => by
    rw [List.length_range] at hi
    obtain ⟨L3, o3⟩ := fl_inner (at1 := k) (e4 := s.2) (by omega) hn ho hm hL hp
    refine ⟨?_, o3.mono (by omega)⟩
    rw [trn_x]
    simp (config := { implicitDefEqProofs := false }) (disch := walk_at "side") only [↓reduceIte, decide_eq_true_eq, decide_true, decide_false, Bool.not_true, Bool.not_false, Bool.false_eq_true, Int.reduceEq, Int.reduceLT, Int.reduceLE, Int.reduceNeg, Int.reduceToNat, ↓okI, ↓okI2, ↓aV_d, ↓aV_o, ↓aV_n, ↓aV_w, ↓dV_d, ↓dV_n, ↓dV_w, ↓gE_0, ↓gE_s, ↓eL_l, ↓eD_l, ↓eV_d, ↓eV_l, ↓nA_d, ↓nA_o, ↓iD_i, ↓bD_b, ↓kD_i, ↓kD_s, ↓zD_d, ↓vZ_d, ↓vZ_n, ↓sR_0, ↓sR_s, ↓sK_n, ↓sK_0, ↓lD_l, ↓sD_l, ↓sD_t, ↓tD_t, ↓dA_nil, ↓dA_d, ↓dN_nil, ↓dN_c, ↓oZ_addI, ↓oZ_addS, ↓oZ_addT, ↓oZ_addL, ↓oZ_sub, ↓oZ_mul, ↓oZ_mulT, ↓oZ_fdiv, ↓oZ_mod, ↓oZ_pow, ↓oZ_eqI, ↓oZ_eqS, ↓oZ_neS, ↓oZ_neI, ↓oZ_lt, ↓oZ_le, ↓oZ_gt, ↓oZ_ge, ↓oZ_ixL, ↓oZ_ixT, ↓aI_0, ↓aI_1, ↓aI_2, ↓nI_0, ↓nI_1, ↓lS_0, ↓lS_s, ↓aI_int, ↓aI_str, ↓aI_row, ↓aI_b2, ↓aI_i1, ↓aI_i2, ↓aI_i3, ↓aI_i4, ↓aI_i5, ↓aI_i6, ↓oZ_abyz, ↓oZ_az, ↓cZ_lenLm, ↓cZ_lenTm, ↓cZ_lenP, ↓oZ_ixP, ↓sD_P, ↓cZ_lstP, ↓cZ_abs, ↓cZ_int, ↓cZ_intB, ↓cZ_tup, ↓cZ_lstL, ↓cZ_lstT, ↓cZ_all, ↓cZ_any, ↓cZ_max2, ↓cZ_min2, ↓cZ_sum, ↓cZ_sorted, ↓xE_int, ↓xE_bl, ↓xE_str, ↓xE_non, ↓xE_var, ↓xE_op, ↓xE_neg, ↓xE_nt, ↓xE_an, ↓xE_or, ↓xE_ch, ↓xE_isN, ↓xE_notN, ↓xE_ife, ↓xE_tup, ↓xE_lst, ↓xE_sl, ↓sl1_T, ↓sl1_L, ↓xE_cb, ↓xE_isa, ↓xE_call, ↓xE_callS, ↓xE_lc, ↓sN_0, ↓sN_s, ↓xE_lrg, ↓xE_trg, ↓xE_pop, ↓xE_idxL, ↓sT_s, ↓xE_idxT, ↓xE_dget, ↓xE_din, ↓xE_dnin, ↓xE_dset, ↓xA_nil, ↓xA_cons, ↓xT_te, ↓xT_tb, ↓xT_nt, ↓xT_an, ↓xT_or, ↓xT_yes, ↓xT_lend, ↓xP_no, ↓xP_at, ↓xI_rng1, ↓xI_rng2, ↓xI_u, ↓xI_en, ↓xG_nm, ↓xG_tup, ↓xGs_nil, ↓xGs_cons, ↓sV_d, ↓sV_n, ↓sV_w, ↓rV_d, ↓rV_n, ↓rV_w, ↓rV_o, ↓xS_set, ↓xS_asg, ↓xS_seti, ↓xS_app, ↓xS_newD, ↓xS_dput, ↓xS_drop, ↓xS_ret, ↓xS_retN, ↓xS_iff, ↓xS_for, ↓xS_wh, ↓xS_brk, ↓xS_cont, ↓xS_nx, ↓xS_seq, ↓xS_fz, ↓fzK_l, ↓fzK_d, ↓fzK_n, ↓fzK_D, ↓kS_nx, ↓kS_rt, ↓kS_bk, ↓kS_ct, ↓out1_rt, ↓out2_rt, ↓u_b_l_first_logs_3, tn, ↓fK_s L3]
  have e : ((List.range 40).foldl (fun (s : FL × Ent) at1 => (roundL L maps s.1 at1, lastE (fun i : Nat => PyData.int ((i : Nat) : Int)) (List.range maps.length) s.2)) (initL L maps, lastE (fun i : Nat => PyData.int ((i : Nat) : Int)) (List.range maps.length) .no)).1 = stageL L maps 40 := by
    unfold stageL
    generalize List.range 40 = l
    generalize initL L maps = z
    generalize lastE (fun i : Nat => PyData.int ((i : Nat) : Int)) (List.range maps.length) Ent.no = w
    induction l generalizing z w with
    | nil => rfl
    | cons i l ih => rw [List.foldl_cons, List.foldl_cons]; exact ih _ _
  rw [e] at L2
  obtain ⟨L2, o2⟩ := L2
  rw [← rgD_0] at L2
  refine ⟨?_, o2⟩
  rw [x_l_first_logs]
  simp (config := { implicitDefEqProofs := false }) (disch := walk_at "side") only [↓reduceIte, decide_eq_true_eq, decide_true, decide_false, Bool.not_true, Bool.not_false, Bool.false_eq_true, Int.reduceEq, Int.reduceLT, Int.reduceLE, Int.reduceNeg, Int.reduceToNat, ↓okI, ↓okI2, ↓aV_d, ↓aV_o, ↓aV_n, ↓aV_w, ↓dV_d, ↓dV_n, ↓dV_w, ↓gE_0, ↓gE_s, ↓eL_l, ↓eD_l, ↓eV_d, ↓eV_l, ↓nA_d, ↓nA_o, ↓iD_i, ↓bD_b, ↓kD_i, ↓kD_s, ↓zD_d, ↓vZ_d, ↓vZ_n, ↓sR_0, ↓sR_s, ↓sK_n, ↓sK_0, ↓lD_l, ↓sD_l, ↓sD_t, ↓tD_t, ↓dA_nil, ↓dA_d, ↓dN_nil, ↓dN_c, ↓oZ_addI, ↓oZ_addS, ↓oZ_addT, ↓oZ_addL, ↓oZ_sub, ↓oZ_mul, ↓oZ_mulT, ↓oZ_fdiv, ↓oZ_mod, ↓oZ_pow, ↓oZ_eqI, ↓oZ_eqS, ↓oZ_neS, ↓oZ_neI, ↓oZ_lt, ↓oZ_le, ↓oZ_gt, ↓oZ_ge, ↓oZ_ixL, ↓oZ_ixT, ↓aI_0, ↓aI_1, ↓aI_2, ↓nI_0, ↓nI_1, ↓lS_0, ↓lS_s, ↓aI_int, ↓aI_str, ↓aI_row, ↓aI_b2, ↓aI_i1, ↓aI_i2, ↓aI_i3, ↓aI_i4, ↓aI_i5, ↓aI_i6, ↓oZ_abyz, ↓oZ_az, ↓cZ_lenLm, ↓cZ_lenTm, ↓cZ_lenP, ↓oZ_ixP, ↓sD_P, ↓cZ_lstP, ↓cZ_abs, ↓cZ_int, ↓cZ_intB, ↓cZ_tup, ↓cZ_lstL, ↓cZ_lstT, ↓cZ_all, ↓cZ_any, ↓cZ_max2, ↓cZ_min2, ↓cZ_sum, ↓cZ_sorted, ↓xE_int, ↓xE_bl, ↓xE_str, ↓xE_non, ↓xE_var, ↓xE_op, ↓xE_neg, ↓xE_nt, ↓xE_an, ↓xE_or, ↓xE_ch, ↓xE_isN, ↓xE_notN, ↓xE_ife, ↓xE_tup, ↓xE_lst, ↓xE_sl, ↓sl1_T, ↓sl1_L, ↓xE_cb, ↓xE_isa, ↓xE_call, ↓xE_callS, ↓xE_lc, ↓sN_0, ↓sN_s, ↓xE_lrg, ↓xE_trg, ↓xE_pop, ↓xE_idxL, ↓sT_s, ↓xE_idxT, ↓xE_dget, ↓xE_din, ↓xE_dnin, ↓xE_dset, ↓xA_nil, ↓xA_cons, ↓xT_te, ↓xT_tb, ↓xT_nt, ↓xT_an, ↓xT_or, ↓xT_yes, ↓xT_lend, ↓xP_no, ↓xP_at, ↓xI_rng1, ↓xI_rng2, ↓xI_u, ↓xI_en, ↓xG_nm, ↓xG_tup, ↓xGs_nil, ↓xGs_cons, ↓sV_d, ↓sV_n, ↓sV_w, ↓rV_d, ↓rV_n, ↓rV_w, ↓rV_o, ↓xS_set, ↓xS_asg, ↓xS_seti, ↓xS_app, ↓xS_newD, ↓xS_dput, ↓xS_drop, ↓xS_ret, ↓xS_retN, ↓xS_iff, ↓xS_for, ↓xS_wh, ↓xS_brk, ↓xS_cont, ↓xS_nx, ↓xS_seq, ↓xS_fz, ↓fzK_l, ↓fzK_d, ↓fzK_n, ↓fzK_D, ↓kS_nx, ↓kS_rt, ↓kS_bk, ↓kS_ct, ↓out1_rt, ↓out2_rt, ↓u_c_l_first_logs, tn, ↓fK_s L1, ↓fK_s L2]

end CS

namespace CS
open PySem PySem.Spec PyProof.Rows L2 DL EV
local macro_rules | `(tactic| walk_at "side") => `(tactic| first | omega | (simp only [List.length_cons, List.length_nil, List.length_map, List.length_append, List.length_range, PySem.sizeLine_eq]; omega) | assumption | (simp; done))
/-! ### the logs of the law and those of elements -/
theorem foldl_range {α σ : Type} (g : σ → α → σ) (d : α) (xs : List α) (s : σ) : (List.range xs.length).foldl (fun s k => g s (xs.getD k d)) s = xs.foldl g s := by
  have h : ((List.range xs.length).map fun k => xs.getD k d) = xs := by
    have := map_rangeD xs d id
    simpa using this
  conv => rhs; rw [← h]
  rw [List.foldl_map]
theorem foldl_fst {α σ τ : Type} (g : σ × τ → α → σ × τ) (g1 : σ → α → σ) (h : ∀ s x, (g s x).1 = g1 s.1 x) : ∀ (l : List α) (s : σ × τ), (l.foldl g s).1 = l.foldl g1 s.1
  | [], _ => rfl
  | x :: l, s => by rw [List.foldl_cons, List.foldl_cons, foldl_fst g g1 h l, h]
def stepJ (at1 : Nat) (F : List (List Int)) (x : List Int) : List (List Int) := if at1 < F.length ∧ ¬ thenI (F.getD at1 []) x ∈ F then F ++ [thenI (F.getD at1 []) x] else F
theorem addL_fst (L : List Str) (maps : List (List Int)) (s : FL) (k : Nat) : (addL L maps s k).1 = addI s.1 (maps.getD k []) := by
  unfold addL addI
  split <;> rfl
theorem stepL_fst (L : List Str) (maps : List (List Int)) (at1 : Nat) (s : FL) (k : Nat) : (stepL L maps at1 s k).1 = stepJ at1 s.1 (maps.getD k []) := by
  unfold stepL stepJ
  split <;> rfl
theorem initL_fst (L : List Str) (maps : List (List Int)) : (initL L maps).1 = maps.foldl addI [] := by
  unfold initL
  rw [foldl_fst (addL L maps) (fun F k => addI F (maps.getD k [])) (addL_fst L maps)]
  exact foldl_range addI [] maps []
theorem roundL_fst (L : List Str) (maps : List (List Int)) (s : FL) (at1 : Nat) : (roundL L maps s at1).1 = maps.foldl (stepJ at1) s.1 := by
  unfold roundL
  rw [foldl_fst (stepL L maps at1) (fun F k => stepJ at1 F (maps.getD k [])) (stepL_fst L maps at1)]
  exact foldl_range (stepJ at1) [] maps s.1
theorem stepJ_sub (at1 : Nat) (F : List (List Int)) (x : List Int) : ∃ l, stepJ at1 F x = F ++ l := by
  unfold stepJ
  split
  · exact ⟨_, rfl⟩
  · exact ⟨[], by simp⟩
theorem foldJ_eq {at1 most : Nat} : ∀ (l : List (List Int)) (F : List (List Int)), (l.foldl (fun F x => stepI most F at1 x) F).length ≤ most → l.foldl (stepJ at1) F = l.foldl (fun F x => stepI most F at1 x) F
  | [], _, _ => rfl
  | x :: l, F, h => by
    rw [List.foldl_cons] at h ⊢
    rw [List.foldl_cons]
    obtain ⟨m, hm⟩ := fold_sub (f := fun F x => stepI most F at1 x) (fun F x => step_sub) l (stepI most F at1 x)
    obtain ⟨m2, hm2⟩ := step_sub (most := most) (at1 := at1) (found := F) (other := x)
    have hl : F.length ≤ most := by
      rw [hm, hm2] at h
      simp only [List.length_append] at h
      omega
    have e : stepJ at1 F x = stepI most F at1 x := by
      unfold stepJ stepI
      by_cases q : at1 < F.length ∧ ¬ thenI (F.getD at1 []) x ∈ F
      · rw [if_pos q, if_pos ⟨q.1, hl, q.2⟩]
      · rw [if_neg q, if_neg fun z => q ⟨z.1, z.2.2⟩]
    rw [e]
    exact foldJ_eq l _ h
theorem stageL_succ (L : List Str) (maps : List (List Int)) (i : Nat) : stageL L maps (i + 1) = roundL L maps (stageL L maps i) i := by
  unfold stageL
  rw [List.range_succ, List.foldl_append]; rfl
theorem stageL_fst (L : List Str) {maps : List (List Int)} (hE : (elementsOf maps 40).length ≤ 40) : ∀ i, i ≤ 41 → (stageL L maps i).1 = stage maps 40 i
  | 0, _ => initL_fst L maps
  | i + 1, h => by
    rw [stageL_succ, roundL_fst, stageL_fst L hE i (by omega), stage_succ]
    apply foldJ_eq
    rw [← stage_succ]
    obtain ⟨l, hl⟩ := stage_sub maps 40 (i + 1) (40 - i)
    rw [elements_eq, show 40 + 1 = i + 1 + (40 - i) by omega, hl, List.length_append] at hE
    omega
/-- behind as many rounds as there are elements all are found -/
theorem stage_end {maps : List (List Int)} (hE : (elementsOf maps 40).length ≤ 40) {i : Nat} (h : (elementsOf maps 40).length ≤ i) (hi : i ≤ 41) : stage maps 40 i = elementsOf maps 40 := by
  obtain ⟨l, hl⟩ := stage_sub maps 40 i (41 - i)
  have e : stage maps 40 (i + (41 - i)) = elementsOf maps 40 := by rw [elements_eq, show i + (41 - i) = 40 + 1 by omega]
  have le : (stage maps 40 i).length ≤ i := by
    have := congrArg List.length hl
    rw [e, List.length_append] at this
    omega
  rw [← e, stage_stuck le]
/-- ahead of that there is one more to look at -/
theorem stage_more {maps : List (List Int)} (hE : (elementsOf maps 40).length ≤ 40) {i : Nat} (h : i < (elementsOf maps 40).length) : i < (stage maps 40 i).length := by
  rcases Nat.lt_or_ge i (stage maps 40 i).length with q | q
  · exact q
  · have e : stage maps 40 (i + (41 - i)) = elementsOf maps 40 := by rw [elements_eq, show i + (41 - i) = 40 + 1 by omega]
    rw [stage_stuck q] at e
    rw [e] at q
    omega
theorem foldL_stuck {L : List Str} {maps : List (List Int)} {at1 : Nat} {s : FL} (h : s.1.length ≤ at1) : ∀ l : List Nat, l.foldl (stepL L maps at1) s = s
  | [] => rfl
  | k :: l => by
    have : stepL L maps at1 s k = s := by unfold stepL; rw [if_neg fun z => by omega]
    rw [List.foldl_cons, this, foldL_stuck h l]
theorem stageL_end {L : List Str} {maps : List (List Int)} (hE : (elementsOf maps 40).length ≤ 40) : ∀ i, (elementsOf maps 40).length + i ≤ 41 → stageL L maps ((elementsOf maps 40).length + i) = stageL L maps (elementsOf maps 40).length
  | 0, _ => rfl
  | i + 1, h => by
    have ih := stageL_end (L := L) hE i (by omega)
    rw [show (elementsOf maps 40).length + (i + 1) = (elementsOf maps 40).length + i + 1 by omega, stageL_succ, ih]
    unfold roundL
    refine foldL_stuck ?_ _
    rw [stageL_fst L hE _ (by omega), stage_end hE (Nat.le_refl _) (by omega)]
    omega

end CS

namespace CS
open PySem PySem.Spec PyProof.Rows L2 DL EV
local macro_rules | `(tactic| walk_at "side") => `(tactic| first | omega | (simp only [List.length_cons, List.length_nil, List.length_map, List.length_append, List.length_range, PySem.sizeLine_eq]; omega) | assumption | (simp; done))
def setK (kvs : List (Key × D)) (k : Key) (d : D) : List (Key × D) := if (valD kvs k).isSome then kvs else putD kvs k d
theorem valD_app {kvs : List (Key × D)} {k k' : Key} {d : D} (h : valD kvs k = none) : valD (kvs ++ [(k, d)]) k' = if k' = k then some d else valD kvs k' := by
  unfold valD at h ⊢
  rw [List.find?_append]
  by_cases e : k' = k
  · subst e
    have : kvs.find? (fun kv => decide (kv.1 = k')) = none := by simpa using h
    simp [this]
  · have e2 : ¬ k = k' := fun z => e z.symm
    simp [e, e2]
theorem putD_new {kvs : List (Key × D)} {k : Key} {d : D} (h : valD kvs k = none) : putD kvs k d = kvs ++ [(k, d)] := by
  unfold putD
  rw [if_neg]
  unfold valD at h
  have h2 : kvs.find? (fun kv => decide (kv.1 = k)) = none := by simpa using h
  intro z
  obtain ⟨x, m, e⟩ := List.any_eq_true.mp z
  have := List.find?_eq_none.mp h2 x m
  exact this e
structure RelK (kvs : List (Key × D)) (s : FL) : Prop where
  at' : ∀ i : Nat, i < s.1.length → valD kvs (.inl (i : Int)) = some (logD (s.2.getD i []))
  no : ∀ z : Int, (valD kvs (.inl z)).isSome = true → 0 ≤ z ∧ z < s.1.length
  le : kvs.length ≤ s.1.length
theorem idxI_pre {x : List Int} : ∀ {F l : List (List Int)}, x ∈ F → idxI x (F ++ l) = idxI x F ∧ idxI x F < F.length
  | [], _, h => by cases h
  | y :: F, l, h => by
    rw [List.cons_append, idxI, idxI]
    by_cases e : y = x
    · simp [e]
    · obtain ⟨h1, h2⟩ := idxI_pre (l := l) ((List.mem_cons.mp h).resolve_left fun z => e z.symm)
      rw [if_neg e, if_neg e, h1]
      exact ⟨rfl, by simp only [List.length_cons]; omega⟩
theorem idxI_new {x : List Int} : ∀ {F l : List (List Int)}, ¬ x ∈ F → idxI x (F ++ x :: l) = F.length
  | [], _, _ => by simp [idxI]
  | y :: F, l, h => by
    have e : ¬ y = x := fun z => h (z ▸ List.mem_cons_self)
    rw [List.cons_append, idxI, if_neg e, idxI_new fun m => h (List.mem_cons_of_mem _ m)]
    rfl
/-- a map is looked at: a new one gets the next number and its log -/
theorem rel_step {kvs : List (Key × D)} {s s' : FL} {E l : List (List Int)} {x : List Int} {lg : List Str} (h : RelK kvs s) (hl : s.2.length = s.1.length) (hs : s' = if x ∈ s.1 then s else (s.1 ++ [x], s.2 ++ [lg])) (hE : E = s'.1 ++ l) : RelK (setK kvs (.inl (idxI x E : Nat)) (logD lg)) s' := by
  by_cases q : x ∈ s.1
  · rw [if_pos q] at hs
    subst hs
    obtain ⟨i1, i2⟩ := idxI_pre (l := l) q
    rw [hE, i1]
    unfold setK
    rw [h.at' _ i2, Option.isSome_some, if_pos rfl]
    exact h
  · rw [if_neg q] at hs
    subst hs
    have e1 : idxI x E = s.1.length := by rw [hE, List.append_assoc]; exact idxI_new q
    have n1 : valD kvs (.inl ((s.1.length : Nat) : Int)) = none := by
      cases z : valD kvs (.inl ((s.1.length : Nat) : Int)) with
      | none => rfl
      | some d =>
        have := h.no _ (by rw [z]; rfl)
        omega
    rw [e1]
    unfold setK
    rw [n1, if_neg (by decide), putD_new n1]
    refine ⟨fun i hi => ?_, fun z hz => ?_, ?_⟩
    · rw [valD_app n1]
      simp only [List.length_append, List.length_singleton] at hi
      by_cases e : i = s.1.length
      · subst e
        rw [if_pos rfl, ← hl]
        simp
      · rw [if_neg (fun z => e (by injection z; omega)), h.at' i (by omega)]
        congr 2
        rw [List.getD_eq_getElem?_getD, List.getD_eq_getElem?_getD, List.getElem?_append_left (by omega)]
    · rw [valD_app n1] at hz
      simp only [List.length_append, List.length_singleton]
      by_cases e : z = ((s.1.length : Nat) : Int)
      · omega
      · rw [if_neg (fun w => e (by injection w))] at hz
        have := h.no z hz
        omega
    · have := h.le
      simp only [List.length_append, List.length_singleton]
      omega
def initAt (L : List Str) (maps : List (List Int)) (i : Nat) : FL := (List.range i).foldl (addL L maps) ([], [])
def roundAt (L : List Str) (maps : List (List Int)) (s : FL) (at1 i : Nat) : FL := (List.range i).foldl (stepL L maps at1) s
theorem initAt_succ (L : List Str) (maps : List (List Int)) (i : Nat) : initAt L maps (i + 1) = addL L maps (initAt L maps i) i := by
  unfold initAt
  rw [List.range_succ, List.foldl_append]; rfl
theorem roundAt_succ (L : List Str) (maps : List (List Int)) (s : FL) (at1 i : Nat) : roundAt L maps s at1 (i + 1) = stepL L maps at1 (roundAt L maps s at1 i) i := by
  unfold roundAt
  rw [List.range_succ, List.foldl_append]; rfl
theorem addL_sub (L : List Str) (maps : List (List Int)) (s : FL) (k : Nat) : ∃ l, (addL L maps s k).1 = s.1 ++ l := by
  unfold addL
  split
  · exact ⟨[], by simp⟩
  · exact ⟨_, rfl⟩
theorem stepL_sub (L : List Str) (maps : List (List Int)) (at1 : Nat) (s : FL) (k : Nat) : ∃ l, (stepL L maps at1 s k).1 = s.1 ++ l := by
  unfold stepL
  split
  · exact ⟨_, rfl⟩
  · exact ⟨[], by simp⟩
theorem fold_subL {g : FL → Nat → FL} (h : ∀ s k, ∃ l, (g s k).1 = s.1 ++ l) : ∀ (l : List Nat) (s : FL), ∃ m, (l.foldl g s).1 = s.1 ++ m
  | [], s => ⟨[], by simp⟩
  | k :: l, s => by
    obtain ⟨m1, e1⟩ := h s k
    obtain ⟨m2, e2⟩ := fold_subL h l (g s k)
    exact ⟨m1 ++ m2, by rw [List.foldl_cons, e2, e1, List.append_assoc]⟩
theorem range_split {a b : Nat} (h : a ≤ b) : ∃ l, List.range b = List.range a ++ l := ⟨(List.range b).drop a, by
  have : (List.range b).take a = List.range a := by rw [List.take_range, Nat.min_eq_left h]
  rw [← this, List.take_append_drop]⟩
theorem initAt_pre (L : List Str) (maps : List (List Int)) {i : Nat} (h : i ≤ maps.length) : ∃ l, (initL L maps).1 = (initAt L maps i).1 ++ l := by
  obtain ⟨r, e⟩ := range_split h
  unfold initL
  rw [e, List.foldl_append]
  exact fold_subL (addL_sub L maps) r _
theorem roundAt_pre (L : List Str) (maps : List (List Int)) (s : FL) (at1 : Nat) {i : Nat} (h : i ≤ maps.length) : ∃ l, (roundL L maps s at1).1 = (roundAt L maps s at1 i).1 ++ l := by
  obtain ⟨r, e⟩ := range_split h
  unfold roundL
  rw [e, List.foldl_append]
  exact fold_subL (stepL_sub L maps at1) r _
theorem stageL_pre (L : List Str) (maps : List (List Int)) (i : Nat) : ∀ k, ∃ l, (stageL L maps (i + k)).1 = (stageL L maps i).1 ++ l
  | 0 => ⟨[], by simp⟩
  | k + 1 => by
    obtain ⟨l, e⟩ := stageL_pre L maps i k
    obtain ⟨m, e2⟩ := fold_subL (stepL_sub L maps (i + k)) (List.range maps.length) (stageL L maps (i + k))
    refine ⟨l ++ m, ?_⟩
    rw [show i + (k + 1) = i + k + 1 by omega, stageL_succ]
    unfold roundL
    rw [e2, e, List.append_assoc]
theorem initAt_ok {n : Nat} {L : List Str} {maps : List (List Int)} (ho : ∀ x ∈ maps, okMap n x) : ∀ i, i ≤ maps.length → OkFL n i (initAt L maps i)
  | 0, _ => ⟨by simp [initAt], rfl, by simp [initAt], by simp [initAt]⟩
  | i + 1, h => by rw [initAt_succ]; exact addL_ok (by omega) ho (initAt_ok ho i (by omega))
theorem roundAt_ok {n b at1 : Nat} {L : List Str} {maps : List (List Int)} {s : FL} (ho : ∀ x ∈ maps, okMap n x) (h0 : OkFL n b s) : ∀ i, i ≤ maps.length → OkFL n (b + i) (roundAt L maps s at1 i)
  | 0, _ => h0
  | i + 1, h => by rw [roundAt_succ]; exact stepL_ok (by omega) ho (roundAt_ok ho h0 i (by omega))
theorem stageL_ok {n : Nat} {L : List Str} {maps : List (List Int)} (ho : ∀ x ∈ maps, okMap n x) : ∀ i, OkFL n (maps.length + maps.length * i) (stageL L maps i)
  | 0 => initAt_ok ho _ (Nat.le_refl _)
  | i + 1 => by
    rw [stageL_succ, Nat.mul_succ, ← Nat.add_assoc]
    exact roundAt_ok ho (stageL_ok ho i) _ (Nat.le_refl _)
theorem idx_getD {x : List Int} : ∀ {E : List (List Int)}, x ∈ E → E.getD (idxI x E) [] = x ∧ idxI x E < E.length
  | [], h => by cases h
  | y :: E, h => by
    rw [idxI]
    by_cases e : y = x
    · simp [e]
    · obtain ⟨h1, h2⟩ := idx_getD ((List.mem_cons.mp h).resolve_left fun z => e z.symm)
      rw [if_neg e]
      exact ⟨by rw [List.getD_cons_succ]; exact h1, by simp only [List.length_cons]; omega⟩
theorem getD_mapN {α β : Type} (f : α → β) (d : α) (d' : β) {xs : List α} {i : Nat} (h : i < xs.length) : (xs.map f).getD i d' = f (xs.getD i d) := by
  simp [List.getD_eq_getElem?_getD, List.getElem?_map, List.getElem?_eq_getElem h]
theorem oZ_addLog {β : Type} {l : List Str} {x : Str} {kz : Rz → Option β} (h : l.length + 1 ≤ 100000) : oZ .add (logD l) (.tuple [.str x]) kz = kz (.d (logD (l ++ [x]))) := by
  unfold logD
  rw [oZ_addT (by rw [List.length_map, List.length_singleton, sizeLine_eq]; omega), List.map_append]; rfl
theorem least_eq {n : Nat} {maps : List (List Int)} {L : List Str} (hn : n ≤ 1000) (ho : ∀ x ∈ maps, okMap n x) (hm : maps.length ≤ 8) (hL : L.length = maps.length) (hE : (elementsOf maps 40).length ≤ 40) : f_least_logs [tableD L (firstsOf maps) (rowsOf maps)] = some (.new (.lst ((stageL L maps 40).2.map logD))) := by
  have tm : ∀ a ∈ elementsOf maps 40, ∀ b ∈ elementsOf maps 40, thenI a b ∈ elementsOf maps 40 := fun a ha b hb => elements_times ho hE ha hb
  have mi : ∀ m ∈ maps, m ∈ elementsOf maps 40 := maps_in
  have Fl : (firstsOf maps).length = maps.length := by unfold firstsOf; rw [List.length_map]
  have Rl : (rowsOf maps).length = (elementsOf maps 40).length := by unfold rowsOf; rw [List.length_map]
  have Fat : ∀ j, j < maps.length → (firstsOf maps).getD j 0 = (idxI (maps.getD j []) (elementsOf maps 40) : Nat) := fun j hj => by
    unfold firstsOf; exact getD_mapN _ [] 0 hj
  have Rat : ∀ e, e < (elementsOf maps 40).length → (rowsOf maps).getD e [] = (elementsOf maps 40).map fun b => ((idxI (thenI ((elementsOf maps 40).getD e []) b) (elementsOf maps 40) : Nat) : Int) := fun e he => by
    unfold rowsOf; exact getD_mapN _ [] [] he
  have e40 : stageL L maps 40 = stageL L maps (elementsOf maps 40).length := by
    have := stageL_end (L := L) hE (40 - (elementsOf maps 40).length) (by omega)
    rw [show (elementsOf maps 40).length + (40 - (elementsOf maps 40).length) = 40 by omega] at this
    exact this
  have full : (stageL L maps (elementsOf maps 40).length).1 = elementsOf maps 40 := by rw [stageL_fst L hE _ (by omega), stage_end hE (Nat.le_refl _) (by omega)]
  -- the first loop
  obtain ⟨ρ1, L1, k1, f5, f6, rfl, r1⟩ := for_ex0 (f := trn [] (.tup 2 (.cons (.nm 5) (.cons (.nm 6) .nil))) b_least_logs_7) (fun i ρ => ∃ kvs e5 e6, ρ = [.dat (tableD L (firstsOf maps) (rowsOf maps)), .own (.dK kvs), .dat (.tuple (L.map .str)), .dat (.tuple ((firstsOf maps).map .int)), .dat (prodD (rowsOf maps)), e5, e6, .no, .no] ∧ RelK kvs (initAt L maps i)) (l := enD (L.map .str)) (ρ := [.dat (tableD L (firstsOf maps) (rowsOf maps)), .own (.dK []), .dat (.tuple (L.map .str)), .dat (.tuple ((firstsOf maps).map .int)), .dat (prodD (rowsOf maps)), .no, .no, .no, .no]) ⟨[], .no, .no, rfl, fun i hi => by simp [initAt] at hi, fun z hz => by simp [valD] at hz, by simp⟩ (fun i ρ hi ⟨kvs, e5, e6, e, r⟩ => by
    subst e
    rw [enD_len, List.length_map] at hi
    have ok := initAt_ok (L := L) ho i (by omega)
    have hz : kvs.length < sizeLine := by
      have := r.le
      have := ok.le
      rw [sizeLine_eq]; omega
    obtain ⟨p, hp⟩ := initAt_pre L maps (i := i + 1) (by omega)
    obtain ⟨p2, hp2⟩ := stageL_pre L maps 0 (elementsOf maps 40).length
    rw [Nat.zero_add, full, show stageL L maps 0 = initL L maps from rfl, hp, List.append_assoc] at hp2
    have rs := rel_step (x := maps.getD i []) (lg := [L.getD i ""]) (s' := initAt L maps (i + 1)) r ok.len (by rw [initAt_succ]; unfold addL; rfl) hp2
    rw [← Fat i (by omega)] at rs
    rw [enD_at (by rw [List.length_map]; omega), trn_x, show DL.pairD (L.map PyData.str) i = .tuple [.int (i : Nat), .str (L.getD i "")] by unfold DL.pairD; rw [nthD_map (f := PyData.str) ("" : Str) (by omega)]]
    refine ⟨_, ?_, _, .dat (.int (i : Nat)), .dat (.str (L.getD i "")), rfl, rs⟩
    simp (config := { implicitDefEqProofs := false }) (disch := walk_at "side") only [↓reduceIte, decide_eq_true_eq, decide_true, decide_false, Bool.not_true, Bool.not_false, Bool.false_eq_true, Int.reduceEq, Int.reduceLT, Int.reduceLE, Int.reduceNeg, Int.reduceToNat, ↓okI, ↓okI2, ↓aV_d, ↓aV_o, ↓aV_n, ↓aV_w, ↓dV_d, ↓dV_n, ↓dV_w, ↓gE_0, ↓gE_s, ↓eL_l, ↓eD_l, ↓eV_d, ↓eV_l, ↓nA_d, ↓nA_o, ↓iD_i, ↓bD_b, ↓kD_i, ↓kD_s, ↓zD_d, ↓vZ_d, ↓vZ_n, ↓sR_0, ↓sR_s, ↓sK_n, ↓sK_0, ↓lD_l, ↓sD_l, ↓sD_t, ↓tD_t, ↓dA_nil, ↓dA_d, ↓dN_nil, ↓dN_c, ↓oZ_addI, ↓oZ_addS, ↓oZ_addT, ↓oZ_addL, ↓oZ_sub, ↓oZ_mul, ↓oZ_mulT, ↓oZ_fdiv, ↓oZ_mod, ↓oZ_pow, ↓oZ_eqI, ↓oZ_eqS, ↓oZ_neS, ↓oZ_neI, ↓oZ_lt, ↓oZ_le, ↓oZ_gt, ↓oZ_ge, ↓oZ_ixL, ↓oZ_ixT, ↓aI_0, ↓aI_1, ↓aI_2, ↓nI_0, ↓nI_1, ↓lS_0, ↓lS_s, ↓aI_int, ↓aI_str, ↓aI_row, ↓aI_b2, ↓aI_i1, ↓aI_i2, ↓aI_i3, ↓aI_i4, ↓aI_i5, ↓aI_i6, ↓oZ_abyz, ↓oZ_az, ↓cZ_lenLm, ↓cZ_lenTm, ↓cZ_lenP, ↓oZ_ixP, ↓sD_P, ↓cZ_lstP, ↓cZ_abs, ↓cZ_int, ↓cZ_intB, ↓cZ_tup, ↓cZ_lstL, ↓cZ_lstT, ↓cZ_all, ↓cZ_any, ↓cZ_max2, ↓cZ_min2, ↓cZ_sum, ↓cZ_sorted, ↓xE_int, ↓xE_bl, ↓xE_str, ↓xE_non, ↓xE_var, ↓xE_op, ↓xE_neg, ↓xE_nt, ↓xE_an, ↓xE_or, ↓xE_ch, ↓xE_isN, ↓xE_notN, ↓xE_ife, ↓xE_tup, ↓xE_lst, ↓xE_sl, ↓sl1_T, ↓sl1_L, ↓xE_cb, ↓xE_isa, ↓xE_call, ↓xE_callS, ↓xE_lc, ↓sN_0, ↓sN_s, ↓xE_lrg, ↓xE_trg, ↓xE_pop, ↓xE_idxL, ↓sT_s, ↓xE_idxT, ↓xE_dget, ↓xE_din, ↓xE_dnin, ↓xE_dset, ↓xA_nil, ↓xA_cons, ↓xT_te, ↓xT_tb, ↓xT_nt, ↓xT_an, ↓xT_or, ↓xT_yes, ↓xT_lend, ↓xP_no, ↓xP_at, ↓xI_rng1, ↓xI_rng2, ↓xI_u, ↓xI_en, ↓xG_nm, ↓xG_tup, ↓xGs_nil, ↓xGs_cons, ↓sV_d, ↓sV_n, ↓sV_w, ↓rV_d, ↓rV_n, ↓rV_w, ↓rV_o, ↓xS_set, ↓xS_asg, ↓xS_seti, ↓xS_app, ↓xS_newD, ↓xS_dput, ↓xS_drop, ↓xS_ret, ↓xS_retN, ↓xS_iff, ↓xS_for, ↓xS_wh, ↓xS_brk, ↓xS_cont, ↓xS_nx, ↓xS_seq, ↓xS_fz, ↓fzK_l, ↓fzK_d, ↓fzK_n, ↓fzK_D, ↓kS_nx, ↓kS_rt, ↓kS_bk, ↓kS_ct, ↓out1_rt, ↓out2_rt, ↓u_b_least_logs_7, Int.toNat_natCast]
    rfl)
  rw [enD_len, List.length_map] at r1
  have r1' : RelK k1 (stageL L maps 0) := by
    have e : initAt L maps L.length = stageL L maps 0 := by rw [hL]; rfl
    rw [← e]; exact r1
  -- the second loop
  obtain ⟨ρ2, L2, k2, g5, g6, g7, g8, rfl, r2⟩ := for_ex0 (f := trn [] (.tup 2 (.cons (.nm 7) (.cons (.nm 8) .nil))) b_least_logs_5) (fun i ρ => ∃ kvs e5 e6 e7 e8, ρ = [.dat (tableD L (firstsOf maps) (rowsOf maps)), .own (.dK kvs), .dat (.tuple (L.map .str)), .dat (.tuple ((firstsOf maps).map .int)), .dat (prodD (rowsOf maps)), e5, e6, e7, e8] ∧ RelK kvs (stageL L maps i)) (l := enD ((rowsOf maps).map tupI)) (ρ := [.dat (tableD L (firstsOf maps) (rowsOf maps)), .own (.dK k1), .dat (.tuple (L.map .str)), .dat (.tuple ((firstsOf maps).map .int)), .dat (prodD (rowsOf maps)), f5, f6, .no, .no]) ⟨k1, f5, f6, .no, .no, rfl, r1'⟩ (fun e ρ hi ⟨kvs, e5, e6, e7, e8, eρ, r⟩ => by
    subst eρ
    rw [enD_len, List.length_map, Rl] at hi
    have more : e < (stageL L maps e).1.length := by rw [stageL_fst L hE _ (by omega)]; exact stage_more hE hi
    have okS := stageL_ok (L := L) ho e
    have e8 : maps.length * e ≤ 8 * 40 := Nat.mul_le_mul hm (by omega)
    obtain ⟨ρ3, L3, k3, h5, h6, rfl, r3⟩ := for_ex0 (f := trn [] (.tup 2 (.cons (.nm 5) (.cons (.nm 6) .nil))) b_least_logs_3) (fun i ρ => ∃ kvs e5 e6, ρ = [.dat (tableD L (firstsOf maps) (rowsOf maps)), .own (.dK kvs), .dat (.tuple (L.map .str)), .dat (.tuple ((firstsOf maps).map .int)), .dat (prodD (rowsOf maps)), e5, e6, .dat (.int (e : Nat)), .dat (tupI ((rowsOf maps).getD e []))] ∧ RelK kvs (roundAt L maps (stageL L maps e) e i)) (l := enD (L.map .str)) (ρ := [.dat (tableD L (firstsOf maps) (rowsOf maps)), .own (.dK kvs), .dat (.tuple (L.map .str)), .dat (.tuple ((firstsOf maps).map .int)), .dat (prodD (rowsOf maps)), e5, e6, .dat (.int (e : Nat)), .dat (tupI ((rowsOf maps).getD e []))]) ⟨kvs, e5, e6, rfl, r⟩ (fun i ρ hi2 ⟨kvs, e5, e6, eρ, r⟩ => by
      subst eρ
      rw [enD_len, List.length_map] at hi2
      have ok := roundAt_ok (L := L) (at1 := e) ho okS i (by omega)
      obtain ⟨q, hq⟩ := fold_subL (stepL_sub L maps e) (List.range i) (stageL L maps e)
      have more2 : e < (roundAt L maps (stageL L maps e) e i).1.length := by
        show e < ((List.range i).foldl (stepL L maps e) (stageL L maps e)).1.length
        rw [hq, List.length_append]; omega
      have hz : kvs.length < sizeLine := by
        have := r.le
        have := ok.le
        rw [sizeLine_eq]; omega
      obtain ⟨p, hp⟩ := roundAt_pre L maps (stageL L maps e) e (i := i + 1) (by omega)
      obtain ⟨p2, hp2⟩ := stageL_pre L maps (e + 1) ((elementsOf maps 40).length - (e + 1))
      rw [show e + 1 + ((elementsOf maps 40).length - (e + 1)) = (elementsOf maps 40).length by omega, full, stageL_succ, hp, List.append_assoc] at hp2
      -- found at e is the element e
      obtain ⟨p3, hp3⟩ := stageL_pre L maps e ((elementsOf maps 40).length - e)
      rw [show e + ((elementsOf maps 40).length - e) = (elementsOf maps 40).length by omega, full] at hp3
      have fe : (roundAt L maps (stageL L maps e) e i).1.getD e [] = (elementsOf maps 40).getD e [] := by
        show ((List.range i).foldl (stepL L maps e) (stageL L maps e)).1.getD e [] = _
        rw [hq, getD_pre more, hp3, getD_pre more]
      have rs := rel_step (x := thenI ((roundAt L maps (stageL L maps e) e i).1.getD e []) (maps.getD i [])) (lg := (roundAt L maps (stageL L maps e) e i).2.getD e [] ++ [L.getD i ""]) (s' := roundAt L maps (stageL L maps e) e (i + 1)) r ok.len (by
        rw [roundAt_succ]
        unfold stepL
        by_cases q : thenI ((roundAt L maps (stageL L maps e) e i).1.getD e []) (maps.getD i []) ∈ (roundAt L maps (stageL L maps e) e i).1
        · rw [if_pos q, if_neg fun z => z.2 q]
        · rw [if_neg q, if_pos ⟨more2, q⟩]) hp2
      have mE : maps.getD i [] ∈ elementsOf maps 40 := mi _ (getD_mem (by omega))
      obtain ⟨d1, d2⟩ := idx_getD mE
      have rowl : ((rowsOf maps).getD e []).length = (elementsOf maps 40).length := by rw [Rat e hi, List.length_map]
      have ri : ((rowsOf maps).getD e []).getD ((firstsOf maps).getD i 0).toNat 0 = (idxI (thenI ((roundAt L maps (stageL L maps e) e i).1.getD e []) (maps.getD i [])) (elementsOf maps 40) : Nat) := by
        rw [Fat i (by omega), Int.toNat_natCast, Rat e hi, getD_mapN _ [] 0 d2, d1, fe]
      have fi0 : 0 ≤ (firstsOf maps).getD i 0 := by rw [Fat i (by omega)]; omega
      have fi1 : (firstsOf maps).getD i 0 < ((rowsOf maps).getD e []).length := by rw [Fat i (by omega), rowl]; omega
      have vk := r.at' e more2
      have ll := ok.logs _ (getD_memS (k := e) (by rw [ok.len]; exact more2))
      have al : ((roundAt L maps (stageL L maps e) e i).2.getD e []).length + 1 ≤ 100000 := by have := ok.le; omega
      rw [enD_at (by rw [List.length_map]; omega), trn_x, show DL.pairD (L.map PyData.str) i = .tuple [.int (i : Nat), .str (L.getD i "")] by unfold DL.pairD; rw [nthD_map (f := PyData.str) ("" : Str) (by omega)]]
      refine ⟨_, ?_, _, .dat (.int (i : Nat)), .dat (.str (L.getD i "")), rfl, rs⟩
      simp (config := { implicitDefEqProofs := false }) (disch := walk_at "side") only [↓reduceIte, decide_eq_true_eq, decide_true, decide_false, Bool.not_true, Bool.not_false, Bool.false_eq_true, Int.reduceEq, Int.reduceLT, Int.reduceLE, Int.reduceNeg, Int.reduceToNat, ↓okI, ↓okI2, ↓aV_d, ↓aV_o, ↓aV_n, ↓aV_w, ↓dV_d, ↓dV_n, ↓dV_w, ↓gE_0, ↓gE_s, ↓eL_l, ↓eD_l, ↓eV_d, ↓eV_l, ↓nA_d, ↓nA_o, ↓iD_i, ↓bD_b, ↓kD_i, ↓kD_s, ↓zD_d, ↓vZ_d, ↓vZ_n, ↓sR_0, ↓sR_s, ↓sK_n, ↓sK_0, ↓lD_l, ↓sD_l, ↓sD_t, ↓tD_t, ↓dA_nil, ↓dA_d, ↓dN_nil, ↓dN_c, ↓oZ_addI, ↓oZ_addS, ↓oZ_addT, ↓oZ_addL, ↓oZ_sub, ↓oZ_mul, ↓oZ_mulT, ↓oZ_fdiv, ↓oZ_mod, ↓oZ_pow, ↓oZ_eqI, ↓oZ_eqS, ↓oZ_neS, ↓oZ_neI, ↓oZ_lt, ↓oZ_le, ↓oZ_gt, ↓oZ_ge, ↓oZ_ixL, ↓oZ_ixT, ↓aI_0, ↓aI_1, ↓aI_2, ↓nI_0, ↓nI_1, ↓lS_0, ↓lS_s, ↓aI_int, ↓aI_str, ↓aI_row, ↓aI_b2, ↓aI_i1, ↓aI_i2, ↓aI_i3, ↓aI_i4, ↓aI_i5, ↓aI_i6, ↓oZ_abyz, ↓oZ_az, ↓cZ_lenLm, ↓cZ_lenTm, ↓cZ_lenP, ↓oZ_ixP, ↓sD_P, ↓cZ_lstP, ↓cZ_abs, ↓cZ_int, ↓cZ_intB, ↓cZ_tup, ↓cZ_lstL, ↓cZ_lstT, ↓cZ_all, ↓cZ_any, ↓cZ_max2, ↓cZ_min2, ↓cZ_sum, ↓cZ_sorted, ↓xE_int, ↓xE_bl, ↓xE_str, ↓xE_non, ↓xE_var, ↓xE_op, ↓xE_neg, ↓xE_nt, ↓xE_an, ↓xE_or, ↓xE_ch, ↓xE_isN, ↓xE_notN, ↓xE_ife, ↓xE_tup, ↓xE_lst, ↓xE_sl, ↓sl1_T, ↓sl1_L, ↓xE_cb, ↓xE_isa, ↓xE_call, ↓xE_callS, ↓xE_lc, ↓sN_0, ↓sN_s, ↓xE_lrg, ↓xE_trg, ↓xE_pop, ↓xE_idxL, ↓sT_s, ↓xE_idxT, ↓xE_dget, ↓xE_din, ↓xE_dnin, ↓xE_dset, ↓xA_nil, ↓xA_cons, ↓xT_te, ↓xT_tb, ↓xT_nt, ↓xT_an, ↓xT_or, ↓xT_yes, ↓xT_lend, ↓xP_no, ↓xP_at, ↓xI_rng1, ↓xI_rng2, ↓xI_u, ↓xI_en, ↓xG_nm, ↓xG_tup, ↓xGs_nil, ↓xGs_cons, ↓sV_d, ↓sV_n, ↓sV_w, ↓rV_d, ↓rV_n, ↓rV_w, ↓rV_o, ↓xS_set, ↓xS_asg, ↓xS_seti, ↓xS_app, ↓xS_newD, ↓xS_dput, ↓xS_drop, ↓xS_ret, ↓xS_retN, ↓xS_iff, ↓xS_for, ↓xS_wh, ↓xS_brk, ↓xS_cont, ↓xS_nx, ↓xS_seq, ↓xS_fz, ↓fzK_l, ↓fzK_d, ↓fzK_n, ↓fzK_D, ↓kS_nx, ↓kS_rt, ↓kS_bk, ↓kS_ct, ↓out1_rt, ↓out2_rt, ↓u_b_least_logs_3, Int.toNat_natCast, ↓vK_s vk, ↓oZ_addLog]
      rw [ri]
      rfl)
    rw [enD_len, List.length_map] at r3
    have r3' : RelK k3 (stageL L maps (e + 1)) := by
      rw [stageL_succ]
      have : roundAt L maps (stageL L maps e) e L.length = roundL L maps (stageL L maps e) e := by rw [hL]; rfl
      rw [← this]; exact r3
    rw [enD_at (by rw [List.length_map, Rl]; omega), trn_x, show DL.pairD ((rowsOf maps).map tupI) e = .tuple [.int (e : Nat), tupI ((rowsOf maps).getD e [])] by unfold DL.pairD; rw [nthD_map [] (by rw [Rl]; exact hi)]]
    refine ⟨_, ?_, k3, h5, h6, .dat (.int (e : Nat)), .dat (tupI ((rowsOf maps).getD e [])), rfl, r3'⟩
    simp (config := { implicitDefEqProofs := false }) (disch := walk_at "side") only [↓reduceIte, decide_eq_true_eq, decide_true, decide_false, Bool.not_true, Bool.not_false, Bool.false_eq_true, Int.reduceEq, Int.reduceLT, Int.reduceLE, Int.reduceNeg, Int.reduceToNat, ↓okI, ↓okI2, ↓aV_d, ↓aV_o, ↓aV_n, ↓aV_w, ↓dV_d, ↓dV_n, ↓dV_w, ↓gE_0, ↓gE_s, ↓eL_l, ↓eD_l, ↓eV_d, ↓eV_l, ↓nA_d, ↓nA_o, ↓iD_i, ↓bD_b, ↓kD_i, ↓kD_s, ↓zD_d, ↓vZ_d, ↓vZ_n, ↓sR_0, ↓sR_s, ↓sK_n, ↓sK_0, ↓lD_l, ↓sD_l, ↓sD_t, ↓tD_t, ↓dA_nil, ↓dA_d, ↓dN_nil, ↓dN_c, ↓oZ_addI, ↓oZ_addS, ↓oZ_addT, ↓oZ_addL, ↓oZ_sub, ↓oZ_mul, ↓oZ_mulT, ↓oZ_fdiv, ↓oZ_mod, ↓oZ_pow, ↓oZ_eqI, ↓oZ_eqS, ↓oZ_neS, ↓oZ_neI, ↓oZ_lt, ↓oZ_le, ↓oZ_gt, ↓oZ_ge, ↓oZ_ixL, ↓oZ_ixT, ↓aI_0, ↓aI_1, ↓aI_2, ↓nI_0, ↓nI_1, ↓lS_0, ↓lS_s, ↓aI_int, ↓aI_str, ↓aI_row, ↓aI_b2, ↓aI_i1, ↓aI_i2, ↓aI_i3, ↓aI_i4, ↓aI_i5, ↓aI_i6, ↓oZ_abyz, ↓oZ_az, ↓cZ_lenLm, ↓cZ_lenTm, ↓cZ_lenP, ↓oZ_ixP, ↓sD_P, ↓cZ_lstP, ↓cZ_abs, ↓cZ_int, ↓cZ_intB, ↓cZ_tup, ↓cZ_lstL, ↓cZ_lstT, ↓cZ_all, ↓cZ_any, ↓cZ_max2, ↓cZ_min2, ↓cZ_sum, ↓cZ_sorted, ↓xE_int, ↓xE_bl, ↓xE_str, ↓xE_non, ↓xE_var, ↓xE_op, ↓xE_neg, ↓xE_nt, ↓xE_an, ↓xE_or, ↓xE_ch, ↓xE_isN, ↓xE_notN, ↓xE_ife, ↓xE_tup, ↓xE_lst, ↓xE_sl, ↓sl1_T, ↓sl1_L, ↓xE_cb, ↓xE_isa, ↓xE_call, ↓xE_callS, ↓xE_lc, ↓sN_0, ↓sN_s, ↓xE_lrg, ↓xE_trg, ↓xE_pop, ↓xE_idxL, ↓sT_s, ↓xE_idxT, ↓xE_dget, ↓xE_din, ↓xE_dnin, ↓xE_dset, ↓xA_nil, ↓xA_cons, ↓xT_te, ↓xT_tb, ↓xT_nt, ↓xT_an, ↓xT_or, ↓xT_yes, ↓xT_lend, ↓xP_no, ↓xP_at, ↓xI_rng1, ↓xI_rng2, ↓xI_u, ↓xI_en, ↓xG_nm, ↓xG_tup, ↓xGs_nil, ↓xGs_cons, ↓sV_d, ↓sV_n, ↓sV_w, ↓rV_d, ↓rV_n, ↓rV_w, ↓rV_o, ↓xS_set, ↓xS_asg, ↓xS_seti, ↓xS_app, ↓xS_newD, ↓xS_dput, ↓xS_drop, ↓xS_ret, ↓xS_retN, ↓xS_iff, ↓xS_for, ↓xS_wh, ↓xS_brk, ↓xS_cont, ↓xS_nx, ↓xS_seq, ↓xS_fz, ↓fzK_l, ↓fzK_d, ↓fzK_n, ↓fzK_D, ↓kS_nx, ↓kS_rt, ↓kS_bk, ↓kS_ct, ↓out1_rt, ↓out2_rt, ↓u_b_least_logs_5, ↓fK_s L3])
  rw [enD_len, List.length_map, Rl] at r2
  have L3 : lcGo (ltn [] 7 .yes e_least_logs_1) (rgD 0 (rowsOf maps).length) [.dat (tableD L (firstsOf maps) (rowsOf maps)), .own (.dK k2), .dat (.tuple (L.map .str)), .dat (.tuple ((firstsOf maps).map .int)), .dat (prodD (rowsOf maps)), g5, g6, .no, g8] = some ((List.range (rowsOf maps).length).map (fun i => logD ((stageL L maps (elementsOf maps 40).length).2.getD i [])), [.dat (tableD L (firstsOf maps) (rowsOf maps)), .own (.dK k2), .dat (.tuple (L.map .str)), .dat (.tuple ((firstsOf maps).map .int)), .dat (prodD (rowsOf maps)), g5, g6, .no, g8]) := by
    rw [rgD_0]
    refine lc_map _ _ fun i hi => ?_
    rw [List.mem_range, Rl] at hi
    have vk := r2.at' i (by rw [full]; exact hi)
    rw [ltn_x]
    simp (config := { implicitDefEqProofs := false }) (disch := walk_at "side") only [↓reduceIte, decide_eq_true_eq, decide_true, decide_false, Bool.not_true, Bool.not_false, Bool.false_eq_true, Int.reduceEq, Int.reduceLT, Int.reduceLE, Int.reduceNeg, Int.reduceToNat, ↓okI, ↓okI2, ↓aV_d, ↓aV_o, ↓aV_n, ↓aV_w, ↓dV_d, ↓dV_n, ↓dV_w, ↓gE_0, ↓gE_s, ↓eL_l, ↓eD_l, ↓eV_d, ↓eV_l, ↓nA_d, ↓nA_o, ↓iD_i, ↓bD_b, ↓kD_i, ↓kD_s, ↓zD_d, ↓vZ_d, ↓vZ_n, ↓sR_0, ↓sR_s, ↓sK_n, ↓sK_0, ↓lD_l, ↓sD_l, ↓sD_t, ↓tD_t, ↓dA_nil, ↓dA_d, ↓dN_nil, ↓dN_c, ↓oZ_addI, ↓oZ_addS, ↓oZ_addT, ↓oZ_addL, ↓oZ_sub, ↓oZ_mul, ↓oZ_mulT, ↓oZ_fdiv, ↓oZ_mod, ↓oZ_pow, ↓oZ_eqI, ↓oZ_eqS, ↓oZ_neS, ↓oZ_neI, ↓oZ_lt, ↓oZ_le, ↓oZ_gt, ↓oZ_ge, ↓oZ_ixL, ↓oZ_ixT, ↓aI_0, ↓aI_1, ↓aI_2, ↓nI_0, ↓nI_1, ↓lS_0, ↓lS_s, ↓aI_int, ↓aI_str, ↓aI_row, ↓aI_b2, ↓aI_i1, ↓aI_i2, ↓aI_i3, ↓aI_i4, ↓aI_i5, ↓aI_i6, ↓oZ_abyz, ↓oZ_az, ↓cZ_lenLm, ↓cZ_lenTm, ↓cZ_lenP, ↓oZ_ixP, ↓sD_P, ↓cZ_lstP, ↓cZ_abs, ↓cZ_int, ↓cZ_intB, ↓cZ_tup, ↓cZ_lstL, ↓cZ_lstT, ↓cZ_all, ↓cZ_any, ↓cZ_max2, ↓cZ_min2, ↓cZ_sum, ↓cZ_sorted, ↓xE_int, ↓xE_bl, ↓xE_str, ↓xE_non, ↓xE_var, ↓xE_op, ↓xE_neg, ↓xE_nt, ↓xE_an, ↓xE_or, ↓xE_ch, ↓xE_isN, ↓xE_notN, ↓xE_ife, ↓xE_tup, ↓xE_lst, ↓xE_sl, ↓sl1_T, ↓sl1_L, ↓xE_cb, ↓xE_isa, ↓xE_call, ↓xE_callS, ↓xE_lc, ↓sN_0, ↓sN_s, ↓xE_lrg, ↓xE_trg, ↓xE_pop, ↓xE_idxL, ↓sT_s, ↓xE_idxT, ↓xE_dget, ↓xE_din, ↓xE_dnin, ↓xE_dset, ↓xA_nil, ↓xA_cons, ↓xT_te, ↓xT_tb, ↓xT_nt, ↓xT_an, ↓xT_or, ↓xT_yes, ↓xT_lend, ↓xP_no, ↓xP_at, ↓xI_rng1, ↓xI_rng2, ↓xI_u, ↓xI_en, ↓xG_nm, ↓xG_tup, ↓xGs_nil, ↓xGs_cons, ↓sV_d, ↓sV_n, ↓sV_w, ↓rV_d, ↓rV_n, ↓rV_w, ↓rV_o, ↓xS_set, ↓xS_asg, ↓xS_seti, ↓xS_app, ↓xS_newD, ↓xS_dput, ↓xS_drop, ↓xS_ret, ↓xS_retN, ↓xS_iff, ↓xS_for, ↓xS_wh, ↓xS_brk, ↓xS_cont, ↓xS_nx, ↓xS_seq, ↓xS_fz, ↓fzK_l, ↓fzK_d, ↓fzK_n, ↓fzK_D, ↓kS_nx, ↓kS_rt, ↓kS_bk, ↓kS_ct, ↓out1_rt, ↓out2_rt, ↓u_e_least_logs_1, ↓vK_s vk]
  have tn : (((rowsOf maps).length : Nat) : Int).toNat = (rowsOf maps).length := by omega
  have hz : (rgD 0 (rowsOf maps).length).length < sizeLine := by rw [rgD_len, sizeLine_eq, Rl]; omega
  have oks := stageL_ok (L := L) ho (elementsOf maps 40).length
  have fin : (List.range (rowsOf maps).length).map (fun i => logD ((stageL L maps (elementsOf maps 40).length).2.getD i [])) = (stageL L maps 40).2.map logD := by
    have := map_rangeD (stageL L maps (elementsOf maps 40).length).2 [] logD
    rw [e40, ← this, oks.len, full, Rl]
  rw [fin] at L3
  rw [x_least_logs]
  have tD : ∀ {β : Type} (kn : Rho → Option β) (ρ : Rho), xG [] (.tup 3 (.cons (.nm 2) (.cons (.nm 3) (.cons (.nm 4) .nil)))) (tableD L (firstsOf maps) (rowsOf maps)) ρ kn = xGs [] (.cons (.nm 2) (.cons (.nm 3) (.cons (.nm 4) .nil))) [.tuple (L.map .str), .tuple ((firstsOf maps).map .int), prodD (rowsOf maps)] ρ kn := fun kn ρ => by
    unfold tableD; rw [xG_tup]; rfl
  have lenP : ∀ {β : Type} (kz : Rz → Option β), cZ .len [prodD (rowsOf maps)] kz = kz (.d (.int (rowsOf maps).length)) := fun kz => by unfold prodD; rw [cZ_lenTm]
  have tP : ∀ {β : Type} (kl : List D → Option β), EV.tD (prodD (rowsOf maps)) kl = kl ((rowsOf maps).map tupI) := fun kl => rfl
  simp (config := { implicitDefEqProofs := false }) (disch := walk_at "side") only [↓reduceIte, decide_eq_true_eq, decide_true, decide_false, Bool.not_true, Bool.not_false, Bool.false_eq_true, Int.reduceEq, Int.reduceLT, Int.reduceLE, Int.reduceNeg, Int.reduceToNat, ↓okI, ↓okI2, ↓aV_d, ↓aV_o, ↓aV_n, ↓aV_w, ↓dV_d, ↓dV_n, ↓dV_w, ↓gE_0, ↓gE_s, ↓eL_l, ↓eD_l, ↓eV_d, ↓eV_l, ↓nA_d, ↓nA_o, ↓iD_i, ↓bD_b, ↓kD_i, ↓kD_s, ↓zD_d, ↓vZ_d, ↓vZ_n, ↓sR_0, ↓sR_s, ↓sK_n, ↓sK_0, ↓lD_l, ↓sD_l, ↓sD_t, ↓tD_t, ↓dA_nil, ↓dA_d, ↓dN_nil, ↓dN_c, ↓oZ_addI, ↓oZ_addS, ↓oZ_addT, ↓oZ_addL, ↓oZ_sub, ↓oZ_mul, ↓oZ_mulT, ↓oZ_fdiv, ↓oZ_mod, ↓oZ_pow, ↓oZ_eqI, ↓oZ_eqS, ↓oZ_neS, ↓oZ_neI, ↓oZ_lt, ↓oZ_le, ↓oZ_gt, ↓oZ_ge, ↓oZ_ixL, ↓oZ_ixT, ↓aI_0, ↓aI_1, ↓aI_2, ↓nI_0, ↓nI_1, ↓lS_0, ↓lS_s, ↓aI_int, ↓aI_str, ↓aI_row, ↓aI_b2, ↓aI_i1, ↓aI_i2, ↓aI_i3, ↓aI_i4, ↓aI_i5, ↓aI_i6, ↓oZ_abyz, ↓oZ_az, ↓cZ_lenLm, ↓cZ_lenTm, ↓cZ_lenP, ↓oZ_ixP, ↓sD_P, ↓cZ_lstP, ↓cZ_abs, ↓cZ_int, ↓cZ_intB, ↓cZ_tup, ↓cZ_lstL, ↓cZ_lstT, ↓cZ_all, ↓cZ_any, ↓cZ_max2, ↓cZ_min2, ↓cZ_sum, ↓cZ_sorted, ↓xE_int, ↓xE_bl, ↓xE_str, ↓xE_non, ↓xE_var, ↓xE_op, ↓xE_neg, ↓xE_nt, ↓xE_an, ↓xE_or, ↓xE_ch, ↓xE_isN, ↓xE_notN, ↓xE_ife, ↓xE_tup, ↓xE_lst, ↓xE_sl, ↓sl1_T, ↓sl1_L, ↓xE_cb, ↓xE_isa, ↓xE_call, ↓xE_callS, ↓xE_lc, ↓sN_0, ↓sN_s, ↓xE_lrg, ↓xE_trg, ↓xE_pop, ↓xE_idxL, ↓sT_s, ↓xE_idxT, ↓xE_dget, ↓xE_din, ↓xE_dnin, ↓xE_dset, ↓xA_nil, ↓xA_cons, ↓xT_te, ↓xT_tb, ↓xT_nt, ↓xT_an, ↓xT_or, ↓xT_yes, ↓xT_lend, ↓xP_no, ↓xP_at, ↓xI_rng1, ↓xI_rng2, ↓xI_u, ↓xI_en, ↓xG_nm, ↓xG_tup, ↓xGs_nil, ↓xGs_cons, ↓sV_d, ↓sV_n, ↓sV_w, ↓rV_d, ↓rV_n, ↓rV_w, ↓rV_o, ↓xS_set, ↓xS_asg, ↓xS_seti, ↓xS_app, ↓xS_newD, ↓xS_dput, ↓xS_drop, ↓xS_ret, ↓xS_retN, ↓xS_iff, ↓xS_for, ↓xS_wh, ↓xS_brk, ↓xS_cont, ↓xS_nx, ↓xS_seq, ↓xS_fz, ↓fzK_l, ↓fzK_d, ↓fzK_n, ↓fzK_D, ↓kS_nx, ↓kS_rt, ↓kS_bk, ↓kS_ct, ↓out1_rt, ↓out2_rt, ↓u_c_least_logs, ↓tD, ↓tP, ↓fK_s L1, ↓fK_s L2, ↓lenP, tn, ↓lK_s L3]

end CS

namespace CS
open PySem PySem.Spec PyProof.Rows L2 DL EV
local macro_rules | `(tactic| walk_at "side") => `(tactic| first | omega | (simp only [List.length_cons, List.length_nil, List.length_map, List.length_append, List.length_range, PySem.sizeLine_eq]; omega) | assumption | (simp; done))
/-! ### texts of logs -/
def okS (x : Str) : Prop := x.length ≤ 8 ∧ ∀ c ∈ x.cps.toList, c < 16 ^ 8
theorem join_le {M : Nat} : ∀ ts : List Str, (∀ t ∈ ts, t.length ≤ M) → (Str.join ", " ts).length ≤ ts.length * (M + 2)
  | [], _ => by
    have : (Str.join ", " ([] : List Str)).length = 0 := rfl
    omega
  | x :: ts, h => by
    have e := join_length_add (x :: ts) (by simp)
    have b : ∀ ts : List Str, (∀ t ∈ ts, t.length ≤ M) → piled ts ≤ ts.length * (M + 2) := fun ts => by
      induction ts with
      | nil => intro _; simp [piled]
      | cons y ts ih =>
        intro h
        have h1 := h y List.mem_cons_self
        have h2 := ih fun t m => h t (List.mem_cons_of_mem _ m)
        rw [piled_cons, List.length_cons, Nat.add_mul]
        omega
    have := b _ h
    omega
theorem shownAll_mem {M : Nat} : ∀ xs : List D, (∀ x ∈ xs, x.shown.length ≤ M) → ∀ t ∈ PyData.shownAll xs, t.length ≤ M
  | [], _, t, m => by simp [PyData.shownAll] at m
  | x :: xs, h, t, m => by
    rw [PyData.shownAll_cons] at m
    rcases List.mem_cons.mp m with m | m
    · rw [m]; exact h x List.mem_cons_self
    · exact shownAll_mem xs (fun y my => h y (List.mem_cons_of_mem _ my)) t m
theorem strLen_app (a b : Str) : (a ++ b).length = a.length + b.length := len_app a b
theorem shown_list_le {M : Nat} {xs : List D} (h : ∀ x ∈ xs, x.shown.length ≤ M) : (PyData.list xs).shown.length ≤ xs.length * (M + 2) + 2 := by
  have := join_le (PyData.shownAll xs) (shownAll_mem xs h)
  rw [PyData.shownAll_length] at this
  rw [PyData.shown_list, strLen_app, strLen_app]
  have e1 : ("[" : Str).length = 1 := rfl
  have e2 : ("]" : Str).length = 1 := rfl
  omega
theorem shown_tuple_le {M : Nat} {xs : List D} (h : ∀ x ∈ xs, x.shown.length ≤ M) : (PyData.tuple xs).shown.length ≤ xs.length * (M + 2) + 3 := by
  have := join_le (PyData.shownAll xs) (shownAll_mem xs h)
  rw [PyData.shownAll_length] at this
  rw [PyData.shown_tuple, strLen_app, strLen_app]
  have e1 : ("(" : Str).length = 1 := rfl
  have e2 : ((if xs.length == 1 then ",)" else ")" : String) : Str).length ≤ 2 := by
    split
    · decide
    · decide
  omega
theorem shown_okS {x : Str} (h : okS x) : (PyData.str x).shown.length ≤ 82 := by
  rw [PyData.shown_str]
  have := StrLaws.reprText_len x h.2
  have := h.1
  omega
theorem shown_logD {l : List Str} (h : ∀ x ∈ l, okS x) : (logD l).shown.length ≤ l.length * 84 + 3 := by
  have := shown_tuple_le (M := 82) (xs := l.map PyData.str) fun d m => by
    obtain ⟨x, mx, rfl⟩ := List.mem_map.mp m
    exact shown_okS (h x mx)
  rw [List.length_map] at this
  exact this
theorem showableLogs : ∀ S : List (List Str), PyData.showableAll (S.map logD) = true
  | [] => rfl
  | l :: S => by
    have h : ∀ l : List Str, PyData.showableAll (l.map PyData.str) = true := fun l => by
      induction l with
      | nil => rfl
      | cons x l ih => rw [List.map_cons, PyData.showableAll, ih]; rfl
    rw [List.map_cons, PyData.showableAll, showableLogs S]
    show (PyData.showableAll (l.map PyData.str) && true) = true
    rw [h]; rfl
theorem hasDictLogs : ∀ S : List (List Str), PyData.hasDictAll (S.map logD) = false
  | [] => rfl
  | l :: S => by
    have h : ∀ l : List Str, PyData.hasDictAll (l.map PyData.str) = false := fun l => by
      induction l with
      | nil => rfl
      | cons x l ih => rw [List.map_cons, PyData.hasDictAll, ih]; rfl
    rw [List.map_cons, PyData.hasDictAll, hasDictLogs S]
    show (PyData.hasDictAll (l.map PyData.str) || false) = false
    rw [h]; rfl
theorem depthLogs : ∀ S : List (List Str), PyData.depthAll (S.map logD) ≤ 1
  | [] => by simp [PyData.depthAll]
  | l :: S => by
    have h : ∀ l : List Str, PyData.depthAll (l.map PyData.str) = 0 := fun l => by
      induction l with
      | nil => rfl
      | cons x l ih => rw [List.map_cons, PyData.depthAll, ih]; rfl
    have := depthLogs S
    rw [List.map_cons, PyData.depthAll]
    have e : PyData.depth (logD l) = 1 := by
      show PyData.depthAll (l.map PyData.str) + 1 = 1
      rw [h]
    omega
/-- repr of a list of logs -/
theorem reprLogs {β : Type} {S : List (List Str)} {kz : Rz → Option β} (h0 : S.length ≤ 40) (h1 : ∀ l ∈ S, l.length ≤ 40) (h2 : ∀ l ∈ S, ∀ x ∈ l, okS x) : cZ .repr [.list (S.map logD)] kz = kz (.d (.str (PyData.list (S.map logD)).shown)) := by
  refine cZ_reprL (showableLogs S) (hasDictLogs S) ?_ ?_
  · show PyData.depthAll (S.map logD) + 1 ≤ 64
    have := depthLogs S
    omega
  · have := shown_list_le (M := 3363) (xs := S.map logD) fun d m => by
      obtain ⟨l, ml, rfl⟩ := List.mem_map.mp m
      have a := shown_logD (h2 l ml)
      have b := h1 l ml
      have := Nat.mul_le_mul_right 84 b
      omega
    rw [List.length_map] at this
    have := Nat.mul_le_mul_right (3363 + 2) h0
    rw [sizeLine_eq]
    omega
/-! the letters are short and plain -/
theorem okS_cps {x y : Str} : (x ++ y).cps.toList = x.cps.toList ++ y.cps.toList := by
  show (x.cps ++ y.cps).toList = _
  simp
theorem sgn_ok {z : Str} {j : Nat} (h : ∀ c ∈ z.cps.toList, c < 16 ^ 8) : ∀ c ∈ (sgn z j).cps.toList, c < 16 ^ 8 := fun c m => by
  have e : c = z.cps.toList.getD j 0 := by simpa [sgn] using m
  rw [e, List.getD_eq_getElem?_getD]
  cases q : z.cps.toList[j]? with
  | none => simp
  | some d =>
    have := List.mem_of_getElem? q
    exact h d this
theorem abyz_ok : ∀ c ∈ ("abyz" : Str).cps.toList, c < 16 ^ 8 := by decide +kernel
theorem az_ok : ∀ c ∈ ("abcdefghijklmnopqrstuvwxyz" : Str).cps.toList, c < 16 ^ 8 := by decide +kernel
theorem wtext_ok (N : List Int) (k : Int) : ∀ n, ∀ c ∈ (wtext N k n).cps.toList, c < 16 ^ 8
  | 0, c, m => by cases m
  | n + 1, c, m => by
    unfold wtext at m
    rw [okS_cps] at m
    rcases List.mem_append.mp m with m | m
    · exact wtext_ok N k n c m
    · exact sgn_ok (j := (nxt N (k + (n : Nat)) 4).toNat) abyz_ok c m
theorem word_ok (N : List Int) (k : Int) (taken : List Str) : okS (wordOf N k taken) := by
  unfold wordOf
  split
  · refine ⟨?_, fun c m => ?_⟩
    · rw [len_app]
      show 1 + 1 ≤ 8
      omega
    · rw [okS_cps] at m
      rcases List.mem_append.mp m with m | m
      · rw [show ("c" : Str).cps.toList = [99] from rfl] at m
        rw [List.mem_singleton.mp m]; decide
      · exact sgn_ok (j := taken.length) az_ok c m
  · refine ⟨?_, wtext_ok _ _ _⟩
    rw [wtext_len]
    have := wlen_bnd N k
    omega
theorem letters_ok (N : List Int) (k : Int) : ∀ n, ∀ x ∈ (lettersOf N k n).1, okS x
  | 0, x, m => by cases m
  | n + 1, x, m => by
    unfold lettersOf at m
    rcases List.mem_append.mp m with m | m
    · exact letters_ok N k n x m
    · rw [List.mem_singleton.mp m]; exact word_ok _ _ _
theorem foldL_mem {L : List Str} {g : FL → Nat → FL} {n : Nat} (hg : ∀ s k, k < n → (∀ l ∈ s.2, ∀ x ∈ l, x ∈ L) → ∀ l ∈ (g s k).2, ∀ x ∈ l, x ∈ L) : ∀ (ks : List Nat) (s : FL), (∀ k ∈ ks, k < n) → (∀ l ∈ s.2, ∀ x ∈ l, x ∈ L) → ∀ l ∈ (ks.foldl g s).2, ∀ x ∈ l, x ∈ L
  | [], s, _, h => h
  | k :: ks, s, hk, h => by
    rw [List.foldl_cons]
    exact foldL_mem hg ks _ (fun j m => hk j (List.mem_cons_of_mem _ m)) (hg s k (hk k List.mem_cons_self) h)
theorem getD_memT {L : List Str} {k : Nat} (h : k < L.length) : L.getD k "" ∈ L := by
  rw [List.getD_eq_getElem?_getD, List.getElem?_eq_getElem h]
  exact List.getElem_mem h
theorem stageL_mem {L : List Str} {maps : List (List Int)} (hL : L.length = maps.length) : ∀ i, ∀ l ∈ (stageL L maps i).2, ∀ x ∈ l, x ∈ L
  | 0 => by
    show ∀ l ∈ (initL L maps).2, ∀ x ∈ l, x ∈ L
    unfold initL
    refine foldL_mem (n := maps.length) (fun s k hk h l m x mx => ?_) _ _ (fun k m => List.mem_range.mp m) (by simp)
    unfold addL at m
    split at m
    · exact h l m x mx
    · rcases List.mem_append.mp m with m | m
      · exact h l m x mx
      · rw [List.mem_singleton.mp m] at mx
        rw [List.mem_singleton.mp mx]
        exact getD_memT (by omega)
  | i + 1 => by
    rw [stageL_succ]
    unfold roundL
    refine foldL_mem (n := maps.length) (fun s k hk h l m x mx => ?_) _ _ (fun k m => List.mem_range.mp m) (stageL_mem hL i)
    unfold stepL at m
    split at m
    · rename_i q
      rcases List.mem_append.mp m with m | m
      · exact h l m x mx
      · rw [List.mem_singleton.mp m] at mx
        rcases List.mem_append.mp mx with mx | mx
        · rw [List.getD_eq_getElem?_getD] at mx
          cases z : s.2[i]? with
          | none => rw [z] at mx; cases mx
          | some l' =>
            rw [z] at mx
            exact h l' (List.mem_of_getElem? z) x mx
        · rw [List.mem_singleton.mp mx]
          exact getD_memT (by omega)
    · exact h l m x mx

end CS

namespace CS
open PySem PySem.Spec PyProof.Rows L2 DL EV
local macro_rules | `(tactic| walk_at "side") => `(tactic| first | omega | (simp only [List.length_cons, List.length_nil, List.length_map, List.length_append, List.length_range, PySem.sizeLine_eq]; omega) | assumption | (simp; done))
theorem vstep {n : Nat} {maps : List (List Int)} {L : List Str} (ho : ∀ x ∈ maps, okMap n x) (hE : (elementsOf maps 40).length ≤ 40) (hL : L.length = maps.length) {v : Int} {m : List Int} {x : Str} (hx : x ∈ L)
    (h : (v = -1 ∧ m = upTo n) ∨ (m ∈ elementsOf maps 40 ∧ v = (idxI m (elementsOf maps 40) : Nat))) :
    thenI m (maps.getD (fixS x L) []) ∈ elementsOf maps 40 ∧ timesI (rowsOf maps) v ((firstsOf maps).getD (fixS x L) 0) = (idxI (thenI m (maps.getD (fixS x L) [])) (elementsOf maps 40) : Nat) := by
  have hl := fixS_lt hx
  have mm : maps.getD (fixS x L) [] ∈ maps := getD_mem (by omega)
  have mE := maps_in (most := 40) _ mm
  have Fat : (firstsOf maps).getD (fixS x L) 0 = (idxI (maps.getD (fixS x L) []) (elementsOf maps 40) : Nat) := by
    unfold firstsOf; exact getD_mapN _ [] 0 (by omega)
  rw [Fat]
  rcases h with ⟨rfl, rfl⟩ | ⟨h1, rfl⟩
  · rw [upTo_then (ho _ mm).1]
    refine ⟨mE, ?_⟩
    unfold timesI
    rw [if_pos rfl]
  · obtain ⟨d1, d2⟩ := idx_getD h1
    obtain ⟨f1, f2⟩ := idx_getD mE
    refine ⟨elements_times ho hE h1 mE, ?_⟩
    unfold timesI
    rw [if_neg (by omega), if_neg (by omega), Int.toNat_natCast, Int.toNat_natCast]
    unfold rowsOf
    rw [getD_mapN _ [] [] d2, getD_mapN _ [] 0 f2, d1, f1]
theorem vfold {n : Nat} {maps : List (List Int)} {L : List Str} (ho : ∀ x ∈ maps, okMap n x) (hE : (elementsOf maps 40).length ≤ 40) (hL : L.length = maps.length) : ∀ (log : List Str) (v : Int) (m : List Int), (∀ x ∈ log, x ∈ L) → log ≠ [] →
    ((v = -1 ∧ m = upTo n) ∨ (m ∈ elementsOf maps 40 ∧ v = (idxI m (elementsOf maps 40) : Nat))) →
    log.foldl (fun v x => thenI v (maps.getD (fixS x L) [])) m ∈ elementsOf maps 40 ∧ log.foldl (fun v x => timesI (rowsOf maps) v ((firstsOf maps).getD (fixS x L) 0)) v = (idxI (log.foldl (fun v x => thenI v (maps.getD (fixS x L) [])) m) (elementsOf maps 40) : Nat)
  | [], _, _, _, h, _ => absurd rfl h
  | x :: log, v, m, hx, _, h => by
    have s := vstep ho hE hL (hx x List.mem_cons_self) h
    rw [List.foldl_cons, List.foldl_cons]
    by_cases q : log = []
    · subst q; exact s
    · exact vfold ho hE hL log _ _ (fun y my => hx y (List.mem_cons_of_mem _ my)) q (.inr s)
theorem value_same {n : Nat} {maps : List (List Int)} {L log : List Str} (ho : ∀ x ∈ maps, okMap n x) (hE : (elementsOf maps 40).length ≤ 40) (hL : L.length = maps.length) (hx : ∀ x ∈ log, x ∈ L) :
    (log ≠ [] → valMap n maps L log ∈ elementsOf maps 40) ∧ valueI L (firstsOf maps) (rowsOf maps) log = if log = [] then (-1 : Int) else ((idxI (valMap n maps L log) (elementsOf maps 40) : Nat) : Int) := by
  by_cases q : log = []
  · subst q
    exact ⟨fun h => absurd rfl h, rfl⟩
  · have := vfold ho hE hL log (-1) (upTo n) hx q (.inl ⟨rfl, rfl⟩)
    rw [if_neg q]
    exact ⟨fun _ => this.1, this.2⟩
theorem idx_lt {m : List Int} {E : List (List Int)} (h : m ∈ E) : idxI m E < E.length := (idx_getD h).2
theorem tab_ok {n : Nat} {maps : List (List Int)} {L : List Str} (ho : ∀ x ∈ maps, okMap n x) (hE : (elementsOf maps 40).length ≤ 40) (hL : L.length = maps.length) : okTab L (firstsOf maps) (rowsOf maps) := by
  have rl : (rowsOf maps).length = (elementsOf maps 40).length := by unfold rowsOf; rw [List.length_map]
  refine ⟨by unfold firstsOf; rw [List.length_map, hL], fun e m => ?_, fun r m => ?_⟩
  · obtain ⟨x, mx, rfl⟩ := List.mem_map.mp m
    have := idx_lt (maps_in (most := 40) x mx)
    rw [rl]; omega
  · obtain ⟨a, ma, rfl⟩ := List.mem_map.mp m
    refine ⟨by rw [List.length_map, rl], fun e me => ?_⟩
    obtain ⟨b, mb, rfl⟩ := List.mem_map.mp me
    have := idx_lt (elements_times ho hE ma mb)
    rw [rl]; omega
theorem small_log {i : Int} (h : -1 ≤ i ∧ i < 1000) : i.natAbs.log2 < 1920 := by
  by_cases q : i.natAbs = 0
  · rw [q]; decide
  · rw [Nat.log2_lt q]
    have : i.natAbs < 2 ^ 10 := by omega
    exact Nat.lt_trans this (Nat.pow_lt_pow_right (by decide) (by decide))

end CS

namespace CS
open PySem PySem.Spec PyProof.Rows L2 DL EV
local macro_rules | `(tactic| walk_at "side") => `(tactic| first | omega | (simp only [List.length_cons, List.length_nil, List.length_map, List.length_append, List.length_range, PySem.sizeLine_eq]; omega) | assumption | (simp; done))
theorem valueK {β : Type} {L : List Str} {F : List Int} {rows : List (List Int)} {log : List Str} {kv : Vl → Option β} (T : okTab L F rows) (hx : ∀ x ∈ log, x ∈ L) (hlog : log.length ≤ 1000) : cK f_value_of [tableD L F rows, .tuple (log.map .str)] kv = kv (.d (.int (valueI L F rows log))) := cK_s (value_of_eq T hx hlog)
theorem lvalueK {β : Type} {n : Nat} {maps E : List (List Int)} {L log : List Str} {kv : Vl → Option β} (hn : n ≤ 1000 ∧ 1 ≤ n) (hm0 : 1 ≤ maps.length) (hm : ∀ x ∈ maps, okMap n x) (hL : L.length = maps.length) (hx : ∀ x ∈ log, x ∈ L) (hin : log ≠ [] → valMap n maps L log ∈ E) : cK f_l_value [.list (E.map tupI), .tuple (L.map .str), .list (maps.map tupI), .tuple (log.map .str)] kv = kv (.d (.int (if log = [] then -1 else (idxI (valMap n maps L log) E : Nat)))) := cK_s (l_value_eq hn hm0 hm hL hx hin)
def logOf (N : List Int) (k : Int) (L : List Str) (m : Nat) : List Str := (List.range m).map fun i => L.getD (nxt N (k + (i : Nat)) L.length).toNat ""
theorem logOf_mem {N : List Int} {k : Int} {L : List Str} {m : Nat} (h : 1 ≤ L.length) : ∀ x ∈ logOf N k L m, x ∈ L := fun x hx => by
  obtain ⟨i, _, rfl⟩ := List.mem_map.mp hx
  have a := nxt_lo (N := N) (k := k + (i : Nat)) (many := L.length) (by omega)
  have b := nxt_hi (N := N) (k := k + (i : Nat)) (many := L.length) (by omega)
  exact getD_memT (by omega)
theorem log_lc {N : List Int} {k : Int} {L : List Str} {m : Nat} {e0 e2 e4 e5 e6 e7 e8 e9 e10 e11 e12 : Ent} (G : Good N) (h0 : 0 ≤ k) (h1 : k + 1000 ≤ KMax) (hm : m ≤ 700) (hL : 1 ≤ L.length) :
    lcGo (ltn [] 13 .yes e_law_3) (rgD 0 m) [e0, .own (.lst (stAt N k)), e2, .dat (.tuple (L.map .str)), e4, e5, e6, e7, e8, e9, e10, e11, e12, .no] = some ((logOf N k L m).map .str, [e0, .own (.lst (stAt N (k + m))), e2, .dat (.tuple (L.map .str)), e4, e5, e6, e7, e8, e9, e10, e11, e12, .no]) := by
  have hK : KMax = 1000000000 := rfl
  have := lc_inv0 (f := ltn [] 13 .yes e_law_3) (fun i => [e0, .own (.lst (stAt N (k + (i : Nat)))), e2, .dat (.tuple (L.map .str)), e4, e5, e6, e7, e8, e9, e10, e11, e12, .no]) (fun i => .str (L.getD (nxt N (k + (i : Nat)) L.length).toNat "")) (l := rgD 0 m) (ρ := [e0, .own (.lst (stAt N k)), e2, .dat (.tuple (L.map .str)), e4, e5, e6, e7, e8, e9, e10, e11, e12, .no]) (ρ' := [e0, .own (.lst (stAt N (k + m))), e2, .dat (.tuple (L.map .str)), e4, e5, e6, e7, e8, e9, e10, e11, e12, .no]) (by simp) (by rw [rgD_len]) fun i hi => by
    rw [rgD_len] at hi
    rw [rgD_at hi, ltn_x]
    have a := nxt_lo (N := N) (k := k + (i : Nat)) (many := L.length) (by omega)
    have b := nxt_hi (N := N) (k := k + (i : Nat)) (many := L.length) (by omega)
    simp (config := { implicitDefEqProofs := false }) (disch := walk_at "side") only [↓reduceIte, decide_eq_true_eq, decide_true, decide_false, Bool.not_true, Bool.not_false, Bool.false_eq_true, Int.reduceEq, Int.reduceLT, Int.reduceLE, Int.reduceNeg, Int.reduceToNat, ↓okI, ↓okI2, ↓aV_d, ↓aV_o, ↓aV_n, ↓aV_w, ↓dV_d, ↓dV_n, ↓dV_w, ↓gE_0, ↓gE_s, ↓eL_l, ↓eD_l, ↓eV_d, ↓eV_l, ↓nA_d, ↓nA_o, ↓iD_i, ↓bD_b, ↓kD_i, ↓kD_s, ↓zD_d, ↓vZ_d, ↓vZ_n, ↓sR_0, ↓sR_s, ↓sK_n, ↓sK_0, ↓lD_l, ↓sD_l, ↓sD_t, ↓tD_t, ↓dA_nil, ↓dA_d, ↓dN_nil, ↓dN_c, ↓oZ_addI, ↓oZ_addS, ↓oZ_addT, ↓oZ_addL, ↓oZ_sub, ↓oZ_mul, ↓oZ_mulT, ↓oZ_fdiv, ↓oZ_mod, ↓oZ_pow, ↓oZ_eqI, ↓oZ_eqS, ↓oZ_neS, ↓oZ_neI, ↓oZ_lt, ↓oZ_le, ↓oZ_gt, ↓oZ_ge, ↓oZ_ixL, ↓oZ_ixT, ↓aI_0, ↓aI_1, ↓aI_2, ↓nI_0, ↓nI_1, ↓lS_0, ↓lS_s, ↓aI_int, ↓aI_str, ↓aI_row, ↓aI_b2, ↓aI_i1, ↓aI_i2, ↓aI_i3, ↓aI_i4, ↓aI_i5, ↓aI_i6, ↓oZ_abyz, ↓oZ_az, ↓cZ_lenLm, ↓cZ_lenTm, ↓cZ_lenP, ↓oZ_ixP, ↓sD_P, ↓cZ_lstP, ↓cZ_abs, ↓cZ_int, ↓cZ_intB, ↓cZ_tup, ↓cZ_lstL, ↓cZ_lstT, ↓cZ_all, ↓cZ_any, ↓cZ_max2, ↓cZ_min2, ↓cZ_sum, ↓cZ_sorted, ↓xE_int, ↓xE_bl, ↓xE_str, ↓xE_non, ↓xE_var, ↓xE_op, ↓xE_neg, ↓xE_nt, ↓xE_an, ↓xE_or, ↓xE_ch, ↓xE_isN, ↓xE_notN, ↓xE_ife, ↓xE_tup, ↓xE_lst, ↓xE_sl, ↓sl1_T, ↓sl1_L, ↓xE_cb, ↓xE_isa, ↓xE_call, ↓xE_callS, ↓xE_lc, ↓sN_0, ↓sN_s, ↓xE_lrg, ↓xE_trg, ↓xE_pop, ↓xE_idxL, ↓sT_s, ↓xE_idxT, ↓xE_dget, ↓xE_din, ↓xE_dnin, ↓xE_dset, ↓xA_nil, ↓xA_cons, ↓xT_te, ↓xT_tb, ↓xT_nt, ↓xT_an, ↓xT_or, ↓xT_yes, ↓xT_lend, ↓xP_no, ↓xP_at, ↓xI_rng1, ↓xI_rng2, ↓xI_u, ↓xI_en, ↓xG_nm, ↓xG_tup, ↓xGs_nil, ↓xGs_cons, ↓sV_d, ↓sV_n, ↓sV_w, ↓rV_d, ↓rV_n, ↓rV_w, ↓rV_o, ↓xS_set, ↓xS_asg, ↓xS_seti, ↓xS_app, ↓xS_newD, ↓xS_dput, ↓xS_drop, ↓xS_ret, ↓xS_retN, ↓xS_iff, ↓xS_for, ↓xS_wh, ↓xS_brk, ↓xS_cont, ↓xS_nx, ↓xS_seq, ↓xS_fz, ↓fzK_l, ↓fzK_d, ↓fzK_n, ↓fzK_D, ↓kS_nx, ↓kS_rt, ↓kS_bk, ↓kS_ct, ↓out1_rt, ↓out2_rt, ↓u_e_law_3, ↓nextK]
    rw [show k + (i : Int) + 1 = k + ((i + 1 : Nat) : Int) by omega]
  rw [this, rgD_len]
  unfold logOf
  rw [List.map_map]
  rfl
structure Set16 (N : List Int) (n : Nat) (maps : List (List Int)) (L : List Str) : Prop where
  G : Good N
  hn : n ≤ 1000 ∧ 1 ≤ n
  m0 : 1 ≤ maps.length
  m8 : maps.length ≤ 8
  ho : ∀ x ∈ maps, okMap n x
  hL : L.length = maps.length
  hE : (elementsOf maps 40).length ≤ 40
theorem law_turn1 {N : List Int} {n : Nat} {maps : List (List Int)} {L : List Str} (Z : Set16 N n maps L) {k : Int} (h0 : 0 ≤ k) (h1 : k + 2000 ≤ KMax) {x : D} {e0 e4 e6 e7 e8 e9 e10 e11 e12 : Ent} (h4 : e4 = .own (.lst ((elementsOf maps 40).map tupI)) ∨ e4 = .dat (.list ((elementsOf maps 40).map tupI))) :
    ∃ k' f7 f8 f9, trn [] (.nm 6) b_law_5 x [e0, .own (.lst (stAt N k)), .dat (.list (maps.map tupI)), .dat (.tuple (L.map .str)), e4, .dat (tableD L (firstsOf maps) (rowsOf maps)), e6, e7, e8, e9, e10, e11, e12, .no] = some (.nx [e0, .own (.lst (stAt N k')), .dat (.list (maps.map tupI)), .dat (.tuple (L.map .str)), .dat (.list ((elementsOf maps 40).map tupI)), .dat (tableD L (firstsOf maps) (rowsOf maps)), .dat x, f7, f8, f9, e10, e11, e12, .no]) ∧ k ≤ k' ∧ k' ≤ k + 700 := by
  obtain ⟨G, hn, m0, m8, ho, hL, hE⟩ := Z
  have hK : KMax = 1000000000 := rfl
  have n0 := nxt_lo (N := N) (k := k) (many := 13) (by omega)
  have n1 := nxt_hi (N := N) (k := k) (many := 13) (by omega)
  have n2 := nxt_lo (N := N) (k := k + 1) (many := 13) (by omega)
  have n3 := nxt_hi (N := N) (k := k + 1) (many := 13) (by omega)
  have n4 := nxt_lo (N := N) (k := k + 1 + 1) (many := 601) (by omega)
  have n5 := nxt_hi (N := N) (k := k + 1 + 1) (many := 601) (by omega)
  have n6 := nxt_lo (N := N) (k := k + 1 + 1 + 1) (many := 3) (by omega)
  have n7 := nxt_hi (N := N) (k := k + 1 + 1 + 1) (many := 3) (by omega)
  have mb : ∃ m : Nat, m ≤ 600 ∧ [nxt N k 13, nxt N (k + 1) 13, nxt N (k + 1 + 1) 601].getD (nxt N (k + 1 + 1 + 1) 3).toNat 0 = (m : Nat) := by
    have : (nxt N (k + 1 + 1 + 1) 3).toNat = 0 ∨ (nxt N (k + 1 + 1 + 1) 3).toNat = 1 ∨ (nxt N (k + 1 + 1 + 1) 3).toNat = 2 := by omega
    rcases this with e | e | e <;> rw [e]
    · exact ⟨(nxt N k 13).toNat, by omega, by show nxt N k 13 = _; omega⟩
    · exact ⟨(nxt N (k + 1) 13).toNat, by omega, by show nxt N (k + 1) 13 = _; omega⟩
    · exact ⟨(nxt N (k + 1 + 1) 601).toNat, by omega, by show nxt N (k + 1 + 1) 601 = _; omega⟩
  obtain ⟨m, hm, em⟩ := mb
  have tm : ((m : Nat) : Int).toNat = m := by omega
  have hz : (rgD 0 m).length < sizeLine := by rw [rgD_len, sizeLine_eq]; omega
  have T := tab_ok ho hE hL
  have hx := logOf_mem (N := N) (k := k + 1 + 1 + 1 + 1) (L := L) (m := m) (by omega)
  have hlog : (logOf N (k + 1 + 1 + 1 + 1) L m).length ≤ 1000 := by unfold logOf; rw [List.length_map, List.length_range]; omega
  obtain ⟨v1, v2⟩ := value_same (n := n) ho hE hL hx
  have vb : (if logOf N (k + 1 + 1 + 1 + 1) L m = [] then (-1 : Int) else ((idxI (valMap n maps L (logOf N (k + 1 + 1 + 1 + 1) L m)) (elementsOf maps 40) : Nat) : Int)).natAbs.log2 < 1920 := by
    refine small_log ?_
    split
    · omega
    · rename_i q
      have := idx_lt (v1 q)
      omega
  have LC := fun (e4 : Ent) => log_lc (e0 := e0) (e2 := .dat (.list (maps.map tupI))) (e4 := e4) (e5 := .dat (tableD L (firstsOf maps) (rowsOf maps))) (e6 := .dat x) (e7 := e7) (e8 := .dat (.int (m : Nat))) (e9 := e9) (e10 := e10) (e11 := e11) (e12 := e12) (m := m) (L := L) (k := k + 1 + 1 + 1 + 1) G (by omega) (by omega) (by omega) (by omega)
  refine ⟨k + 1 + 1 + 1 + 1 + (m : Nat), .dat (.int (valueI L (firstsOf maps) (rowsOf maps) (logOf N (k + 1 + 1 + 1 + 1) L m))), .dat (.int (m : Nat)), .dat (.tuple ((logOf N (k + 1 + 1 + 1 + 1) L m).map .str)), ?_, by omega, by omega⟩
  rw [trn_x]
  rcases h4 with rfl | rfl
  · have LC1 := LC (.own (.lst ((elementsOf maps 40).map tupI)))
    simp (config := { implicitDefEqProofs := false }) (disch := walk_at "side") only [↓reduceIte, decide_eq_true_eq, decide_true, decide_false, Bool.not_true, Bool.not_false, Bool.false_eq_true, Int.reduceEq, Int.reduceLT, Int.reduceLE, Int.reduceNeg, Int.reduceToNat, ↓okI, ↓okI2, ↓aV_d, ↓aV_o, ↓aV_n, ↓aV_w, ↓dV_d, ↓dV_n, ↓dV_w, ↓gE_0, ↓gE_s, ↓eL_l, ↓eD_l, ↓eV_d, ↓eV_l, ↓nA_d, ↓nA_o, ↓iD_i, ↓bD_b, ↓kD_i, ↓kD_s, ↓zD_d, ↓vZ_d, ↓vZ_n, ↓sR_0, ↓sR_s, ↓sK_n, ↓sK_0, ↓lD_l, ↓sD_l, ↓sD_t, ↓tD_t, ↓dA_nil, ↓dA_d, ↓dN_nil, ↓dN_c, ↓oZ_addI, ↓oZ_addS, ↓oZ_addT, ↓oZ_addL, ↓oZ_sub, ↓oZ_mul, ↓oZ_mulT, ↓oZ_fdiv, ↓oZ_mod, ↓oZ_pow, ↓oZ_eqI, ↓oZ_eqS, ↓oZ_neS, ↓oZ_neI, ↓oZ_lt, ↓oZ_le, ↓oZ_gt, ↓oZ_ge, ↓oZ_ixL, ↓oZ_ixT, ↓aI_0, ↓aI_1, ↓aI_2, ↓nI_0, ↓nI_1, ↓lS_0, ↓lS_s, ↓aI_int, ↓aI_str, ↓aI_row, ↓aI_b2, ↓aI_i1, ↓aI_i2, ↓aI_i3, ↓aI_i4, ↓aI_i5, ↓aI_i6, ↓oZ_abyz, ↓oZ_az, ↓cZ_lenLm, ↓cZ_lenTm, ↓cZ_lenP, ↓oZ_ixP, ↓sD_P, ↓cZ_lstP, ↓cZ_abs, ↓cZ_int, ↓cZ_intB, ↓cZ_tup, ↓cZ_lstL, ↓cZ_lstT, ↓cZ_all, ↓cZ_any, ↓cZ_max2, ↓cZ_min2, ↓cZ_sum, ↓cZ_sorted, ↓xE_int, ↓xE_bl, ↓xE_str, ↓xE_non, ↓xE_var, ↓xE_op, ↓xE_neg, ↓xE_nt, ↓xE_an, ↓xE_or, ↓xE_ch, ↓xE_isN, ↓xE_notN, ↓xE_ife, ↓xE_tup, ↓xE_lst, ↓xE_sl, ↓sl1_T, ↓sl1_L, ↓xE_cb, ↓xE_isa, ↓xE_call, ↓xE_callS, ↓xE_lc, ↓sN_0, ↓sN_s, ↓xE_lrg, ↓xE_trg, ↓xE_pop, ↓xE_idxL, ↓sT_s, ↓xE_idxT, ↓xE_dget, ↓xE_din, ↓xE_dnin, ↓xE_dset, ↓xA_nil, ↓xA_cons, ↓xT_te, ↓xT_tb, ↓xT_nt, ↓xT_an, ↓xT_or, ↓xT_yes, ↓xT_lend, ↓xP_no, ↓xP_at, ↓xI_rng1, ↓xI_rng2, ↓xI_u, ↓xI_en, ↓xG_nm, ↓xG_tup, ↓xGs_nil, ↓xGs_cons, ↓sV_d, ↓sV_n, ↓sV_w, ↓rV_d, ↓rV_n, ↓rV_w, ↓rV_o, ↓xS_set, ↓xS_asg, ↓xS_seti, ↓xS_app, ↓xS_newD, ↓xS_dput, ↓xS_drop, ↓xS_ret, ↓xS_retN, ↓xS_iff, ↓xS_for, ↓xS_wh, ↓xS_brk, ↓xS_cont, ↓xS_nx, ↓xS_seq, ↓xS_fz, ↓fzK_l, ↓fzK_d, ↓fzK_n, ↓fzK_D, ↓kS_nx, ↓kS_rt, ↓kS_bk, ↓kS_ct, ↓out1_rt, ↓out2_rt, ↓u_b_law_5, ↓nextK, em, tm, ↓lK_s LC1, ↓valueK, ↓lvalueK, v2, ↓cZ_reprI, beq_self_eq_true]
  · have LC1 := LC (.dat (.list ((elementsOf maps 40).map tupI)))
    simp (config := { implicitDefEqProofs := false }) (disch := walk_at "side") only [↓reduceIte, decide_eq_true_eq, decide_true, decide_false, Bool.not_true, Bool.not_false, Bool.false_eq_true, Int.reduceEq, Int.reduceLT, Int.reduceLE, Int.reduceNeg, Int.reduceToNat, ↓okI, ↓okI2, ↓aV_d, ↓aV_o, ↓aV_n, ↓aV_w, ↓dV_d, ↓dV_n, ↓dV_w, ↓gE_0, ↓gE_s, ↓eL_l, ↓eD_l, ↓eV_d, ↓eV_l, ↓nA_d, ↓nA_o, ↓iD_i, ↓bD_b, ↓kD_i, ↓kD_s, ↓zD_d, ↓vZ_d, ↓vZ_n, ↓sR_0, ↓sR_s, ↓sK_n, ↓sK_0, ↓lD_l, ↓sD_l, ↓sD_t, ↓tD_t, ↓dA_nil, ↓dA_d, ↓dN_nil, ↓dN_c, ↓oZ_addI, ↓oZ_addS, ↓oZ_addT, ↓oZ_addL, ↓oZ_sub, ↓oZ_mul, ↓oZ_mulT, ↓oZ_fdiv, ↓oZ_mod, ↓oZ_pow, ↓oZ_eqI, ↓oZ_eqS, ↓oZ_neS, ↓oZ_neI, ↓oZ_lt, ↓oZ_le, ↓oZ_gt, ↓oZ_ge, ↓oZ_ixL, ↓oZ_ixT, ↓aI_0, ↓aI_1, ↓aI_2, ↓nI_0, ↓nI_1, ↓lS_0, ↓lS_s, ↓aI_int, ↓aI_str, ↓aI_row, ↓aI_b2, ↓aI_i1, ↓aI_i2, ↓aI_i3, ↓aI_i4, ↓aI_i5, ↓aI_i6, ↓oZ_abyz, ↓oZ_az, ↓cZ_lenLm, ↓cZ_lenTm, ↓cZ_lenP, ↓oZ_ixP, ↓sD_P, ↓cZ_lstP, ↓cZ_abs, ↓cZ_int, ↓cZ_intB, ↓cZ_tup, ↓cZ_lstL, ↓cZ_lstT, ↓cZ_all, ↓cZ_any, ↓cZ_max2, ↓cZ_min2, ↓cZ_sum, ↓cZ_sorted, ↓xE_int, ↓xE_bl, ↓xE_str, ↓xE_non, ↓xE_var, ↓xE_op, ↓xE_neg, ↓xE_nt, ↓xE_an, ↓xE_or, ↓xE_ch, ↓xE_isN, ↓xE_notN, ↓xE_ife, ↓xE_tup, ↓xE_lst, ↓xE_sl, ↓sl1_T, ↓sl1_L, ↓xE_cb, ↓xE_isa, ↓xE_call, ↓xE_callS, ↓xE_lc, ↓sN_0, ↓sN_s, ↓xE_lrg, ↓xE_trg, ↓xE_pop, ↓xE_idxL, ↓sT_s, ↓xE_idxT, ↓xE_dget, ↓xE_din, ↓xE_dnin, ↓xE_dset, ↓xA_nil, ↓xA_cons, ↓xT_te, ↓xT_tb, ↓xT_nt, ↓xT_an, ↓xT_or, ↓xT_yes, ↓xT_lend, ↓xP_no, ↓xP_at, ↓xI_rng1, ↓xI_rng2, ↓xI_u, ↓xI_en, ↓xG_nm, ↓xG_tup, ↓xGs_nil, ↓xGs_cons, ↓sV_d, ↓sV_n, ↓sV_w, ↓rV_d, ↓rV_n, ↓rV_w, ↓rV_o, ↓xS_set, ↓xS_asg, ↓xS_seti, ↓xS_app, ↓xS_newD, ↓xS_dput, ↓xS_drop, ↓xS_ret, ↓xS_retN, ↓xS_iff, ↓xS_for, ↓xS_wh, ↓xS_brk, ↓xS_cont, ↓xS_nx, ↓xS_seq, ↓xS_fz, ↓fzK_l, ↓fzK_d, ↓fzK_n, ↓fzK_D, ↓kS_nx, ↓kS_rt, ↓kS_bk, ↓kS_ct, ↓out1_rt, ↓out2_rt, ↓u_b_law_5, ↓nextK, em, tm, ↓lK_s LC1, ↓valueK, ↓lvalueK, v2, ↓cZ_reprI, beq_self_eq_true]

theorem times_val {maps : List (List Int)} {a b : Nat} (ha : a < (elementsOf maps 40).length) (hb : b < (elementsOf maps 40).length) : timesI (rowsOf maps) (a : Nat) (b : Nat) = (idxI (thenI ((elementsOf maps 40).getD a []) ((elementsOf maps 40).getD b [])) (elementsOf maps 40) : Nat) := by
  unfold timesI
  rw [if_neg (by omega), if_neg (by omega), Int.toNat_natCast, Int.toNat_natCast]
  unfold rowsOf
  rw [getD_mapN _ [] [] ha, getD_mapN _ [] 0 hb]
theorem law_turn2 {N : List Int} {n : Nat} {maps : List (List Int)} {L : List Str} (Z : Set16 N n maps L) {k : Int} (h0 : 0 ≤ k) (h1 : k + 2000 ≤ KMax) {x : D} {e0 e6 e7 e8 e9 e10 e11 e12 : Ent} :
    ∃ f10 f11 f12, trn [] (.nm 6) b_law_1 x [e0, .own (.lst (stAt N k)), .dat (.list (maps.map tupI)), .dat (.tuple (L.map .str)), .dat (.list ((elementsOf maps 40).map tupI)), .dat (tableD L (firstsOf maps) (rowsOf maps)), e6, e7, e8, e9, e10, e11, e12, .no] = some (.nx [e0, .own (.lst (stAt N (k + 1 + 1))), .dat (.list (maps.map tupI)), .dat (.tuple (L.map .str)), .dat (.list ((elementsOf maps 40).map tupI)), .dat (tableD L (firstsOf maps) (rowsOf maps)), .dat x, e7, e8, e9, f10, f11, f12, .no]) := by
  obtain ⟨G, hn, m0, m8, ho, hL, hE⟩ := Z
  have hK : KMax = 1000000000 := rfl
  have okE : ∀ x ∈ elementsOf maps 40, okMap n x := fun x m => gen_ok ho (elements_gen x m)
  have Rl : (rowsOf maps).length = (elementsOf maps 40).length := by unfold rowsOf; rw [List.length_map]
  have T := tab_ok ho hE hL
  have q0 := nxt_lo (N := N) (k := k) (many := ((elementsOf maps 40).length : Int) + 1) (by omega)
  have q1 := nxt_hi (N := N) (k := k) (many := ((elementsOf maps 40).length : Int) + 1) (by omega)
  have q2 := nxt_lo (N := N) (k := k + 1) (many := ((elementsOf maps 40).length : Int) + 1) (by omega)
  have q3 := nxt_hi (N := N) (k := k + 1) (many := ((elementsOf maps 40).length : Int) + 1) (by omega)
  have s1 := shL (elementsOf maps 40)
  generalize ho1 : nxt N k (((elementsOf maps 40).length : Int) + 1) - 1 = one at *
  generalize ho2 : nxt N (k + 1) (((elementsOf maps 40).length : Int) + 1) - 1 = other at *
  have b1 : -1 ≤ one ∧ one < ((elementsOf maps 40).length : Int) := by omega
  have b2 : -1 ≤ other ∧ other < ((elementsOf maps 40).length : Int) := by omega
  have hr : 0 ≤ one → 0 ≤ other → other < (((rowsOf maps).getD one.toNat []).length : Int) := fun h _ => by
    have : (rowsOf maps).getD one.toNat [] ∈ rowsOf maps := getD_mem (by omega)
    rw [(T.2.2 _ this).1]; omega
  have a1 : -1 ≤ one ∧ one < ((rowsOf maps).length : Int) := by omega
  refine ⟨.dat (.int one), .dat (.int other), .dat (.int (timesI (rowsOf maps) one other)), ?_⟩
  rw [trn_x]
  by_cases c1 : one < 0
  · have e1 : one = -1 := by omega
    have e2 : timesI (rowsOf maps) one other = other := by unfold timesI; rw [if_pos e1]
    have c1' : ¬ 0 ≤ one := by omega
    have lg := small_log (i := other) (by omega)
    rw [e2]
    simp (config := { implicitDefEqProofs := false }) (disch := walk_at "side") only [↓reduceIte, decide_eq_true_eq, decide_true, decide_false, Bool.not_true, Bool.not_false, Bool.false_eq_true, Int.reduceEq, Int.reduceLT, Int.reduceLE, Int.reduceNeg, Int.reduceToNat, ↓okI, ↓okI2, ↓aV_d, ↓aV_o, ↓aV_n, ↓aV_w, ↓dV_d, ↓dV_n, ↓dV_w, ↓gE_0, ↓gE_s, ↓eL_l, ↓eD_l, ↓eV_d, ↓eV_l, ↓nA_d, ↓nA_o, ↓iD_i, ↓bD_b, ↓kD_i, ↓kD_s, ↓zD_d, ↓vZ_d, ↓vZ_n, ↓sR_0, ↓sR_s, ↓sK_n, ↓sK_0, ↓lD_l, ↓sD_l, ↓sD_t, ↓tD_t, ↓dA_nil, ↓dA_d, ↓dN_nil, ↓dN_c, ↓oZ_addI, ↓oZ_addS, ↓oZ_addT, ↓oZ_addL, ↓oZ_sub, ↓oZ_mul, ↓oZ_mulT, ↓oZ_fdiv, ↓oZ_mod, ↓oZ_pow, ↓oZ_eqI, ↓oZ_eqS, ↓oZ_neS, ↓oZ_neI, ↓oZ_lt, ↓oZ_le, ↓oZ_gt, ↓oZ_ge, ↓oZ_ixL, ↓oZ_ixT, ↓aI_0, ↓aI_1, ↓aI_2, ↓nI_0, ↓nI_1, ↓lS_0, ↓lS_s, ↓aI_int, ↓aI_str, ↓aI_row, ↓aI_b2, ↓aI_i1, ↓aI_i2, ↓aI_i3, ↓aI_i4, ↓aI_i5, ↓aI_i6, ↓oZ_abyz, ↓oZ_az, ↓cZ_lenLm, ↓cZ_lenTm, ↓cZ_lenP, ↓oZ_ixP, ↓sD_P, ↓cZ_lstP, ↓cZ_abs, ↓cZ_int, ↓cZ_intB, ↓cZ_tup, ↓cZ_lstL, ↓cZ_lstT, ↓cZ_all, ↓cZ_any, ↓cZ_max2, ↓cZ_min2, ↓cZ_sum, ↓cZ_sorted, ↓xE_int, ↓xE_bl, ↓xE_str, ↓xE_non, ↓xE_var, ↓xE_op, ↓xE_neg, ↓xE_nt, ↓xE_an, ↓xE_or, ↓xE_ch, ↓xE_isN, ↓xE_notN, ↓xE_ife, ↓xE_tup, ↓xE_lst, ↓xE_sl, ↓sl1_T, ↓sl1_L, ↓xE_cb, ↓xE_isa, ↓xE_call, ↓xE_callS, ↓xE_lc, ↓sN_0, ↓sN_s, ↓xE_lrg, ↓xE_trg, ↓xE_pop, ↓xE_idxL, ↓sT_s, ↓xE_idxT, ↓xE_dget, ↓xE_din, ↓xE_dnin, ↓xE_dset, ↓xA_nil, ↓xA_cons, ↓xT_te, ↓xT_tb, ↓xT_nt, ↓xT_an, ↓xT_or, ↓xT_yes, ↓xT_lend, ↓xP_no, ↓xP_at, ↓xI_rng1, ↓xI_rng2, ↓xI_u, ↓xI_en, ↓xG_nm, ↓xG_tup, ↓xGs_nil, ↓xGs_cons, ↓sV_d, ↓sV_n, ↓sV_w, ↓rV_d, ↓rV_n, ↓rV_w, ↓rV_o, ↓xS_set, ↓xS_asg, ↓xS_seti, ↓xS_app, ↓xS_newD, ↓xS_dput, ↓xS_drop, ↓xS_ret, ↓xS_retN, ↓xS_iff, ↓xS_for, ↓xS_wh, ↓xS_brk, ↓xS_cont, ↓xS_nx, ↓xS_seq, ↓xS_fz, ↓fzK_l, ↓fzK_d, ↓fzK_n, ↓fzK_D, ↓kS_nx, ↓kS_rt, ↓kS_bk, ↓kS_ct, ↓out1_rt, ↓out2_rt, ↓u_b_law_1, ↓nextK, ho1, ho2, c1, c1', ↓timesK, e2, ↓cZ_reprI, beq_self_eq_true]
  · have c1' : 0 ≤ one := by omega
    by_cases c2 : 0 ≤ other
    · have e2 : timesI (rowsOf maps) one other = (idxI (thenI ((elementsOf maps 40).getD one.toNat []) ((elementsOf maps 40).getD other.toNat [])) (elementsOf maps 40) : Nat) := by
        have := times_val (maps := maps) (a := one.toNat) (b := other.toNat) (by omega) (by omega)
        rw [show ((one.toNat : Nat) : Int) = one by omega, show ((other.toNat : Nat) : Int) = other by omega] at this
        exact this
      have g1 : (elementsOf maps 40).getD one.toNat [] ∈ elementsOf maps 40 := getD_mem (by omega)
      have g2 : (elementsOf maps 40).getD other.toNat [] ∈ elementsOf maps 40 := getD_mem (by omega)
      have gt := elements_times ho hE g1 g2
      have gl := idx_lt gt
      have lg := small_log (i := ((idxI (thenI ((elementsOf maps 40).getD one.toNat []) ((elementsOf maps 40).getD other.toNat [])) (elementsOf maps 40) : Nat) : Int)) (by omega)
      have z1 : ((elementsOf maps 40).getD one.toNat []).length ≤ 1000 := by rw [(okE _ g1).1]; exact hn.1
      have z2 : ∀ j ∈ (elementsOf maps 40).getD one.toNat [], 0 ≤ j ∧ j < (((elementsOf maps 40).getD other.toNat []).length : Int) := by rw [(okE _ g2).1]; exact (okE _ g1).2
      have s2 := shT (thenI ((elementsOf maps 40).getD one.toNat []) ((elementsOf maps 40).getD other.toNat []))
      rw [e2]
      simp (config := { implicitDefEqProofs := false }) (disch := walk_at "side") only [↓reduceIte, decide_eq_true_eq, decide_true, decide_false, Bool.not_true, Bool.not_false, Bool.false_eq_true, Int.reduceEq, Int.reduceLT, Int.reduceLE, Int.reduceNeg, Int.reduceToNat, ↓okI, ↓okI2, ↓aV_d, ↓aV_o, ↓aV_n, ↓aV_w, ↓dV_d, ↓dV_n, ↓dV_w, ↓gE_0, ↓gE_s, ↓eL_l, ↓eD_l, ↓eV_d, ↓eV_l, ↓nA_d, ↓nA_o, ↓iD_i, ↓bD_b, ↓kD_i, ↓kD_s, ↓zD_d, ↓vZ_d, ↓vZ_n, ↓sR_0, ↓sR_s, ↓sK_n, ↓sK_0, ↓lD_l, ↓sD_l, ↓sD_t, ↓tD_t, ↓dA_nil, ↓dA_d, ↓dN_nil, ↓dN_c, ↓oZ_addI, ↓oZ_addS, ↓oZ_addT, ↓oZ_addL, ↓oZ_sub, ↓oZ_mul, ↓oZ_mulT, ↓oZ_fdiv, ↓oZ_mod, ↓oZ_pow, ↓oZ_eqI, ↓oZ_eqS, ↓oZ_neS, ↓oZ_neI, ↓oZ_lt, ↓oZ_le, ↓oZ_gt, ↓oZ_ge, ↓oZ_ixL, ↓oZ_ixT, ↓aI_0, ↓aI_1, ↓aI_2, ↓nI_0, ↓nI_1, ↓lS_0, ↓lS_s, ↓aI_int, ↓aI_str, ↓aI_row, ↓aI_b2, ↓aI_i1, ↓aI_i2, ↓aI_i3, ↓aI_i4, ↓aI_i5, ↓aI_i6, ↓oZ_abyz, ↓oZ_az, ↓cZ_lenLm, ↓cZ_lenTm, ↓cZ_lenP, ↓oZ_ixP, ↓sD_P, ↓cZ_lstP, ↓cZ_abs, ↓cZ_int, ↓cZ_intB, ↓cZ_tup, ↓cZ_lstL, ↓cZ_lstT, ↓cZ_all, ↓cZ_any, ↓cZ_max2, ↓cZ_min2, ↓cZ_sum, ↓cZ_sorted, ↓xE_int, ↓xE_bl, ↓xE_str, ↓xE_non, ↓xE_var, ↓xE_op, ↓xE_neg, ↓xE_nt, ↓xE_an, ↓xE_or, ↓xE_ch, ↓xE_isN, ↓xE_notN, ↓xE_ife, ↓xE_tup, ↓xE_lst, ↓xE_sl, ↓sl1_T, ↓sl1_L, ↓xE_cb, ↓xE_isa, ↓xE_call, ↓xE_callS, ↓xE_lc, ↓sN_0, ↓sN_s, ↓xE_lrg, ↓xE_trg, ↓xE_pop, ↓xE_idxL, ↓sT_s, ↓xE_idxT, ↓xE_dget, ↓xE_din, ↓xE_dnin, ↓xE_dset, ↓xA_nil, ↓xA_cons, ↓xT_te, ↓xT_tb, ↓xT_nt, ↓xT_an, ↓xT_or, ↓xT_yes, ↓xT_lend, ↓xP_no, ↓xP_at, ↓xI_rng1, ↓xI_rng2, ↓xI_u, ↓xI_en, ↓xG_nm, ↓xG_tup, ↓xGs_nil, ↓xGs_cons, ↓sV_d, ↓sV_n, ↓sV_w, ↓rV_d, ↓rV_n, ↓rV_w, ↓rV_o, ↓xS_set, ↓xS_asg, ↓xS_seti, ↓xS_app, ↓xS_newD, ↓xS_dput, ↓xS_drop, ↓xS_ret, ↓xS_retN, ↓xS_iff, ↓xS_for, ↓xS_wh, ↓xS_brk, ↓xS_cont, ↓xS_nx, ↓xS_seq, ↓xS_fz, ↓fzK_l, ↓fzK_d, ↓fzK_n, ↓fzK_D, ↓kS_nx, ↓kS_rt, ↓kS_bk, ↓kS_ct, ↓out1_rt, ↓out2_rt, ↓u_b_law_1, ↓nextK, ho1, ho2, c1, c1', c2, ↓sameK, ↓ixK_rows, ↓timesK, e2, ↓cZ_reprI, beq_self_eq_true]
    · have e1 : other = -1 := by omega
      have e2 : timesI (rowsOf maps) one other = one := by unfold timesI; rw [if_neg (by omega), if_pos e1]
      have lg := small_log (i := one) (by omega)
      rw [e2]
      simp (config := { implicitDefEqProofs := false }) (disch := walk_at "side") only [↓reduceIte, decide_eq_true_eq, decide_true, decide_false, Bool.not_true, Bool.not_false, Bool.false_eq_true, Int.reduceEq, Int.reduceLT, Int.reduceLE, Int.reduceNeg, Int.reduceToNat, ↓okI, ↓okI2, ↓aV_d, ↓aV_o, ↓aV_n, ↓aV_w, ↓dV_d, ↓dV_n, ↓dV_w, ↓gE_0, ↓gE_s, ↓eL_l, ↓eD_l, ↓eV_d, ↓eV_l, ↓nA_d, ↓nA_o, ↓iD_i, ↓bD_b, ↓kD_i, ↓kD_s, ↓zD_d, ↓vZ_d, ↓vZ_n, ↓sR_0, ↓sR_s, ↓sK_n, ↓sK_0, ↓lD_l, ↓sD_l, ↓sD_t, ↓tD_t, ↓dA_nil, ↓dA_d, ↓dN_nil, ↓dN_c, ↓oZ_addI, ↓oZ_addS, ↓oZ_addT, ↓oZ_addL, ↓oZ_sub, ↓oZ_mul, ↓oZ_mulT, ↓oZ_fdiv, ↓oZ_mod, ↓oZ_pow, ↓oZ_eqI, ↓oZ_eqS, ↓oZ_neS, ↓oZ_neI, ↓oZ_lt, ↓oZ_le, ↓oZ_gt, ↓oZ_ge, ↓oZ_ixL, ↓oZ_ixT, ↓aI_0, ↓aI_1, ↓aI_2, ↓nI_0, ↓nI_1, ↓lS_0, ↓lS_s, ↓aI_int, ↓aI_str, ↓aI_row, ↓aI_b2, ↓aI_i1, ↓aI_i2, ↓aI_i3, ↓aI_i4, ↓aI_i5, ↓aI_i6, ↓oZ_abyz, ↓oZ_az, ↓cZ_lenLm, ↓cZ_lenTm, ↓cZ_lenP, ↓oZ_ixP, ↓sD_P, ↓cZ_lstP, ↓cZ_abs, ↓cZ_int, ↓cZ_intB, ↓cZ_tup, ↓cZ_lstL, ↓cZ_lstT, ↓cZ_all, ↓cZ_any, ↓cZ_max2, ↓cZ_min2, ↓cZ_sum, ↓cZ_sorted, ↓xE_int, ↓xE_bl, ↓xE_str, ↓xE_non, ↓xE_var, ↓xE_op, ↓xE_neg, ↓xE_nt, ↓xE_an, ↓xE_or, ↓xE_ch, ↓xE_isN, ↓xE_notN, ↓xE_ife, ↓xE_tup, ↓xE_lst, ↓xE_sl, ↓sl1_T, ↓sl1_L, ↓xE_cb, ↓xE_isa, ↓xE_call, ↓xE_callS, ↓xE_lc, ↓sN_0, ↓sN_s, ↓xE_lrg, ↓xE_trg, ↓xE_pop, ↓xE_idxL, ↓sT_s, ↓xE_idxT, ↓xE_dget, ↓xE_din, ↓xE_dnin, ↓xE_dset, ↓xA_nil, ↓xA_cons, ↓xT_te, ↓xT_tb, ↓xT_nt, ↓xT_an, ↓xT_or, ↓xT_yes, ↓xT_lend, ↓xP_no, ↓xP_at, ↓xI_rng1, ↓xI_rng2, ↓xI_u, ↓xI_en, ↓xG_nm, ↓xG_tup, ↓xGs_nil, ↓xGs_cons, ↓sV_d, ↓sV_n, ↓sV_w, ↓rV_d, ↓rV_n, ↓rV_w, ↓rV_o, ↓xS_set, ↓xS_asg, ↓xS_seti, ↓xS_app, ↓xS_newD, ↓xS_dput, ↓xS_drop, ↓xS_ret, ↓xS_retN, ↓xS_iff, ↓xS_for, ↓xS_wh, ↓xS_brk, ↓xS_cont, ↓xS_nx, ↓xS_seq, ↓xS_fz, ↓fzK_l, ↓fzK_d, ↓fzK_n, ↓fzK_D, ↓kS_nx, ↓kS_rt, ↓kS_bk, ↓kS_ct, ↓out1_rt, ↓out2_rt, ↓u_b_law_1, ↓nextK, ho1, ho2, c1, c1', c2, ↓timesK, e2, ↓cZ_reprI, beq_self_eq_true]

end CS

namespace CS
open PySem PySem.Spec PyProof.Rows L2 DL EV
local macro_rules | `(tactic| walk_at "side") => `(tactic| first | omega | (simp only [List.length_cons, List.length_nil, List.length_map, List.length_append, List.length_range, PySem.sizeLine_eq]; omega) | assumption | (simp; done))
theorem word_eq {N : List Int} {k : Int} {taken : List Str} (G : Good N) (h0 : 0 ≤ k) (h1 : k + 20 ≤ KMax) (ht : taken.length < 26) : f_l_word (stAt N k) [.tuple (taken.map .str)] = some (.dat (.str (wordOf N k taken)), stAt N (k + 2 + wlen N k)) := by
  have hK : KMax = 1000000000 := rfl
  obtain ⟨w0, w1⟩ := wlen_bnd N k
  have n0 := nxt_lo (N := N) (k := k + 1) (many := 3) (by omega)
  have n1 := nxt_hi (N := N) (k := k + 1) (many := 3) (by omega)
  have wl : wlen N k = [1, 2, 1 + nxt N k 8].getD (nxt N (k + 1) 3).toNat 0 := rfl
  have L : forGo (trn [0] (.nm 3) b_l_word_1) (rgD 0 (wlen N k).toNat) [.own (.lst (stAt N (k + 1 + 1))), .dat (.tuple (taken.map .str)), .dat (.str ""), .no] = some (.nx [.own (.lst (stAt N (k + 2 + wlen N k))), .dat (.tuple (taken.map .str)), .dat (.str (wtext N (k + 2) (wlen N k).toNat)), .dat (.int (wlen N k - 1))]) := by
    refine for_inv (fun i => [.own (.lst (stAt N (k + 2 + (i : Nat)))), .dat (.tuple (taken.map .str)), .dat (.str (wtext N (k + 2) i)), if i = 0 then .no else .dat (.int ((i : Int) - 1))]) ?_ ?_ fun i hi => ?_
    · rw [show k + 1 + 1 = k + 2 by omega]; simp [wtext]
    · rw [rgD_len, if_neg (by omega), show (((wlen N k).toNat : Nat) : Int) = wlen N k by omega]
    · rw [rgD_len] at hi
      rw [rgD_at hi, trn_x]
      have a0 := nxt_lo (N := N) (k := k + 2 + (i : Nat)) (many := 4) (by omega)
      have a1 := nxt_hi (N := N) (k := k + 2 + (i : Nat)) (many := 4) (by omega)
      have hz : (wtext N (k + 2) i).length + (sgn "abyz" (nxt N (k + 2 + (i : Nat)) 4).toNat).length ≤ sizeLine := by
        rw [wtext_len, sgn_len, sizeLine_eq]; omega
      simp (config := { implicitDefEqProofs := false }) (disch := walk_at "side") only [↓reduceIte, decide_eq_true_eq, decide_true, decide_false, Bool.not_true, Bool.not_false, Bool.false_eq_true, Int.reduceEq, Int.reduceLT, Int.reduceLE, Int.reduceNeg, Int.reduceToNat, ↓okI, ↓okI2, ↓aV_d, ↓aV_o, ↓aV_n, ↓aV_w, ↓dV_d, ↓dV_n, ↓dV_w, ↓gE_0, ↓gE_s, ↓eL_l, ↓eD_l, ↓eV_d, ↓eV_l, ↓nA_d, ↓nA_o, ↓iD_i, ↓bD_b, ↓kD_i, ↓kD_s, ↓zD_d, ↓vZ_d, ↓vZ_n, ↓sR_0, ↓sR_s, ↓sK_n, ↓sK_0, ↓lD_l, ↓sD_l, ↓sD_t, ↓tD_t, ↓dA_nil, ↓dA_d, ↓dN_nil, ↓dN_c, ↓oZ_addI, ↓oZ_addS, ↓oZ_addT, ↓oZ_addL, ↓oZ_sub, ↓oZ_mul, ↓oZ_mulT, ↓oZ_fdiv, ↓oZ_mod, ↓oZ_pow, ↓oZ_eqI, ↓oZ_eqS, ↓oZ_neS, ↓oZ_neI, ↓oZ_lt, ↓oZ_le, ↓oZ_gt, ↓oZ_ge, ↓oZ_ixL, ↓oZ_ixT, ↓aI_0, ↓aI_1, ↓aI_2, ↓nI_0, ↓nI_1, ↓lS_0, ↓lS_s, ↓aI_int, ↓aI_str, ↓aI_row, ↓aI_b2, ↓aI_i1, ↓aI_i2, ↓aI_i3, ↓aI_i4, ↓aI_i5, ↓aI_i6, ↓oZ_abyz, ↓oZ_az, ↓cZ_lenLm, ↓cZ_lenTm, ↓cZ_lenP, ↓oZ_ixP, ↓sD_P, ↓cZ_lstP, ↓cZ_abs, ↓cZ_int, ↓cZ_intB, ↓cZ_tup, ↓cZ_lstL, ↓cZ_lstT, ↓cZ_all, ↓cZ_any, ↓cZ_max2, ↓cZ_min2, ↓cZ_sum, ↓cZ_sorted, ↓xE_int, ↓xE_bl, ↓xE_str, ↓xE_non, ↓xE_var, ↓xE_op, ↓xE_neg, ↓xE_nt, ↓xE_an, ↓xE_or, ↓xE_ch, ↓xE_isN, ↓xE_notN, ↓xE_ife, ↓xE_tup, ↓xE_lst, ↓xE_sl, ↓sl1_T, ↓sl1_L, ↓xE_cb, ↓xE_isa, ↓xE_call, ↓xE_callS, ↓xE_lc, ↓sN_0, ↓sN_s, ↓xE_lrg, ↓xE_trg, ↓xE_pop, ↓xE_idxL, ↓sT_s, ↓xE_idxT, ↓xE_dget, ↓xE_din, ↓xE_dnin, ↓xE_dset, ↓xA_nil, ↓xA_cons, ↓xT_te, ↓xT_tb, ↓xT_nt, ↓xT_an, ↓xT_or, ↓xT_yes, ↓xT_lend, ↓xP_no, ↓xP_at, ↓xI_rng1, ↓xI_rng2, ↓xI_u, ↓xI_en, ↓xG_nm, ↓xG_tup, ↓xGs_nil, ↓xGs_cons, ↓sV_d, ↓sV_n, ↓sV_w, ↓rV_d, ↓rV_n, ↓rV_w, ↓rV_o, ↓xS_set, ↓xS_asg, ↓xS_seti, ↓xS_app, ↓xS_newD, ↓xS_dput, ↓xS_drop, ↓xS_ret, ↓xS_retN, ↓xS_iff, ↓xS_for, ↓xS_wh, ↓xS_brk, ↓xS_cont, ↓xS_nx, ↓xS_seq, ↓xS_fz, ↓fzK_l, ↓fzK_d, ↓fzK_n, ↓fzK_D, ↓kS_nx, ↓kS_rt, ↓kS_bk, ↓kS_ct, ↓out1_rt, ↓out2_rt, ↓u_b_l_word_1, ↓nextK]
      rw [show k + 2 + (i : Int) + 1 = k + 2 + ((i + 1 : Nat) : Int) by omega, if_neg (by omega), show ((i + 1 : Nat) : Int) - 1 = i by omega]
      simp [wtext, sign, sgn]
  rw [x_l_word]
  have fl : flatD (.str (wtext N (k + 2) (wlen N k).toNat)) = true := rfl
  have fs := flatStrsD taken
  have hc : ("c" : Str).length + (sgn "abcdefghijklmnopqrstuvwxyz" ((taken.length : Nat) : Int).toNat).length ≤ sizeLine := by rw [sgn_len, sizeLine_eq]; decide
  have wo : wordOf N k taken = if wtext N (k + 2) (wlen N k).toNat ∈ taken then "c" ++ alpha taken.length else wtext N (k + 2) (wlen N k).toNat := by
    unfold wordOf
    by_cases q : wtext N (k + 2) (wlen N k).toNat ∈ taken
    · rw [if_pos q, if_pos (List.any_eq_true.mpr ⟨_, q, by simp⟩)]
    · rw [if_neg q, if_neg]
      intro z
      obtain ⟨x, m, e⟩ := List.any_eq_true.mp z
      exact q ((eq_of_beq e) ▸ m)
  rw [wo]
  simp (config := { implicitDefEqProofs := false }) (disch := walk_at "side") only [↓reduceIte, decide_eq_true_eq, decide_true, decide_false, Bool.not_true, Bool.not_false, Bool.false_eq_true, Int.reduceEq, Int.reduceLT, Int.reduceLE, Int.reduceNeg, Int.reduceToNat, ↓okI, ↓okI2, ↓aV_d, ↓aV_o, ↓aV_n, ↓aV_w, ↓dV_d, ↓dV_n, ↓dV_w, ↓gE_0, ↓gE_s, ↓eL_l, ↓eD_l, ↓eV_d, ↓eV_l, ↓nA_d, ↓nA_o, ↓iD_i, ↓bD_b, ↓kD_i, ↓kD_s, ↓zD_d, ↓vZ_d, ↓vZ_n, ↓sR_0, ↓sR_s, ↓sK_n, ↓sK_0, ↓lD_l, ↓sD_l, ↓sD_t, ↓tD_t, ↓dA_nil, ↓dA_d, ↓dN_nil, ↓dN_c, ↓oZ_addI, ↓oZ_addS, ↓oZ_addT, ↓oZ_addL, ↓oZ_sub, ↓oZ_mul, ↓oZ_mulT, ↓oZ_fdiv, ↓oZ_mod, ↓oZ_pow, ↓oZ_eqI, ↓oZ_eqS, ↓oZ_neS, ↓oZ_neI, ↓oZ_lt, ↓oZ_le, ↓oZ_gt, ↓oZ_ge, ↓oZ_ixL, ↓oZ_ixT, ↓aI_0, ↓aI_1, ↓aI_2, ↓nI_0, ↓nI_1, ↓lS_0, ↓lS_s, ↓aI_int, ↓aI_str, ↓aI_row, ↓aI_b2, ↓aI_i1, ↓aI_i2, ↓aI_i3, ↓aI_i4, ↓aI_i5, ↓aI_i6, ↓oZ_abyz, ↓oZ_az, ↓cZ_lenLm, ↓cZ_lenTm, ↓cZ_lenP, ↓oZ_ixP, ↓sD_P, ↓cZ_lstP, ↓cZ_abs, ↓cZ_int, ↓cZ_intB, ↓cZ_tup, ↓cZ_lstL, ↓cZ_lstT, ↓cZ_all, ↓cZ_any, ↓cZ_max2, ↓cZ_min2, ↓cZ_sum, ↓cZ_sorted, ↓xE_int, ↓xE_bl, ↓xE_str, ↓xE_non, ↓xE_var, ↓xE_op, ↓xE_neg, ↓xE_nt, ↓xE_an, ↓xE_or, ↓xE_ch, ↓xE_isN, ↓xE_notN, ↓xE_ife, ↓xE_tup, ↓xE_lst, ↓xE_sl, ↓sl1_T, ↓sl1_L, ↓xE_cb, ↓xE_isa, ↓xE_call, ↓xE_callS, ↓xE_lc, ↓sN_0, ↓sN_s, ↓xE_lrg, ↓xE_trg, ↓xE_pop, ↓xE_idxL, ↓sT_s, ↓xE_idxT, ↓xE_dget, ↓xE_din, ↓xE_dnin, ↓xE_dset, ↓xA_nil, ↓xA_cons, ↓xT_te, ↓xT_tb, ↓xT_nt, ↓xT_an, ↓xT_or, ↓xT_yes, ↓xT_lend, ↓xP_no, ↓xP_at, ↓xI_rng1, ↓xI_rng2, ↓xI_u, ↓xI_en, ↓xG_nm, ↓xG_tup, ↓xGs_nil, ↓xGs_cons, ↓sV_d, ↓sV_n, ↓sV_w, ↓rV_d, ↓rV_n, ↓rV_w, ↓rV_o, ↓xS_set, ↓xS_asg, ↓xS_seti, ↓xS_app, ↓xS_newD, ↓xS_dput, ↓xS_drop, ↓xS_ret, ↓xS_retN, ↓xS_iff, ↓xS_for, ↓xS_wh, ↓xS_brk, ↓xS_cont, ↓xS_nx, ↓xS_seq, ↓xS_fz, ↓fzK_l, ↓fzK_d, ↓fzK_n, ↓fzK_D, ↓kS_nx, ↓kS_rt, ↓kS_bk, ↓kS_ct, ↓out1_rt, ↓out2_rt, ↓u_c_l_word, ↓nextK, ← wl, ↓fK_s L, ↓oZ_inT, inD_strs]
  split <;> rfl
theorem wordK {β : Type} {N : List Int} {k : Int} {taken : List Str} {kv : Vl → List D → Option β} (G : Good N) (h0 : 0 ≤ k) (h1 : k + 20 ≤ KMax) (ht : taken.length < 26) : cKS f_l_word (stAt N k) [.tuple (taken.map .str)] kv = kv (.d (.str (wordOf N k taken))) (stAt N (k + 2 + wlen N k)) := cKS_s (word_eq G h0 h1 ht)
theorem letters_eq {N : List Int} {k : Int} {many : Nat} (G : Good N) (h0 : 0 ≤ k) (h1 : k + 200 ≤ KMax) (hm : many ≤ 8) : f_l_letters (stAt N k) [.int (many : Nat)] = some (.dat (.tuple ((lettersOf N k many).1.map .str)), stAt N (lettersOf N k many).2) := by
  have hK : KMax = 1000000000 := rfl
  have L : forGo (trn [0] (.nm 3) b_l_letters_1) (rgD 0 ((many : Nat) : Int).toNat) [.own (.lst (stAt N k)), .dat (.int (many : Nat)), .dat (.tuple []), .no] = some (.nx [.own (.lst (stAt N (lettersOf N k many).2)), .dat (.int (many : Nat)), .dat (.tuple ((lettersOf N k many).1.map .str)), if many = 0 then .no else .dat (.int ((many : Int) - 1))]) := by
    refine for_inv (fun i => [.own (.lst (stAt N (lettersOf N k i).2)), .dat (.int (many : Nat)), .dat (.tuple ((lettersOf N k i).1.map .str)), if i = 0 then .no else .dat (.int ((i : Int) - 1))]) (by simp [lettersOf]) (by rw [rgD_len]; rfl) fun i hi => ?_
    rw [rgD_len] at hi
    rw [rgD_at hi, trn_x]
    have b := letters_bnd N k i
    have l := letters_len N k i
    have hz : ((lettersOf N k i).1.map PyData.str).length + [PyData.str (wordOf N (lettersOf N k i).2 (lettersOf N k i).1)].length ≤ sizeLine := by rw [List.length_map, l, List.length_singleton, sizeLine_eq]; omega
    simp (config := { implicitDefEqProofs := false }) (disch := walk_at "side") only [↓reduceIte, decide_eq_true_eq, decide_true, decide_false, Bool.not_true, Bool.not_false, Bool.false_eq_true, Int.reduceEq, Int.reduceLT, Int.reduceLE, Int.reduceNeg, Int.reduceToNat, ↓okI, ↓okI2, ↓aV_d, ↓aV_o, ↓aV_n, ↓aV_w, ↓dV_d, ↓dV_n, ↓dV_w, ↓gE_0, ↓gE_s, ↓eL_l, ↓eD_l, ↓eV_d, ↓eV_l, ↓nA_d, ↓nA_o, ↓iD_i, ↓bD_b, ↓kD_i, ↓kD_s, ↓zD_d, ↓vZ_d, ↓vZ_n, ↓sR_0, ↓sR_s, ↓sK_n, ↓sK_0, ↓lD_l, ↓sD_l, ↓sD_t, ↓tD_t, ↓dA_nil, ↓dA_d, ↓dN_nil, ↓dN_c, ↓oZ_addI, ↓oZ_addS, ↓oZ_addT, ↓oZ_addL, ↓oZ_sub, ↓oZ_mul, ↓oZ_mulT, ↓oZ_fdiv, ↓oZ_mod, ↓oZ_pow, ↓oZ_eqI, ↓oZ_eqS, ↓oZ_neS, ↓oZ_neI, ↓oZ_lt, ↓oZ_le, ↓oZ_gt, ↓oZ_ge, ↓oZ_ixL, ↓oZ_ixT, ↓aI_0, ↓aI_1, ↓aI_2, ↓nI_0, ↓nI_1, ↓lS_0, ↓lS_s, ↓aI_int, ↓aI_str, ↓aI_row, ↓aI_b2, ↓aI_i1, ↓aI_i2, ↓aI_i3, ↓aI_i4, ↓aI_i5, ↓aI_i6, ↓oZ_abyz, ↓oZ_az, ↓cZ_lenLm, ↓cZ_lenTm, ↓cZ_lenP, ↓oZ_ixP, ↓sD_P, ↓cZ_lstP, ↓cZ_abs, ↓cZ_int, ↓cZ_intB, ↓cZ_tup, ↓cZ_lstL, ↓cZ_lstT, ↓cZ_all, ↓cZ_any, ↓cZ_max2, ↓cZ_min2, ↓cZ_sum, ↓cZ_sorted, ↓xE_int, ↓xE_bl, ↓xE_str, ↓xE_non, ↓xE_var, ↓xE_op, ↓xE_neg, ↓xE_nt, ↓xE_an, ↓xE_or, ↓xE_ch, ↓xE_isN, ↓xE_notN, ↓xE_ife, ↓xE_tup, ↓xE_lst, ↓xE_sl, ↓sl1_T, ↓sl1_L, ↓xE_cb, ↓xE_isa, ↓xE_call, ↓xE_callS, ↓xE_lc, ↓sN_0, ↓sN_s, ↓xE_lrg, ↓xE_trg, ↓xE_pop, ↓xE_idxL, ↓sT_s, ↓xE_idxT, ↓xE_dget, ↓xE_din, ↓xE_dnin, ↓xE_dset, ↓xA_nil, ↓xA_cons, ↓xT_te, ↓xT_tb, ↓xT_nt, ↓xT_an, ↓xT_or, ↓xT_yes, ↓xT_lend, ↓xP_no, ↓xP_at, ↓xI_rng1, ↓xI_rng2, ↓xI_u, ↓xI_en, ↓xG_nm, ↓xG_tup, ↓xGs_nil, ↓xGs_cons, ↓sV_d, ↓sV_n, ↓sV_w, ↓rV_d, ↓rV_n, ↓rV_w, ↓rV_o, ↓xS_set, ↓xS_asg, ↓xS_seti, ↓xS_app, ↓xS_newD, ↓xS_dput, ↓xS_drop, ↓xS_ret, ↓xS_retN, ↓xS_iff, ↓xS_for, ↓xS_wh, ↓xS_brk, ↓xS_cont, ↓xS_nx, ↓xS_seq, ↓xS_fz, ↓fzK_l, ↓fzK_d, ↓fzK_n, ↓fzK_D, ↓kS_nx, ↓kS_rt, ↓kS_bk, ↓kS_ct, ↓out1_rt, ↓out2_rt, ↓u_b_l_letters_1, ↓wordK]
    rw [if_neg (by omega), show ((i + 1 : Nat) : Int) - 1 = i by omega]
    simp [lettersOf]
  rw [x_l_letters]
  simp (config := { implicitDefEqProofs := false }) (disch := walk_at "side") only [↓reduceIte, decide_eq_true_eq, decide_true, decide_false, Bool.not_true, Bool.not_false, Bool.false_eq_true, Int.reduceEq, Int.reduceLT, Int.reduceLE, Int.reduceNeg, Int.reduceToNat, ↓okI, ↓okI2, ↓aV_d, ↓aV_o, ↓aV_n, ↓aV_w, ↓dV_d, ↓dV_n, ↓dV_w, ↓gE_0, ↓gE_s, ↓eL_l, ↓eD_l, ↓eV_d, ↓eV_l, ↓nA_d, ↓nA_o, ↓iD_i, ↓bD_b, ↓kD_i, ↓kD_s, ↓zD_d, ↓vZ_d, ↓vZ_n, ↓sR_0, ↓sR_s, ↓sK_n, ↓sK_0, ↓lD_l, ↓sD_l, ↓sD_t, ↓tD_t, ↓dA_nil, ↓dA_d, ↓dN_nil, ↓dN_c, ↓oZ_addI, ↓oZ_addS, ↓oZ_addT, ↓oZ_addL, ↓oZ_sub, ↓oZ_mul, ↓oZ_mulT, ↓oZ_fdiv, ↓oZ_mod, ↓oZ_pow, ↓oZ_eqI, ↓oZ_eqS, ↓oZ_neS, ↓oZ_neI, ↓oZ_lt, ↓oZ_le, ↓oZ_gt, ↓oZ_ge, ↓oZ_ixL, ↓oZ_ixT, ↓aI_0, ↓aI_1, ↓aI_2, ↓nI_0, ↓nI_1, ↓lS_0, ↓lS_s, ↓aI_int, ↓aI_str, ↓aI_row, ↓aI_b2, ↓aI_i1, ↓aI_i2, ↓aI_i3, ↓aI_i4, ↓aI_i5, ↓aI_i6, ↓oZ_abyz, ↓oZ_az, ↓cZ_lenLm, ↓cZ_lenTm, ↓cZ_lenP, ↓oZ_ixP, ↓sD_P, ↓cZ_lstP, ↓cZ_abs, ↓cZ_int, ↓cZ_intB, ↓cZ_tup, ↓cZ_lstL, ↓cZ_lstT, ↓cZ_all, ↓cZ_any, ↓cZ_max2, ↓cZ_min2, ↓cZ_sum, ↓cZ_sorted, ↓xE_int, ↓xE_bl, ↓xE_str, ↓xE_non, ↓xE_var, ↓xE_op, ↓xE_neg, ↓xE_nt, ↓xE_an, ↓xE_or, ↓xE_ch, ↓xE_isN, ↓xE_notN, ↓xE_ife, ↓xE_tup, ↓xE_lst, ↓xE_sl, ↓sl1_T, ↓sl1_L, ↓xE_cb, ↓xE_isa, ↓xE_call, ↓xE_callS, ↓xE_lc, ↓sN_0, ↓sN_s, ↓xE_lrg, ↓xE_trg, ↓xE_pop, ↓xE_idxL, ↓sT_s, ↓xE_idxT, ↓xE_dget, ↓xE_din, ↓xE_dnin, ↓xE_dset, ↓xA_nil, ↓xA_cons, ↓xT_te, ↓xT_tb, ↓xT_nt, ↓xT_an, ↓xT_or, ↓xT_yes, ↓xT_lend, ↓xP_no, ↓xP_at, ↓xI_rng1, ↓xI_rng2, ↓xI_u, ↓xI_en, ↓xG_nm, ↓xG_tup, ↓xGs_nil, ↓xGs_cons, ↓sV_d, ↓sV_n, ↓sV_w, ↓rV_d, ↓rV_n, ↓rV_w, ↓rV_o, ↓xS_set, ↓xS_asg, ↓xS_seti, ↓xS_app, ↓xS_newD, ↓xS_dput, ↓xS_drop, ↓xS_ret, ↓xS_retN, ↓xS_iff, ↓xS_for, ↓xS_wh, ↓xS_brk, ↓xS_cont, ↓xS_nx, ↓xS_seq, ↓xS_fz, ↓fzK_l, ↓fzK_d, ↓fzK_n, ↓fzK_D, ↓kS_nx, ↓kS_rt, ↓kS_bk, ↓kS_ct, ↓out1_rt, ↓out2_rt, ↓u_c_l_letters, ↓fK_s L]

end CS

namespace CS
open PySem PySem.Spec PyProof.Rows L2 DL EV
local macro_rules | `(tactic| walk_at "side") => `(tactic| first | omega | (simp only [List.length_cons, List.length_nil, List.length_map, List.length_append, List.length_range, PySem.sizeLine_eq]; omega) | assumption | (simp; done))
theorem streamK {β : Type} {ns : List Int} {kv : Vl → Option β} (h : ns.length ≤ 63) : cK f_l_stream [.list (ns.map .int)] kv = kv (.w (.lst ((streamOf ns).map .int))) := cK_s (stream_eq h)
theorem maps0K {β : Type} {N : List Int} {most : Int} {kv : Vl → List D → Option β} (G : Good N) (hm : 1 ≤ most ∧ most ≤ 8) : cKS f_l_maps [.list (N.map .int), .int 0] [.int most] kv = kv (.w (.lst ((mapsOf N 0 most).1.map tupI))) (stAt N (mapsOf N 0 most).2) := cKS_s (maps_eq (k := 0) G (by omega) (by unfold KMax; omega) hm)
theorem lettersK {β : Type} {N : List Int} {k : Int} {many : Nat} {kv : Vl → List D → Option β} (G : Good N) (h0 : 0 ≤ k) (h1 : k + 200 ≤ KMax) (hm : many ≤ 8) : cKS f_l_letters (stAt N k) [.int (many : Nat)] kv = kv (.d (.tuple ((lettersOf N k many).1.map .str))) (stAt N (lettersOf N k many).2) := cKS_s (letters_eq G h0 h1 hm)
theorem leastK {β : Type} {n : Nat} {maps : List (List Int)} {L : List Str} {kv : Vl → Option β} (hn : n ≤ 1000) (ho : ∀ x ∈ maps, okMap n x) (hm : maps.length ≤ 8) (hL : L.length = maps.length) (hE : (elementsOf maps 40).length ≤ 40) : cK f_least_logs [tableD L (firstsOf maps) (rowsOf maps)] kv = kv (.w (.lst ((stageL L maps 40).2.map logD))) := cK_s (least_eq hn ho hm hL hE)
theorem firstK {β : Type} {n : Nat} {maps : List (List Int)} {L : List Str} {kv : Vl → Option β} (hn : n ≤ 1000) (ho : ∀ x ∈ maps, okMap n x) (hm : maps.length ≤ 8) (hL : L.length = maps.length) : cK f_l_first_logs [.tuple (L.map .str), .list (maps.map tupI)] kv = kv (.w (.lst ((stageL L maps 40).2.map logD))) := cK_s (first_logs_eq hn ho hm hL).1
theorem law_true {ns : List Int} (h : ns.length ≤ 63) : f_law [.list (ns.map .int)] = some (.dat (.bool true)) := by
  have hK : KMax = 1000000000 := rfl
  have G := good_stream h
  rw [x_law]
  have KS : ∀ {β : Type} (kv : Vl → Option β), cK f_l_stream [.list (ns.map .int)] kv = kv (.w (.lst ((streamOf ns).map .int))) := fun kv => streamK h
  generalize streamOf ns = N at G KS
  obtain ⟨mo1, mo2, mo3⟩ := maps_ok N 0 4 (by omega)
  obtain ⟨rb1, rb2, _, _⟩ := rooms_ix N 0
  have q0 := nxt_lo (N := N) (k := 0 + 6) (many := 4) (by omega)
  have q1 := nxt_hi (N := N) (k := 0 + 6) (many := 4) (by omega)
  have mk : 0 ≤ (mapsOf N 0 4).2 ∧ (mapsOf N 0 4).2 ≤ 200 := by
    have mb := mapsFrom_bnd N (nxt N 0 5) (rooms := roomsOf N 0) (0 + 7) rb2 (1 + nxt N (0 + 6) 4).toNat
    have e : mapsOf N 0 4 = mapsFrom N (nxt N 0 5) (roomsOf N 0) (0 + 7) (1 + nxt N (0 + 6) 4).toNat := rfl
    rw [e]
    omega
  have KM : ∀ {β : Type} (kv : Vl → List D → Option β), cKS f_l_maps [.list (N.map .int), .int 0] [.int 4] kv = kv (.w (.lst ((mapsOf N 0 4).1.map tupI))) (stAt N (mapsOf N 0 4).2) := fun kv => maps0K G (by omega)
  generalize mapsOf N 0 4 = M at mo1 mo2 mo3 mk KM
  obtain ⟨maps, k1⟩ := M
  simp only at mo1 mo2 mo3 mk KM
  generalize roomsOf N 0 = n at mo1 rb1 rb2
  have lb := letters_bnd N k1 maps.length
  have ll := letters_len N k1 maps.length
  have lo := letters_ok N k1 maps.length
  have KL : ∀ {β : Type} (kv : Vl → List D → Option β), cKS f_l_letters (stAt N k1) [.int (maps.length : Nat)] kv = kv (.d (.tuple ((lettersOf N k1 maps.length).1.map .str))) (stAt N (lettersOf N k1 maps.length).2) := fun kv => lettersK G (by omega) (by omega) (by omega)
  generalize lettersOf N k1 maps.length = LL at lb ll lo KL
  obtain ⟨L, k2⟩ := LL
  simp only at lb ll lo KL
  have KE : ∀ {β : Type} (kv : Vl → Option β), cK f_l_elements [.list (maps.map tupI), .int 40] kv = kv (.w (.lst ((elementsOf maps 40).map tupI))) := fun kv => elements40 (n := n) (by omega) mo1 (by omega)
  by_cases hE : (elementsOf maps 40).length ≤ 40
  · have hE' : ¬ (40 : Int) < ((elementsOf maps 40).length : Int) := by omega
    have Z : Set16 N n maps L := ⟨G, by omega, mo2, by omega, mo1, ll, hE⟩
    have KT : ∀ {β : Type} (kv : Vl → Option β), cK f_l_table [.tuple (L.map .str), .list (maps.map tupI)] kv = kv (.d (tableD L (firstsOf maps) (rowsOf maps))) := fun kv => tableK (n := n) (by omega) mo1 (by omega) hE
    have KF : ∀ {β : Type} (kv : Vl → Option β), cK f_least_logs [tableD L (firstsOf maps) (rowsOf maps)] kv = kv (.w (.lst ((stageL L maps 40).2.map logD))) := fun kv => leastK (n := n) (by omega) mo1 (by omega) ll hE
    have KG : ∀ {β : Type} (kv : Vl → Option β), cK f_l_first_logs [.tuple (L.map .str), .list (maps.map tupI)] kv = kv (.w (.lst ((stageL L maps 40).2.map logD))) := fun kv => firstK (n := n) (by omega) mo1 (by omega) ll
    have okS40 := (first_logs_eq (L := L) (n := n) (by omega) mo1 (by omega) ll).2
    have s40 : (stageL L maps 40).1.length ≤ 40 := by
      rw [stageL_fst L hE 40 (by omega), stage_end hE hE (by omega)]; exact hE
    have KR : ∀ {β : Type} (kz : Rz → Option β), cZ .repr [.list ((stageL L maps 40).2.map logD)] kz = kz (.d (.str (PyData.list ((stageL L maps 40).2.map logD)).shown)) := fun kz =>
      reprLogs (by rw [okS40.len]; exact s40) (fun l m => Nat.le_trans (okS40.logs l m) s40) (fun l m x mx => lo x (stageL_mem ll 40 l m x mx))
    have zl : ((stageL L maps 40).2.map logD).length < sizeLine := by rw [List.length_map, okS40.len, sizeLine_eq]; omega
    obtain ⟨ρ1, L1, k3, f6, f7, f8, f9, f4, rfl, hf4, hk3, hk3'⟩ := for_ex0 (f := trn [] (.nm 6) b_law_5) (fun i ρ => ∃ k e6 e7 e8 e9 e4, ρ = [.dat (.list (ns.map .int)), .own (.lst (stAt N k)), .dat (.list (maps.map tupI)), .dat (.tuple (L.map .str)), e4, .dat (tableD L (firstsOf maps) (rowsOf maps)), e6, e7, e8, e9, .no, .no, .no, .no] ∧ ((e4 = .own (.lst ((elementsOf maps 40).map tupI)) ∧ i = 0) ∨ e4 = .dat (.list ((elementsOf maps 40).map tupI))) ∧ 0 ≤ k ∧ k ≤ 1000 + 700 * (i : Nat)) (l := rgD 0 4) (ρ := [.dat (.list (ns.map .int)), .own (.lst (stAt N k2)), .dat (.list (maps.map tupI)), .dat (.tuple (L.map .str)), .own (.lst ((elementsOf maps 40).map tupI)), .dat (tableD L (firstsOf maps) (rowsOf maps)), .no, .no, .no, .no, .no, .no, .no, .no])
      ⟨k2, .no, .no, .no, .no, _, rfl, .inl ⟨rfl, rfl⟩, by omega, by omega⟩ (fun i ρ hi ⟨k, e6, e7, e8, e9, e4, e, h4, hk, hk'⟩ => by
        subst e
        rw [rgD_len] at hi
        obtain ⟨k', g7, g8, g9, t, b1, b2⟩ := law_turn1 Z (k := k) hk (by omega) (x := nthD (rgD 0 4) i) (e0 := .dat (.list (ns.map .int))) (e4 := e4) (e6 := e6) (e7 := e7) (e8 := e8) (e9 := e9) (e10 := .no) (e11 := .no) (e12 := .no) (h4.imp And.left id)
        exact ⟨_, t, k', _, g7, g8, g9, _, rfl, .inr rfl, by omega, by omega⟩)
    have hf4' : f4 = .dat (.list ((elementsOf maps 40).map tupI)) := hf4.resolve_left fun z => by rw [rgD_len] at z; omega
    subst hf4'
    rw [rgD_len] at hk3'
    obtain ⟨ρ2, L2, k4, g6, g7, g10, g11, g12, rfl, hk4, hk4'⟩ := for_ex0 (f := trn [] (.nm 6) b_law_1) (fun i ρ => ∃ k e6 e7 e10 e11 e12, ρ = [.dat (.list (ns.map .int)), .own (.lst (stAt N k)), .dat (.list (maps.map tupI)), .dat (.tuple (L.map .str)), .dat (.list ((elementsOf maps 40).map tupI)), .dat (tableD L (firstsOf maps) (rowsOf maps)), e6, e7, f8, f9, e10, e11, e12, .no] ∧ 0 ≤ k ∧ k ≤ 4000 + 700 * (i : Nat)) (l := rgD 0 4) (ρ := [.dat (.list (ns.map .int)), .own (.lst (stAt N k3)), .dat (.list (maps.map tupI)), .dat (.tuple (L.map .str)), .dat (.list ((elementsOf maps 40).map tupI)), .dat (tableD L (firstsOf maps) (rowsOf maps)), f6, f7, f8, f9, .no, .no, .no, .no])
      ⟨k3, f6, f7, .no, .no, .no, rfl, by omega, by omega⟩ (fun i ρ hi ⟨k, e6, e7, e10, e11, e12, e, hk, hk'⟩ => by
        subst e
        rw [rgD_len] at hi
        obtain ⟨p10, p11, p12, t⟩ := law_turn2 Z (k := k) hk (by omega) (x := nthD (rgD 0 4) i) (e0 := .dat (.list (ns.map .int))) (e6 := e6) (e7 := e7) (e8 := f8) (e9 := f9) (e10 := e10) (e11 := e11) (e12 := e12)
        exact ⟨_, t, k + 1 + 1, _, e7, p10, p11, p12, rfl, by omega, by omega⟩)
    simp (config := { implicitDefEqProofs := false }) (disch := walk_at "side") only [↓reduceIte, decide_eq_true_eq, decide_true, decide_false, Bool.not_true, Bool.not_false, Bool.false_eq_true, Int.reduceEq, Int.reduceLT, Int.reduceLE, Int.reduceNeg, Int.reduceToNat, ↓okI, ↓okI2, ↓aV_d, ↓aV_o, ↓aV_n, ↓aV_w, ↓dV_d, ↓dV_n, ↓dV_w, ↓gE_0, ↓gE_s, ↓eL_l, ↓eD_l, ↓eV_d, ↓eV_l, ↓nA_d, ↓nA_o, ↓iD_i, ↓bD_b, ↓kD_i, ↓kD_s, ↓zD_d, ↓vZ_d, ↓vZ_n, ↓sR_0, ↓sR_s, ↓sK_n, ↓sK_0, ↓lD_l, ↓sD_l, ↓sD_t, ↓tD_t, ↓dA_nil, ↓dA_d, ↓dN_nil, ↓dN_c, ↓oZ_addI, ↓oZ_addS, ↓oZ_addT, ↓oZ_addL, ↓oZ_sub, ↓oZ_mul, ↓oZ_mulT, ↓oZ_fdiv, ↓oZ_mod, ↓oZ_pow, ↓oZ_eqI, ↓oZ_eqS, ↓oZ_neS, ↓oZ_neI, ↓oZ_lt, ↓oZ_le, ↓oZ_gt, ↓oZ_ge, ↓oZ_ixL, ↓oZ_ixT, ↓aI_0, ↓aI_1, ↓aI_2, ↓nI_0, ↓nI_1, ↓lS_0, ↓lS_s, ↓aI_int, ↓aI_str, ↓aI_row, ↓aI_b2, ↓aI_i1, ↓aI_i2, ↓aI_i3, ↓aI_i4, ↓aI_i5, ↓aI_i6, ↓oZ_abyz, ↓oZ_az, ↓cZ_lenLm, ↓cZ_lenTm, ↓cZ_lenP, ↓oZ_ixP, ↓sD_P, ↓cZ_lstP, ↓cZ_abs, ↓cZ_int, ↓cZ_intB, ↓cZ_tup, ↓cZ_lstL, ↓cZ_lstT, ↓cZ_all, ↓cZ_any, ↓cZ_max2, ↓cZ_min2, ↓cZ_sum, ↓cZ_sorted, ↓xE_int, ↓xE_bl, ↓xE_str, ↓xE_non, ↓xE_var, ↓xE_op, ↓xE_neg, ↓xE_nt, ↓xE_an, ↓xE_or, ↓xE_ch, ↓xE_isN, ↓xE_notN, ↓xE_ife, ↓xE_tup, ↓xE_lst, ↓xE_sl, ↓sl1_T, ↓sl1_L, ↓xE_cb, ↓xE_isa, ↓xE_call, ↓xE_callS, ↓xE_lc, ↓sN_0, ↓sN_s, ↓xE_lrg, ↓xE_trg, ↓xE_pop, ↓xE_idxL, ↓sT_s, ↓xE_idxT, ↓xE_dget, ↓xE_din, ↓xE_dnin, ↓xE_dset, ↓xA_nil, ↓xA_cons, ↓xT_te, ↓xT_tb, ↓xT_nt, ↓xT_an, ↓xT_or, ↓xT_yes, ↓xT_lend, ↓xP_no, ↓xP_at, ↓xI_rng1, ↓xI_rng2, ↓xI_u, ↓xI_en, ↓xG_nm, ↓xG_tup, ↓xGs_nil, ↓xGs_cons, ↓sV_d, ↓sV_n, ↓sV_w, ↓rV_d, ↓rV_n, ↓rV_w, ↓rV_o, ↓xS_set, ↓xS_asg, ↓xS_seti, ↓xS_app, ↓xS_newD, ↓xS_dput, ↓xS_drop, ↓xS_ret, ↓xS_retN, ↓xS_iff, ↓xS_for, ↓xS_wh, ↓xS_brk, ↓xS_cont, ↓xS_nx, ↓xS_seq, ↓xS_fz, ↓fzK_l, ↓fzK_d, ↓fzK_n, ↓fzK_D, ↓kS_nx, ↓kS_rt, ↓kS_bk, ↓kS_ct, ↓out1_rt, ↓out2_rt, ↓u_c_law, ↓KS, ↓KM, ↓KL, ↓KE, hE', ↓KT, ↓fK_s L1, ↓fK_s L2, ↓KF, ↓KG, ↓KR, beq_self_eq_true]
  · have hE' : (40 : Int) < ((elementsOf maps 40).length : Int) := by omega
    simp (config := { implicitDefEqProofs := false }) (disch := walk_at "side") only [↓reduceIte, decide_eq_true_eq, decide_true, decide_false, Bool.not_true, Bool.not_false, Bool.false_eq_true, Int.reduceEq, Int.reduceLT, Int.reduceLE, Int.reduceNeg, Int.reduceToNat, ↓okI, ↓okI2, ↓aV_d, ↓aV_o, ↓aV_n, ↓aV_w, ↓dV_d, ↓dV_n, ↓dV_w, ↓gE_0, ↓gE_s, ↓eL_l, ↓eD_l, ↓eV_d, ↓eV_l, ↓nA_d, ↓nA_o, ↓iD_i, ↓bD_b, ↓kD_i, ↓kD_s, ↓zD_d, ↓vZ_d, ↓vZ_n, ↓sR_0, ↓sR_s, ↓sK_n, ↓sK_0, ↓lD_l, ↓sD_l, ↓sD_t, ↓tD_t, ↓dA_nil, ↓dA_d, ↓dN_nil, ↓dN_c, ↓oZ_addI, ↓oZ_addS, ↓oZ_addT, ↓oZ_addL, ↓oZ_sub, ↓oZ_mul, ↓oZ_mulT, ↓oZ_fdiv, ↓oZ_mod, ↓oZ_pow, ↓oZ_eqI, ↓oZ_eqS, ↓oZ_neS, ↓oZ_neI, ↓oZ_lt, ↓oZ_le, ↓oZ_gt, ↓oZ_ge, ↓oZ_ixL, ↓oZ_ixT, ↓aI_0, ↓aI_1, ↓aI_2, ↓nI_0, ↓nI_1, ↓lS_0, ↓lS_s, ↓aI_int, ↓aI_str, ↓aI_row, ↓aI_b2, ↓aI_i1, ↓aI_i2, ↓aI_i3, ↓aI_i4, ↓aI_i5, ↓aI_i6, ↓oZ_abyz, ↓oZ_az, ↓cZ_lenLm, ↓cZ_lenTm, ↓cZ_lenP, ↓oZ_ixP, ↓sD_P, ↓cZ_lstP, ↓cZ_abs, ↓cZ_int, ↓cZ_intB, ↓cZ_tup, ↓cZ_lstL, ↓cZ_lstT, ↓cZ_all, ↓cZ_any, ↓cZ_max2, ↓cZ_min2, ↓cZ_sum, ↓cZ_sorted, ↓xE_int, ↓xE_bl, ↓xE_str, ↓xE_non, ↓xE_var, ↓xE_op, ↓xE_neg, ↓xE_nt, ↓xE_an, ↓xE_or, ↓xE_ch, ↓xE_isN, ↓xE_notN, ↓xE_ife, ↓xE_tup, ↓xE_lst, ↓xE_sl, ↓sl1_T, ↓sl1_L, ↓xE_cb, ↓xE_isa, ↓xE_call, ↓xE_callS, ↓xE_lc, ↓sN_0, ↓sN_s, ↓xE_lrg, ↓xE_trg, ↓xE_pop, ↓xE_idxL, ↓sT_s, ↓xE_idxT, ↓xE_dget, ↓xE_din, ↓xE_dnin, ↓xE_dset, ↓xA_nil, ↓xA_cons, ↓xT_te, ↓xT_tb, ↓xT_nt, ↓xT_an, ↓xT_or, ↓xT_yes, ↓xT_lend, ↓xP_no, ↓xP_at, ↓xI_rng1, ↓xI_rng2, ↓xI_u, ↓xI_en, ↓xG_nm, ↓xG_tup, ↓xGs_nil, ↓xGs_cons, ↓sV_d, ↓sV_n, ↓sV_w, ↓rV_d, ↓rV_n, ↓rV_w, ↓rV_o, ↓xS_set, ↓xS_asg, ↓xS_seti, ↓xS_app, ↓xS_newD, ↓xS_dput, ↓xS_drop, ↓xS_ret, ↓xS_retN, ↓xS_iff, ↓xS_for, ↓xS_wh, ↓xS_brk, ↓xS_cont, ↓xS_nx, ↓xS_seq, ↓xS_fz, ↓fzK_l, ↓fzK_d, ↓fzK_n, ↓fzK_D, ↓kS_nx, ↓kS_rt, ↓kS_bk, ↓kS_ct, ↓out1_rt, ↓out2_rt, ↓u_c_law, ↓KS, ↓KM, ↓KL, ↓KE, hE']

end CS

set_option autoImplicit true

namespace K16
open PySem PySem.Spec PyProof.Rows L2 DL EV CS
theorem facts {P : Program} {w : World} {K : PySem.W.Frag} {h : Heap} {mg : Str → Option Value} {fa : Addr} (X : K.In h) (G : h.Ns mainGlobals mg) (hfa : mg "law" = some (.ref fa))
    {f1 : Addr} {od1 an1 : Option Addr} {sl1 : Array (Option Value)} {oc1 kV1 dc1 pm1 cd1 ct1 : Value}
    {f2 : Addr} {od2 an2 : Option Addr} {sl2 : Array (Option Value)} {oc2 kV2 dc2 pm2 cd2 ct2 : Value}
    {f3 : Addr} {od3 an3 : Option Addr} {sl3 : Array (Option Value)} {oc3 kV3 dc3 pm3 cd3 ct3 : Value}
    {f4 : Addr} {od4 an4 : Option Addr} {sl4 : Array (Option Value)} {oc4 kV4 dc4 pm4 cd4 ct4 : Value}
    {f6 : Addr} {od6 an6 : Option Addr} {sl6 : Array (Option Value)} {oc6 kV6 dc6 pm6 cd6 ct6 : Value}
    {f7 : Addr} {od7 an7 : Option Addr} {sl7 : Array (Option Value)} {oc7 kV7 dc7 pm7 cd7 ct7 : Value}
    {f8 : Addr} {od8 an8 : Option Addr} {sl8 : Array (Option Value)} {oc8 kV8 dc8 pm8 cd8 ct8 : Value}
    {f9 : Addr} {od9 an9 : Option Addr} {sl9 : Array (Option Value)} {oc9 kV9 dc9 pm9 cd9 ct9 : Value}
    {f10 : Addr} {od10 an10 : Option Addr} {sl10 : Array (Option Value)} {oc10 kV10 dc10 pm10 cd10 ct10 : Value}
    {f11 : Addr} {od11 an11 : Option Addr} {sl11 : Array (Option Value)} {oc11 kV11 dc11 pm11 cd11 ct11 : Value}
    {f12 : Addr} {od12 an12 : Option Addr} {sl12 : Array (Option Value)} {oc12 kV12 dc12 pm12 cd12 ct12 : Value}
    {f13 : Addr} {od13 an13 : Option Addr} {sl13 : Array (Option Value)} {oc13 kV13 dc13 pm13 cd13 ct13 : Value}
    {f14 : Addr} {od14 an14 : Option Addr} {sl14 : Array (Option Value)} {oc14 kV14 dc14 pm14 cd14 ct14 : Value}
    {f15 : Addr} {od15 an15 : Option Addr} {sl15 : Array (Option Value)} {oc15 kV15 dc15 pm15 cd15 ct15 : Value}
    {f16 : Addr} {od16 an16 : Option Addr} {sl16 : Array (Option Value)} {oc16 kV16 dc16 pm16 cd16 ct16 : Value}
    {f17 : Addr} {od17 an17 : Option Addr} {sl17 : Array (Option Value)} {oc17 kV17 dc17 pm17 cd17 ct17 : Value}
    (a1 : PySem.W.nsIn K mainGlobals "times" = some (some (.ref f1))) (l1 : K.lookup f1 = some ⟨oc1, od1, .func (PySem.W.fnOf "times" "times" (defArgs (topS 1)) (defBody (topS 1)) (defScope (topS 1)) .none kV1 dc1 pm1 an1 cd1 ct1), sl1⟩) (c1 : PySem.W.codeIn K cd1 "times" = true) (k1 : PySem.W.keepIn K (.ref f1) = true)
    (a2 : PySem.W.nsIn K mainGlobals "element_of" = some (some (.ref f2))) (l2 : K.lookup f2 = some ⟨oc2, od2, .func (PySem.W.fnOf "element_of" "element_of" (defArgs (topS 2)) (defBody (topS 2)) (defScope (topS 2)) .none kV2 dc2 pm2 an2 cd2 ct2), sl2⟩) (c2 : PySem.W.codeIn K cd2 "element_of" = true) (k2 : PySem.W.keepIn K (.ref f2) = true)
    (a3 : PySem.W.nsIn K mainGlobals "value_of" = some (some (.ref f3))) (l3 : K.lookup f3 = some ⟨oc3, od3, .func (PySem.W.fnOf "value_of" "value_of" (defArgs (topS 3)) (defBody (topS 3)) (defScope (topS 3)) .none kV3 dc3 pm3 an3 cd3 ct3), sl3⟩) (c3 : PySem.W.codeIn K cd3 "value_of" = true) (k3 : PySem.W.keepIn K (.ref f3) = true)
    (a4 : PySem.W.nsIn K mainGlobals "least_logs" = some (some (.ref f4))) (l4 : K.lookup f4 = some ⟨oc4, od4, .func (PySem.W.fnOf "least_logs" "least_logs" (defArgs (topS 4)) (defBody (topS 4)) (defScope (topS 4)) .none kV4 dc4 pm4 an4 cd4 ct4), sl4⟩) (c4 : PySem.W.codeIn K cd4 "least_logs" = true) (k4 : PySem.W.keepIn K (.ref f4) = true)
    (a6 : PySem.W.nsIn K mainGlobals "_law_stream" = some (some (.ref f6))) (l6 : K.lookup f6 = some ⟨oc6, od6, .func (PySem.W.fnOf "_law_stream" "_law_stream" (defArgs (topS 6)) (defBody (topS 6)) (defScope (topS 6)) .none kV6 dc6 pm6 an6 cd6 ct6), sl6⟩) (c6 : PySem.W.codeIn K cd6 "_law_stream" = true) (k6 : PySem.W.keepIn K (.ref f6) = true)
    (a7 : PySem.W.nsIn K mainGlobals "_law_next" = some (some (.ref f7))) (l7 : K.lookup f7 = some ⟨oc7, od7, .func (PySem.W.fnOf "_law_next" "_law_next" (defArgs (topS 7)) (defBody (topS 7)) (defScope (topS 7)) .none kV7 dc7 pm7 an7 cd7 ct7), sl7⟩) (c7 : PySem.W.codeIn K cd7 "_law_next" = true) (k7 : PySem.W.keepIn K (.ref f7) = true)
    (a8 : PySem.W.nsIn K mainGlobals "_law_word" = some (some (.ref f8))) (l8 : K.lookup f8 = some ⟨oc8, od8, .func (PySem.W.fnOf "_law_word" "_law_word" (defArgs (topS 8)) (defBody (topS 8)) (defScope (topS 8)) .none kV8 dc8 pm8 an8 cd8 ct8), sl8⟩) (c8 : PySem.W.codeIn K cd8 "_law_word" = true) (k8 : PySem.W.keepIn K (.ref f8) = true)
    (a9 : PySem.W.nsIn K mainGlobals "_law_letters" = some (some (.ref f9))) (l9 : K.lookup f9 = some ⟨oc9, od9, .func (PySem.W.fnOf "_law_letters" "_law_letters" (defArgs (topS 9)) (defBody (topS 9)) (defScope (topS 9)) .none kV9 dc9 pm9 an9 cd9 ct9), sl9⟩) (c9 : PySem.W.codeIn K cd9 "_law_letters" = true) (k9 : PySem.W.keepIn K (.ref f9) = true)
    (a10 : PySem.W.nsIn K mainGlobals "_law_map" = some (some (.ref f10))) (l10 : K.lookup f10 = some ⟨oc10, od10, .func (PySem.W.fnOf "_law_map" "_law_map" (defArgs (topS 10)) (defBody (topS 10)) (defScope (topS 10)) .none kV10 dc10 pm10 an10 cd10 ct10), sl10⟩) (c10 : PySem.W.codeIn K cd10 "_law_map" = true) (k10 : PySem.W.keepIn K (.ref f10) = true)
    (a11 : PySem.W.nsIn K mainGlobals "_law_maps" = some (some (.ref f11))) (l11 : K.lookup f11 = some ⟨oc11, od11, .func (PySem.W.fnOf "_law_maps" "_law_maps" (defArgs (topS 11)) (defBody (topS 11)) (defScope (topS 11)) .none kV11 dc11 pm11 an11 cd11 ct11), sl11⟩) (c11 : PySem.W.codeIn K cd11 "_law_maps" = true) (k11 : PySem.W.keepIn K (.ref f11) = true)
    (a12 : PySem.W.nsIn K mainGlobals "_law_same_as" = some (some (.ref f12))) (l12 : K.lookup f12 = some ⟨oc12, od12, .func (PySem.W.fnOf "_law_same_as" "_law_same_as" (defArgs (topS 12)) (defBody (topS 12)) (defScope (topS 12)) .none kV12 dc12 pm12 an12 cd12 ct12), sl12⟩) (c12 : PySem.W.codeIn K cd12 "_law_same_as" = true) (k12 : PySem.W.keepIn K (.ref f12) = true)
    (a13 : PySem.W.nsIn K mainGlobals "_law_elements" = some (some (.ref f13))) (l13 : K.lookup f13 = some ⟨oc13, od13, .func (PySem.W.fnOf "_law_elements" "_law_elements" (defArgs (topS 13)) (defBody (topS 13)) (defScope (topS 13)) .none kV13 dc13 pm13 an13 cd13 ct13), sl13⟩) (c13 : PySem.W.codeIn K cd13 "_law_elements" = true) (k13 : PySem.W.keepIn K (.ref f13) = true)
    (a14 : PySem.W.nsIn K mainGlobals "_law_table" = some (some (.ref f14))) (l14 : K.lookup f14 = some ⟨oc14, od14, .func (PySem.W.fnOf "_law_table" "_law_table" (defArgs (topS 14)) (defBody (topS 14)) (defScope (topS 14)) .none kV14 dc14 pm14 an14 cd14 ct14), sl14⟩) (c14 : PySem.W.codeIn K cd14 "_law_table" = true) (k14 : PySem.W.keepIn K (.ref f14) = true)
    (a15 : PySem.W.nsIn K mainGlobals "_law_first_logs" = some (some (.ref f15))) (l15 : K.lookup f15 = some ⟨oc15, od15, .func (PySem.W.fnOf "_law_first_logs" "_law_first_logs" (defArgs (topS 15)) (defBody (topS 15)) (defScope (topS 15)) .none kV15 dc15 pm15 an15 cd15 ct15), sl15⟩) (c15 : PySem.W.codeIn K cd15 "_law_first_logs" = true) (k15 : PySem.W.keepIn K (.ref f15) = true)
    (a16 : PySem.W.nsIn K mainGlobals "_law_value" = some (some (.ref f16))) (l16 : K.lookup f16 = some ⟨oc16, od16, .func (PySem.W.fnOf "_law_value" "_law_value" (defArgs (topS 16)) (defBody (topS 16)) (defScope (topS 16)) .none kV16 dc16 pm16 an16 cd16 ct16), sl16⟩) (c16 : PySem.W.codeIn K cd16 "_law_value" = true) (k16 : PySem.W.keepIn K (.ref f16) = true)
    (a17 : PySem.W.nsIn K mainGlobals "law" = some (some (.ref f17))) (l17 : K.lookup f17 = some ⟨oc17, od17, .func (PySem.W.fnOf "law" "law" (defArgs (topS 17)) (defBody (topS 17)) (defScope (topS 17)) .none kV17 dc17 pm17 an17 cd17 ct17), sl17⟩) (c17 : PySem.W.codeIn K cd17 "law" = true) (k17 : PySem.W.keepIn K (.ref f17) = true)
    (z_abs : PySem.W.nsIn K mainGlobals "abs" = some none)
    (z_enumerate : PySem.W.nsIn K mainGlobals "enumerate" = some none)
    (z_int : PySem.W.nsIn K mainGlobals "int" = some none)
    (z_len : PySem.W.nsIn K mainGlobals "len" = some none)
    (z_list : PySem.W.nsIn K mainGlobals "list" = some none)
    (z_range : PySem.W.nsIn K mainGlobals "range" = some none)
    (z_repr : PySem.W.nsIn K mainGlobals "repr" = some none)
    (z_sorted : PySem.W.nsIn K mainGlobals "sorted" = some none)
    (z_tuple : PySem.W.nsIn K mainGlobals "tuple" = some none)
    : ∃ fd : FuncData, (∀ (s : Shared) (u : Value), BindsTo s fd ⟨[u], []⟩ [("script", u)]) ∧ ∀ base : Heap, K.In base → base.Ns mainGlobals mg → FnG P w K mg base CX0 4 fa fd ["script"] (spD (fun ds r => f_law ds = some r) K) := by
  have e := hfa.symm.trans (PySem.W.mg_of X G a17)
  cases e
  have T : Txt K mg (fun i => match i with | 1 => f1 | 2 => f2 | 3 => f3 | 4 => f4 | 6 => f6 | 7 => f7 | 8 => f8 | 9 => f9 | 10 => f10 | 11 => f11 | 12 => f12 | 13 => f13 | 14 => f14 | 15 => f15 | 16 => f16 | _ => fa) (fun i => match i with | 1 => PySem.W.fnOf "times" "times" (defArgs (topS 1)) (defBody (topS 1)) (defScope (topS 1)) .none kV1 dc1 pm1 an1 cd1 ct1 | 2 => PySem.W.fnOf "element_of" "element_of" (defArgs (topS 2)) (defBody (topS 2)) (defScope (topS 2)) .none kV2 dc2 pm2 an2 cd2 ct2 | 3 => PySem.W.fnOf "value_of" "value_of" (defArgs (topS 3)) (defBody (topS 3)) (defScope (topS 3)) .none kV3 dc3 pm3 an3 cd3 ct3 | 4 => PySem.W.fnOf "least_logs" "least_logs" (defArgs (topS 4)) (defBody (topS 4)) (defScope (topS 4)) .none kV4 dc4 pm4 an4 cd4 ct4 | 6 => PySem.W.fnOf "_law_stream" "_law_stream" (defArgs (topS 6)) (defBody (topS 6)) (defScope (topS 6)) .none kV6 dc6 pm6 an6 cd6 ct6 | 7 => PySem.W.fnOf "_law_next" "_law_next" (defArgs (topS 7)) (defBody (topS 7)) (defScope (topS 7)) .none kV7 dc7 pm7 an7 cd7 ct7 | 8 => PySem.W.fnOf "_law_word" "_law_word" (defArgs (topS 8)) (defBody (topS 8)) (defScope (topS 8)) .none kV8 dc8 pm8 an8 cd8 ct8 | 9 => PySem.W.fnOf "_law_letters" "_law_letters" (defArgs (topS 9)) (defBody (topS 9)) (defScope (topS 9)) .none kV9 dc9 pm9 an9 cd9 ct9 | 10 => PySem.W.fnOf "_law_map" "_law_map" (defArgs (topS 10)) (defBody (topS 10)) (defScope (topS 10)) .none kV10 dc10 pm10 an10 cd10 ct10 | 11 => PySem.W.fnOf "_law_maps" "_law_maps" (defArgs (topS 11)) (defBody (topS 11)) (defScope (topS 11)) .none kV11 dc11 pm11 an11 cd11 ct11 | 12 => PySem.W.fnOf "_law_same_as" "_law_same_as" (defArgs (topS 12)) (defBody (topS 12)) (defScope (topS 12)) .none kV12 dc12 pm12 an12 cd12 ct12 | 13 => PySem.W.fnOf "_law_elements" "_law_elements" (defArgs (topS 13)) (defBody (topS 13)) (defScope (topS 13)) .none kV13 dc13 pm13 an13 cd13 ct13 | 14 => PySem.W.fnOf "_law_table" "_law_table" (defArgs (topS 14)) (defBody (topS 14)) (defScope (topS 14)) .none kV14 dc14 pm14 an14 cd14 ct14 | 15 => PySem.W.fnOf "_law_first_logs" "_law_first_logs" (defArgs (topS 15)) (defBody (topS 15)) (defScope (topS 15)) .none kV15 dc15 pm15 an15 cd15 ct15 | 16 => PySem.W.fnOf "_law_value" "_law_value" (defArgs (topS 16)) (defBody (topS 16)) (defScope (topS 16)) .none kV16 dc16 pm16 an16 cd16 ct16 | 17 => PySem.W.fnOf "law" "law" (defArgs (topS 17)) (defBody (topS 17)) (defScope (topS 17)) .none kV17 dc17 pm17 an17 cd17 ct17 | _ => PySem.W.fnOf "law" "law" (defArgs (topS 17)) (defBody (topS 17)) (defScope (topS 17)) .none kV17 dc17 pm17 an17 cd17 ct17) (fun _ => fa) := {
      F_times := fun_mk (st := topS 1) l1 c1 k1,
      g_times := PySem.W.mg_of X G a1,
      b_times := (fun_mk (st := topS 1) l1 c1 k1).binds (ps := ["table", "first", "second"]) fun _ _ _ _ _ _ us hl => match us, hl with | [_, _, _], _ => rfl,
      F_element_of := fun_mk (st := topS 2) l2 c2 k2,
      g_element_of := PySem.W.mg_of X G a2,
      b_element_of := (fun_mk (st := topS 2) l2 c2 k2).binds (ps := ["table", "letter"]) fun _ _ _ _ _ _ us hl => match us, hl with | [_, _], _ => rfl,
      F_value_of := fun_mk (st := topS 3) l3 c3 k3,
      g_value_of := PySem.W.mg_of X G a3,
      b_value_of := (fun_mk (st := topS 3) l3 c3 k3).binds (ps := ["table", "log"]) fun _ _ _ _ _ _ us hl => match us, hl with | [_, _], _ => rfl,
      F_least_logs := fun_mk (st := topS 4) l4 c4 k4,
      g_least_logs := PySem.W.mg_of X G a4,
      b_least_logs := (fun_mk (st := topS 4) l4 c4 k4).binds (ps := ["table"]) fun _ _ _ _ _ _ us hl => match us, hl with | [_], _ => rfl,
      F_l_stream := fun_mk (st := topS 6) l6 c6 k6,
      g_l_stream := PySem.W.mg_of X G a6,
      b_l_stream := (fun_mk (st := topS 6) l6 c6 k6).binds (ps := ["script"]) fun _ _ _ _ _ _ us hl => match us, hl with | [_], _ => rfl,
      F_l_next := fun_mk (st := topS 7) l7 c7 k7,
      g_l_next := PySem.W.mg_of X G a7,
      b_l_next := (fun_mk (st := topS 7) l7 c7 k7).binds (ps := ["state", "many"]) fun _ _ _ _ _ _ us hl => match us, hl with | [_, _], _ => rfl,
      F_l_word := fun_mk (st := topS 8) l8 c8 k8,
      g_l_word := PySem.W.mg_of X G a8,
      b_l_word := (fun_mk (st := topS 8) l8 c8 k8).binds (ps := ["state", "taken"]) fun _ _ _ _ _ _ us hl => match us, hl with | [_, _], _ => rfl,
      F_l_letters := fun_mk (st := topS 9) l9 c9 k9,
      g_l_letters := PySem.W.mg_of X G a9,
      b_l_letters := (fun_mk (st := topS 9) l9 c9 k9).binds (ps := ["state", "many"]) fun _ _ _ _ _ _ us hl => match us, hl with | [_, _], _ => rfl,
      F_l_map := fun_mk (st := topS 10) l10 c10 k10,
      g_l_map := PySem.W.mg_of X G a10,
      b_l_map := (fun_mk (st := topS 10) l10 c10 k10).binds (ps := ["state", "kind", "rooms"]) fun _ _ _ _ _ _ us hl => match us, hl with | [_, _, _], _ => rfl,
      F_l_maps := fun_mk (st := topS 11) l11 c11 k11,
      g_l_maps := PySem.W.mg_of X G a11,
      b_l_maps := (fun_mk (st := topS 11) l11 c11 k11).binds (ps := ["state", "most"]) fun _ _ _ _ _ _ us hl => match us, hl with | [_, _], _ => rfl,
      F_l_same_as := fun_mk (st := topS 12) l12 c12 k12,
      g_l_same_as := PySem.W.mg_of X G a12,
      b_l_same_as := (fun_mk (st := topS 12) l12 c12 k12).binds (ps := ["one", "other"]) fun _ _ _ _ _ _ us hl => match us, hl with | [_, _], _ => rfl,
      F_l_elements := fun_mk (st := topS 13) l13 c13 k13,
      g_l_elements := PySem.W.mg_of X G a13,
      b_l_elements := (fun_mk (st := topS 13) l13 c13 k13).binds (ps := ["maps", "most"]) fun _ _ _ _ _ _ us hl => match us, hl with | [_, _], _ => rfl,
      F_l_table := fun_mk (st := topS 14) l14 c14 k14,
      g_l_table := PySem.W.mg_of X G a14,
      b_l_table := (fun_mk (st := topS 14) l14 c14 k14).binds (ps := ["letters", "maps"]) fun _ _ _ _ _ _ us hl => match us, hl with | [_, _], _ => rfl,
      F_l_first_logs := fun_mk (st := topS 15) l15 c15 k15,
      g_l_first_logs := PySem.W.mg_of X G a15,
      b_l_first_logs := (fun_mk (st := topS 15) l15 c15 k15).binds (ps := ["letters", "maps"]) fun _ _ _ _ _ _ us hl => match us, hl with | [_, _], _ => rfl,
      F_l_value := fun_mk (st := topS 16) l16 c16 k16,
      g_l_value := PySem.W.mg_of X G a16,
      b_l_value := (fun_mk (st := topS 16) l16 c16 k16).binds (ps := ["found", "letters", "maps", "log"]) fun _ _ _ _ _ _ us hl => match us, hl with | [_, _, _, _], _ => rfl,
      F_law := fun_mk (st := topS 17) l17 c17 k17,
      g_law := PySem.W.mg_of X G a17,
      b_law := (fun_mk (st := topS 17) l17 c17 k17).binds (ps := ["script"]) fun _ _ _ _ _ _ us hl => match us, hl with | [_], _ => rfl,
      n_abs := PySem.W.mg_none_of X G z_abs,
      n_enumerate := PySem.W.mg_none_of X G z_enumerate,
      n_int := PySem.W.mg_none_of X G z_int,
      n_len := PySem.W.mg_none_of X G z_len,
      n_list := PySem.W.mg_none_of X G z_list,
      n_range := PySem.W.mg_none_of X G z_range,
      n_repr := PySem.W.mg_none_of X G z_repr,
      n_sorted := PySem.W.mg_none_of X G z_sorted,
      n_tuple := PySem.W.mg_none_of X G z_tuple }
  exact ⟨_, fun s u => .of_eq rfl, fun base _ _ => oklaw (P := P) (w := w) (base := base) T⟩
theorem asked (K : PySem.W.Frag) (H : Hp) (a : Addr) (ns : List Int) (hl : ns.length ≤ 63) (hS : SqL K H a (ns.map V.int)) : spD (fun ds r => f_law ds = some r) K [V.ref a] H (fun v _ => v = V.bl true) (fun _ _ _ => False) :=
  ⟨H, [.list (ns.map .int)], .dat (.bool true), Same.refl _, .cons (.lst hS (dpInts ns)) .nil, CS.law_true hl, fun v F' H' _ x => by
    cases x
    rfl⟩
end K16
open PySem PySem.W PyProof.Rows
set_option maxRecDepth 100000 in
set_option maxHeartbeats 0 in
theorem PySem.Challenge.cw_scarp_k16_values_of_logs_holds : PySem.Challenge.rw_scarp_k16_values_of_logs.Holds := by
  w_on; o_law; k_head; (case hw => w_witness2)
  k_fill
  refine DL.walkG (n := 63) (k := 4) (x := "script") (C := fun _ => L2.CX0) (sp := fun w => DL.spD (fun ds r => CS.f_law ds = some r) _) rfl (by decide) rfl ⟨rfl, by decide, by decide⟩ (fun w h Y => PySem.W.kIn_of Y) ?F (fun _ H a ns hl _ hS => K16.asked _ H a ns hl hS) (fun _ _ _ _ _ z => z)
  case F =>
    intro w mg fa h KX G hmg
    refine' K16.facts KX G hmg ?a1 ?l1 ?c1 ?k1 ?a2 ?l2 ?c2 ?k2 ?a3 ?l3 ?c3 ?k3 ?a4 ?l4 ?c4 ?k4 ?a6 ?l6 ?c6 ?k6 ?a7 ?l7 ?c7 ?k7 ?a8 ?l8 ?c8 ?k8 ?a9 ?l9 ?c9 ?k9 ?a10 ?l10 ?c10 ?k10 ?a11 ?l11 ?c11 ?k11 ?a12 ?l12 ?c12 ?k12 ?a13 ?l13 ?c13 ?k13 ?a14 ?l14 ?c14 ?k14 ?a15 ?l15 ?c15 ?k15 ?a16 ?l16 ?c16 ?k16 ?a17 ?l17 ?c17 ?k17 ?z_abs ?z_enumerate ?z_int ?z_len ?z_list ?z_range ?z_repr ?z_sorted ?z_tuple
    (case a1 => k_is)
    (case l1 => k_is)
    (case c1 => k_is)
    (case k1 => k_is)
    (case a2 => k_is)
    (case l2 => k_is)
    (case c2 => k_is)
    (case k2 => k_is)
    (case a3 => k_is)
    (case l3 => k_is)
    (case c3 => k_is)
    (case k3 => k_is)
    (case a4 => k_is)
    (case l4 => k_is)
    (case c4 => k_is)
    (case k4 => k_is)
    (case a6 => k_is)
    (case l6 => k_is)
    (case c6 => k_is)
    (case k6 => k_is)
    (case a7 => k_is)
    (case l7 => k_is)
    (case c7 => k_is)
    (case k7 => k_is)
    (case a8 => k_is)
    (case l8 => k_is)
    (case c8 => k_is)
    (case k8 => k_is)
    (case a9 => k_is)
    (case l9 => k_is)
    (case c9 => k_is)
    (case k9 => k_is)
    (case a10 => k_is)
    (case l10 => k_is)
    (case c10 => k_is)
    (case k10 => k_is)
    (case a11 => k_is)
    (case l11 => k_is)
    (case c11 => k_is)
    (case k11 => k_is)
    (case a12 => k_is)
    (case l12 => k_is)
    (case c12 => k_is)
    (case k12 => k_is)
    (case a13 => k_is)
    (case l13 => k_is)
    (case c13 => k_is)
    (case k13 => k_is)
    (case a14 => k_is)
    (case l14 => k_is)
    (case c14 => k_is)
    (case k14 => k_is)
    (case a15 => k_is)
    (case l15 => k_is)
    (case c15 => k_is)
    (case k15 => k_is)
    (case a16 => k_is)
    (case l16 => k_is)
    (case c16 => k_is)
    (case k16 => k_is)
    (case a17 => k_is)
    (case l17 => k_is)
    (case c17 => k_is)
    (case k17 => k_is)
    (case z_abs => k_is)
    (case z_enumerate => k_is)
    (case z_int => k_is)
    (case z_len => k_is)
    (case z_list => k_is)
    (case z_range => k_is)
    (case z_repr => k_is)
    (case z_sorted => k_is)
    (case z_tuple => k_is)
