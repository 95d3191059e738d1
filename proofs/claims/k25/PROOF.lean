import PyProof.Rows.All
import Wide.All
import OpenK.AllK
import Wide.FinOn
import HandS.ForMost
import HandS.ForExc
import HandS.Deep
import HandS.Flow
import HandS.TupAny
import HandS.TupMul
import HandS.IsInst
import HandS.ExcIs
import HandS.DictComp
import KE.GoesEnum
import KE.DataMinMax
import PySem.Challenge.RW_scarp_k25_splits_and_classes
set_option Elab.async false
set_option linter.all false
set_option maxRecDepth 100000
set_option maxHeartbeats 4000000

/-! data, environments: what a def's body does told over plain data -/
namespace DL
open PySem PySem.Spec PyProof.Rows L2

abbrev D := PyData
variable {K : PySem.W.Frag}

/-! ### frozen data -/
theorem rdUp {F F' : Hp} {a : Addr} {u : HO} (e : Same F F') (h : Rd F a u) : Rd F' a u := by
  rcases h with h | ⟨o, h⟩
  · exact .inl (e _ _ h)
  · exact .inr ⟨o, e _ _ h⟩
theorem slUp {F F' : Hp} {a : Addr} {xs : List V} (e : Same F F') (h : SqL K F a xs) : SqL K F' a xs := h.elim (fun h => .inl (rdUp e h)) .inr
theorem stUp {F F' : Hp} {a : Addr} {xs : List V} (e : Same F F') (h : SqT K F a xs) : SqT K F' a xs := h.elim (fun h => .inl (rdUp e h)) .inr
mutual
theorem dpUp {F F' : Hp} (e : Same F F') : ∀ {v : V} {d : D}, Dp K F v d → Dp K F' v d
  | _, _, .non => .non
  | _, _, .bl b => .bl b
  | _, _, .int i => .int i
  | _, _, .str x => .str x
  | _, _, .lst h a => .lst (slUp e h) (dpAllUp e a)
  | _, _, .tup h a => .tup (stUp e h) (dpAllUp e a)
theorem dpAllUp {F F' : Hp} (e : Same F F') : ∀ {vs : List V} {ds : List D}, DpAll K F vs ds → DpAll K F' vs ds
  | _, _, .nil => .nil
  | _, _, .cons h t => .cons (dpUp e h) (dpAllUp e t)
end
theorem dpAllLen {F : Hp} : ∀ {vs : List V} {ds : List D}, DpAll K F vs ds → vs.length = ds.length
  | _, _, .nil => rfl
  | _, _, .cons _ t => by simp [dpAllLen t]
theorem dpAllGet {F : Hp} : ∀ {vs : List V} {ds : List D} {i : Nat} {d : D}, DpAll K F vs ds → ds[i]? = some d → ∃ v, vs[i]? = some v ∧ Dp K F v d
  | _, _, _, _, .nil, e => by simp at e
  | _, _, 0, _, .cons h _, e => by simp at e; subst e; exact ⟨_, rfl, h⟩
  | _, _, i + 1, _, .cons _ t, e => by
    obtain ⟨v, h1, h2⟩ := dpAllGet (i := i) t (by simpa using e)
    exact ⟨v, by simpa using h1, h2⟩
theorem dpAllGetV {F : Hp} : ∀ {vs : List V} {ds : List D} {i : Nat} {v : V}, DpAll K F vs ds → vs[i]? = some v → ∃ d, ds[i]? = some d ∧ Dp K F v d
  | _, _, _, _, .nil, e => by simp at e
  | _, _, 0, _, .cons h _, e => by simp at e; subst e; exact ⟨_, rfl, h⟩
  | _, _, i + 1, _, .cons _ t, e => by
    obtain ⟨v, h1, h2⟩ := dpAllGetV (i := i) t (by simpa using e)
    exact ⟨v, by simpa using h1, h2⟩
theorem dpAllApp {F : Hp} : ∀ {vs ws : List V} {ds es : List D}, DpAll K F vs ds → DpAll K F ws es → DpAll K F (vs ++ ws) (ds ++ es)
  | _, _, _, _, .nil, h => h
  | _, _, _, _, .cons a t, h => .cons a (dpAllApp t h)
theorem dpAllTake {F : Hp} : ∀ {vs : List V} {ds : List D} (n : Nat), DpAll K F vs ds → DpAll K F (vs.take n) (ds.take n)
  | _, _, 0, _ => .nil
  | _, _, _ + 1, .nil => .nil
  | _, _, n + 1, .cons a t => .cons a (dpAllTake n t)
theorem dpAllDrop {F : Hp} : ∀ {vs : List V} {ds : List D} (n : Nat), DpAll K F vs ds → DpAll K F (vs.drop n) (ds.drop n)
  | _, _, 0, h => h
  | _, _, _ + 1, .nil => .nil
  | _, _, n + 1, .cons _ t => dpAllDrop n t
theorem dpAllSet {F : Hp} {v : V} {d : D} (hv : Dp K F v d) : ∀ {vs : List V} {ds : List D} (i : Nat), DpAll K F vs ds → DpAll K F (vs.set i v) (ds.set i d)
  | _, _, _, .nil => .nil
  | _, _, 0, .cons _ t => .cons hv t
  | _, _, i + 1, .cons a t => .cons a (dpAllSet hv i t)
theorem dpAllErase {F : Hp} : ∀ {vs : List V} {ds : List D} (i : Nat), DpAll K F vs ds → DpAll K F (vs.eraseIdx i) (ds.eraseIdx i)
  | _, _, _, .nil => .nil
  | _, _, 0, .cons _ t => t
  | _, _, i + 1, .cons a t => .cons a (dpAllErase i t)

/-! ### environments -/
inductive Ow where
  | lst (ds : List D)
  | lls (dss : List (List D))
  | dK (kvs : List (Key × D))
inductive Ent where
  | no
  | dat (d : D)
  | own (w : Ow)
abbrev Rho := List Ent

def KD (K : PySem.W.Frag) (F : Hp) : List (Key × V) → List (Key × D) → Prop := Paired fun p q => p.1 = q.1 ∧ Dp K F p.2 q.2
def OwRep (K : PySem.W.Frag) (F H : Hp) (a : Addr) (fp : List Addr) : Ow → Prop
  | .lst ds => fp = [a] ∧ ∃ vs, H a = some (.lst vs) ∧ DpAll K F vs ds
  | .lls dss => ∃ bs : List Addr, fp = a :: bs ∧ fp.Nodup ∧ H a = some (.lst (bs.map V.ref)) ∧ Paired (fun b ds => ∃ vs, H b = some (.lst vs) ∧ DpAll K F vs ds) bs dss
  | .dK kvs => fp = [a] ∧ ∃ xs, H a = some (.dK xs) ∧ KD K F xs kvs
theorem pairedMap {α β : Type} {R S : α → β → Prop} : ∀ {xs : List α} {ys : List β}, Paired R xs ys → (∀ x y, x ∈ xs → R x y → S x y) → Paired S xs ys
  | _, _, .nil, _ => .nil
  | _, _, .cons r t, f => .cons (f _ _ (List.mem_cons_self) r) (pairedMap t fun x y m => f x y (List.mem_cons_of_mem _ m))
theorem OwRep.up {F F' H H' : Hp} {a : Addr} {fp : List Addr} {w : Ow} (h : OwRep K F H a fp w) (e : Same F F') (k : ∀ b ∈ fp, H' b = H b) : OwRep K F' H' a fp w := by
  cases w with
  | lst ds =>
    obtain ⟨rfl, vs, h1, h2⟩ := h
    exact ⟨rfl, vs, (k a (by simp)).trans h1, dpAllUp e h2⟩
  | lls dss =>
    obtain ⟨bs, rfl, nd, h1, h2⟩ := h
    refine ⟨bs, rfl, nd, (k a (by simp)).trans h1, pairedMap h2 fun b ds m ⟨vs, q1, q2⟩ => ⟨vs, (k b (by simp [m])).trans q1, dpAllUp e q2⟩⟩
  | dK kvs =>
    obtain ⟨rfl, xs, h1, h2⟩ := h
    exact ⟨rfl, xs, (k a (by simp)).trans h1, pairedMap h2 fun p q _ r => ⟨r.1, dpUp e r.2⟩⟩

structure Cc where
  K : PySem.W.Frag
  P : List (Nat × Addr)
  W : Addr → Prop
  F0 : Hp
  B : Hp
structure SimF (c : Cc) (F H : Hp) (σ : L2.St) (ρ : Rho) (fp : Nat → List Addr) : Prop where
  f0 : Same c.F0 F
  fh : Same F H
  keep : ∀ a o, c.B a = some o → ¬ c.W a → H a = some o
  dom : ∀ a, c.B a ≠ none → H a ≠ none
  av : ∀ a, c.B a ≠ none → c.F0 a = none → F a = none
  par : ∀ (i : Nat) (a : Addr), (i, a) ∈ c.P → σ[i]? = some (some (.ref a))
  dat : ∀ (i : Nat) (d : D), ρ[i]? = some (.dat d) → ∃ v, σ[i]? = some (some v) ∧ Dp c.K F v d
  own : ∀ (i : Nat) (w : Ow), ρ[i]? = some (.own w) → ∃ a, σ[i]? = some (some (.ref a)) ∧ OwRep c.K F H a (fp i) w
  ownF : ∀ (i : Nat) (w : Ow) (b : Addr), ρ[i]? = some (.own w) → b ∈ fp i → F b = none ∧ H b ≠ none ∧ (c.B b = none ∨ c.W b)
  sep : ∀ (i j : Nat) (w w' : Ow) (b : Addr), ρ[i]? = some (.own w) → ρ[j]? = some (.own w') → b ∈ fp i → b ∈ fp j → i = j
  len : σ.length = ρ.length
  wp : ∀ (i : Nat) (w : Ow) (b : Addr), ρ[i]? = some (.own w) → b ∈ fp i → ∀ j, (j, b) ∈ c.P → j = i
  pb : ∀ j b, (j, b) ∈ c.P → c.B b ≠ none
def Sim (c : Cc) (F H : Hp) (σ : L2.St) (ρ : Rho) : Prop := ∃ fp, SimF c F H σ ρ fp

section
variable {c : Cc} {F F' H H' : Hp} {σ σ' : L2.St} {ρ ρ' : Rho} {fp : Nat → List Addr} {p : Addr} {o : HO}
theorem Sim.fh (h : Sim c F H σ ρ) : Same F H := let ⟨_, s⟩ := h; s.fh
theorem Sim.f0 (h : Sim c F H σ ρ) : Same c.F0 F := let ⟨_, s⟩ := h; s.f0
theorem Sim.len (h : Sim c F H σ ρ) : σ.length = ρ.length := let ⟨_, s⟩ := h; s.len
theorem Sim.dat (h : Sim c F H σ ρ) {i : Nat} {d : D} (e : ρ[i]? = some (.dat d)) : ∃ v, σ[i]? = some (some v) ∧ Dp c.K F v d := let ⟨_, s⟩ := h; s.dat i d e
theorem sameNew (h : H p = none) : Same H (upd H p o) := fun a u e => by
  rw [upd_ne (ne_of_none e h)]
  exact e
theorem sameUpd (e : Same F H) (h : F p = none) : Same F (upd H p o) := fun a u q => by
  rw [upd_ne (ne_of_none q h)]
  exact e a u q
theorem sameUpd2 (e : Same F H) (h : H p = some o) : Same (upd F p o) H := fun a u q => by
  by_cases z : a = p
  · subst z
    rw [upd_same] at q
    rw [h]
    exact q
  · rw [upd_ne z] at q
    exact e a u q
theorem freeF (e : Same F H) (h : H p = none) : F p = none := Same.free e h
/-- a new object that nobody knows -/
theorem Sim.heap (h : Sim c F H σ ρ) (hp : H p = none) : Sim c F (upd H p o) σ ρ := by
  obtain ⟨fp, s⟩ := h
  have np : ∀ a, H a ≠ none → a ≠ p := fun a ha z => ha (z ▸ hp)
  refine ⟨fp, s.f0, s.fh.trans (sameNew hp), fun a u q w => ?_, fun a q => ?_, s.av, s.par, s.dat, fun i w q => ?_, fun i w b q m => ?_, s.sep, s.len, s.wp, s.pb⟩
  · have := s.keep a u q w
    rw [upd_ne (np a (by simp [this]))]
    exact this
  · rw [upd_ne (np a (s.dom a q))]
    exact s.dom a q
  · obtain ⟨a, e1, e2⟩ := s.own i w q
    exact ⟨a, e1, e2.up (Same.refl _) fun b m => upd_ne (np b (s.ownF i w b q m).2.1)⟩
  · obtain ⟨e1, e2, e3⟩ := s.ownF i w b q m
    exact ⟨e1, by rw [upd_ne (np b e2)]; exact e2, e3⟩
/-- an object that is nobody's own becomes frozen -/
theorem SimF.freeze (s : SimF c F H σ ρ fp) (hp : H p = some o) (hB : c.B p = none) (no : ∀ (i : Nat) (w : Ow), ρ[i]? = some (.own w) → p ∉ fp i) (hf : F p = none) : SimF c (upd F p o) H σ ρ fp := by
  have e1 : Same F (upd F p o) := sameNew hf
  refine ⟨s.f0.trans e1, sameUpd2 s.fh hp, s.keep, s.dom, fun a q q2 => ?_, s.par, fun i d q => ?_, fun i w q => ?_, fun i w b q m => ?_, s.sep, s.len, s.wp, s.pb⟩
  · have : a ≠ p := fun z => by rw [z] at q; exact q hB
    rw [upd_ne this]
    exact s.av a q q2
  · obtain ⟨v, h1, h2⟩ := s.dat i d q
    exact ⟨v, h1, dpUp e1 h2⟩
  · obtain ⟨a, h1, h2⟩ := s.own i w q
    exact ⟨a, h1, h2.up e1 fun _ _ => rfl⟩
  · obtain ⟨h1, h2, h3⟩ := s.ownF i w b q m
    have : b ≠ p := fun z => no i w q (z ▸ m)
    exact ⟨by rw [upd_ne this]; exact h1, h2, h3⟩
/-- a new frozen object -/
theorem Sim.grow (h : Sim c F H σ ρ) (hp : H p = none) : Sim c (upd F p o) (upd H p o) σ ρ := by
  obtain ⟨fp, s⟩ := h
  obtain ⟨fp', s'⟩ := Sim.heap (o := o) ⟨fp, s⟩ hp
  -- the footprints are the old ones
  have np : ∀ a, H a ≠ none → a ≠ p := fun a ha z => ha (z ▸ hp)
  have s2 : SimF c F (upd H p o) σ ρ fp := by
    refine ⟨s.f0, s.fh.trans (sameNew hp), s'.keep, s'.dom, s.av, s.par, s.dat, fun i w q => ?_, fun i w b q m => ?_, s.sep, s.len, s.wp, s.pb⟩
    · obtain ⟨a, e1, e2⟩ := s.own i w q
      exact ⟨a, e1, e2.up (Same.refl _) fun b m => upd_ne (np b (s.ownF i w b q m).2.1)⟩
    · obtain ⟨e1, e2, e3⟩ := s.ownF i w b q m
      exact ⟨e1, by rw [upd_ne (np b e2)]; exact e2, e3⟩
  refine ⟨fp, s2.freeze upd_same ?_ (fun i w q m => (s.ownF i w p q m).2.1 hp) (freeF s.fh hp)⟩
  cases q : c.B p with
  | none => rfl
  | some u => exact absurd hp (s.dom p (by simp [q]))
/-- a slot gets data -/
theorem Sim.setDat (h : Sim c F H σ ρ) {i : Nat} {v : V} {d : D} (hv : Dp c.K F v d) (hi : i < ρ.length) (hP : ∀ a, (i, a) ∉ c.P) : Sim c F H (σ.set i (some v)) (ρ.set i (.dat d)) := by
  obtain ⟨fp, s⟩ := h
  have hi' : i < σ.length := by rw [s.len]; exact hi
  have own' : ∀ (j : Nat) (w : Ow), (ρ.set i (.dat d))[j]? = some (.own w) → j ≠ i ∧ ρ[j]? = some (.own w) := fun j w q => by
    by_cases z : j = i
    · subst z
      rw [List.getElem?_set_self hi] at q
      cases q
    · rw [List.getElem?_set_ne (Ne.symm z)] at q
      exact ⟨z, q⟩
  refine ⟨fp, s.f0, s.fh, s.keep, s.dom, s.av, fun j a m => ?_, fun j e q => ?_, fun j w q => ?_, fun j w b q m => s.ownF j w b (own' j w q).2 m, fun j k w w' b q q' => s.sep j k w w' b (own' j w q).2 (own' k w' q').2, by simpa using s.len, fun j w b q m => s.wp j w b (own' j w q).2 m, s.pb⟩
  · have z : j ≠ i := fun z => hP a (z ▸ m)
    rw [List.getElem?_set_ne (Ne.symm z)]
    exact s.par j a m
  · by_cases z : j = i
    · subst z
      rw [List.getElem?_set_self hi] at q
      cases q
      exact ⟨v, List.getElem?_set_self hi', hv⟩
    · rw [List.getElem?_set_ne (Ne.symm z)] at q ⊢
      exact s.dat j e q
  · obtain ⟨z, q'⟩ := own' j w q
    rw [List.getElem?_set_ne (Ne.symm z)]
    exact s.own j w q'
/-- forget entries -/
theorem Sim.weak (h : Sim c F H σ ρ) (hl : ρ'.length = ρ.length) (hw : ∀ i : Nat, ρ'[i]? = ρ[i]? ∨ ∀ e : Ent, ρ'[i]? = some e → e = .no) : Sim c F H σ ρ' := by
  obtain ⟨fp, s⟩ := h
  have o' : ∀ (j : Nat) (w : Ow), ρ'[j]? = some (.own w) → ρ[j]? = some (.own w) := fun j w q => (hw j).elim (fun z => z ▸ q) fun z => by cases z _ q
  have d' : ∀ (j : Nat) (d : D), ρ'[j]? = some (.dat d) → ρ[j]? = some (.dat d) := fun j d q => (hw j).elim (fun z => z ▸ q) fun z => by cases z _ q
  exact ⟨fp, s.f0, s.fh, s.keep, s.dom, s.av, s.par, fun i d q => s.dat i d (d' i d q), fun i w q => s.own i w (o' i w q), fun i w b q => s.ownF i w b (o' i w q), fun i j w w' b q q' => s.sep i j w w' b (o' i w q) (o' j w' q'), by rw [hl]; exact s.len, fun i w b q => s.wp i w b (o' i w q), s.pb⟩
end

/-! ### judgements -/
structure Gm where
  K : PySem.W.Frag
  ps : List Nat
  xe : XK
/-- no exception leaves -/
abbrev gm (K : PySem.W.Frag) (ps : List Nat) : Gm := ⟨K, ps, E0⟩
def Cc.ok (c : Cc) (g : Gm) : Prop := c.K = g.K ∧ c.P.map (·.1) = g.ps
variable {g : Gm}
/-- an operand: frozen data, or a list of one's own -/
inductive Arg where
  | d (x : D)
  | o (i : Nat)
def Arg.den (ρ : Rho) : Arg → Option D
  | .d x => some x
  | .o i => match ρ[i]? with
    | some (.own (.lst ds)) => some (.list ds)
    | _ => none
inductive ArgAt (K : PySem.W.Frag) (F : Hp) (σ : L2.St) (v : V) : Arg → Prop
  | d {x : D} : Dp K F v x → ArgAt K F σ v (.d x)
  | o {i : Nat} : σ[i]? = some (some v) → ArgAt K F σ v (.o i)
/-- an operand as the operations see it -/
def Opd (K : PySem.W.Frag) (F H : Hp) (v : V) (d : D) : Prop := Dp K F v d ∨ ∃ a vs ds, v = .ref a ∧ d = .list ds ∧ SqL K H a vs ∧ DpAll K F vs ds
inductive OpdAll (K : PySem.W.Frag) (F H : Hp) : List V → List D → Prop
  | nil : OpdAll K F H [] []
  | cons {v : V} {vs : List V} {d : D} {ds : List D} : Opd K F H v d → OpdAll K F H vs ds → OpdAll K F H (v :: vs) (d :: ds)
theorem Opd.dp {F H : Hp} {v : V} {d : D} (e : Same F H) (h : Opd K F H v d) : Dp K H v d := by
  rcases h with h | ⟨a, vs, ds, rfl, rfl, h1, h2⟩
  · exact dpUp e h
  · exact .lst h1 (dpAllUp e h2)
theorem Opd.list {F H : Hp} {v : V} {ds : List D} (e : Same F H) (h : Opd K F H v (.list ds)) : ∃ a vs, v = .ref a ∧ SqL K H a vs ∧ DpAll K F vs ds := by
  rcases h with h | ⟨a, vs, ds', rfl, q, h1, h2⟩
  · cases h with
    | lst h1 h2 => exact ⟨_, _, rfl, slUp e h1, h2⟩
  · cases q
    exact ⟨a, vs, rfl, h1, h2⟩
theorem Opd.tup {F H : Hp} {v : V} {ds : List D} (e : Same F H) (h : Opd K F H v (.tuple ds)) : ∃ a vs, v = .ref a ∧ SqT K H a vs ∧ DpAll K F vs ds := by
  rcases h with h | ⟨a, vs, ds', rfl, q, h1, h2⟩
  · cases h with
    | tup h1 h2 => exact ⟨_, _, rfl, stUp e h1, h2⟩
  · cases q
theorem Opd.int {F H : Hp} {v : V} {i : Int} (h : Opd K F H v (.int i)) : v = .int i := by
  rcases h with h | ⟨a, vs, ds', rfl, q, h1, h2⟩
  · cases h; rfl
  · cases q
theorem Opd.bl {F H : Hp} {v : V} {i : Bool} (h : Opd K F H v (.bool i)) : v = .bl i := by
  rcases h with h | ⟨a, vs, ds', rfl, q, h1, h2⟩
  · cases h; rfl
  · cases q
theorem Opd.str {F H : Hp} {v : V} {i : Str} (h : Opd K F H v (.str i)) : v = .str i := by
  rcases h with h | ⟨a, vs, ds', rfl, q, h1, h2⟩
  · cases h; rfl
  · cases q
theorem Opd.non {F H : Hp} {v : V} (h : Opd K F H v .none) : v = .non := by
  rcases h with h | ⟨a, vs, ds', rfl, q, h1, h2⟩
  · cases h; rfl
  · cases q
theorem Arg.opd {c : Cc} {F H : Hp} {σ : L2.St} {ρ : Rho} {v : V} {d : D} {A : Arg} (h : Sim c F H σ ρ) (ha : ArgAt c.K F σ v A) (hd : A.den ρ = some d) : Opd c.K F H v d := by
  cases A with
  | d x =>
    have e : x = d := Option.some.inj hd
    subst e
    cases ha with
    | d ha => exact .inl ha
  | o i =>
    replace ha : σ[i]? = some (some v) := by
      cases ha with
      | o ha => exact ha
    obtain ⟨fp, s⟩ := h
    simp only [Arg.den] at hd
    split at hd
    · rename_i ds q
      cases hd
      obtain ⟨a, e1, _, vs, e2, e3⟩ := s.own i _ q
      have e : v = .ref a := by
        have : some (some v) = some (some (V.ref a)) := ha.symm.trans e1
        simpa using this
      exact .inr ⟨a, vs, ds, e, rfl, .inl (.inl e2), e3⟩
    · cases hd
theorem ArgAt.up {K : PySem.W.Frag} {F F' : Hp} {σ : L2.St} {v : V} {A : Arg} (ha : ArgAt K F σ v A) (e : Same F F') : ArgAt K F' σ v A := by
  cases ha with
  | d h => exact .d (dpUp e h)
  | o h => exact .o h

def EvD (g : Gm) (te : TE) (ρ : Rho) (d : D) (ρ' : Rho) : Prop := ∀ (c : Cc) (F H : Hp) (σ : L2.St), c.ok g → Sim c F H σ ρ → ∀ Q : VK, (∀ v F' H', Sim c F' H' σ ρ' → Same F F' → Dp c.K F' v d → Q v H') → te σ H Q
def EvO (g : Gm) (te : TE) (ρ : Rho) (A : Arg) (ρ' : Rho) : Prop := ∀ (c : Cc) (F H : Hp) (σ : L2.St), c.ok g → Sim c F H σ ρ → ∀ Q : VK, (∀ v F' H', Sim c F' H' σ ρ' → Same F F' → ArgAt c.K F' σ v A → Q v H') → te σ H Q
/-- a new list -/
def EvN (g : Gm) (te : TE) (ρ : Rho) (ds : List D) (ρ' : Rho) : Prop := ∀ (c : Cc) (F H : Hp) (σ : L2.St), c.ok g → Sim c F H σ ρ → ∀ Q : VK,
  (∀ p vs F' H', Sim c F' H' σ ρ' → Same F F' → H' p = none → DpAll c.K F' vs ds → Q (.ref p) (upd H' p (.lst vs))) → te σ H Q
def EvT (g : Gm) (tt : TT) (ρ : Rho) (b : Bool) (ρ' : Rho) : Prop := ∀ (c : Cc) (F H : Hp) (σ : L2.St), c.ok g → Sim c F H σ ρ → ∀ Q : Bool → Hp → Prop, (∀ F' H', Sim c F' H' σ ρ' → Same F F' → Q b H') → tt σ H Q
inductive ArgsAt (K : PySem.W.Frag) (F : Hp) (σ : L2.St) : List V → List Arg → Prop
  | nil : ArgsAt K F σ [] []
  | cons {v : V} {vs : List V} {A : Arg} {As : List Arg} : ArgAt K F σ v A → ArgsAt K F σ vs As → ArgsAt K F σ (v :: vs) (A :: As)
def EvA (g : Gm) (ta : TA) (ρ : Rho) (As : List Arg) (ρ' : Rho) : Prop := ∀ (c : Cc) (F H : Hp) (σ : L2.St), c.ok g → Sim c F H σ ρ → ∀ Q : List V → Hp → Prop, (∀ vs F' H', Sim c F' H' σ ρ' → Same F F' → ArgsAt c.K F' σ vs As → Q vs H') → ta σ H Q
def dens (ρ : Rho) : List Arg → Option (List D)
  | [] => some []
  | A :: As => match A.den ρ, dens ρ As with
    | some d, some ds => some (d :: ds)
    | _, _ => none
theorem ArgsAt.opds {c : Cc} {F H : Hp} {σ : L2.St} {ρ : Rho} (h : Sim c F H σ ρ) : ∀ {vs : List V} {As : List Arg} {ds : List D}, ArgsAt c.K F σ vs As → dens ρ As = some ds → OpdAll c.K F H vs ds
  | _, _, _, .nil, e => by cases e; exact .nil
  | _, _, _, .cons a t, e => by
    unfold dens at e
    split at e
    · rename_i d ds e1 e2
      cases e
      exact .cons (Arg.opd h a e1) (ArgsAt.opds h t e2)
    · cases e
theorem ArgsAt.up {c : Cc} {F F' : Hp} {σ : L2.St} (e : Same F F') : ∀ {vs : List V} {As : List Arg}, ArgsAt c.K F σ vs As → ArgsAt c.K F' σ vs As
  | _, _, .nil => .nil
  | _, _, .cons a t => .cons (a.up e) (ArgsAt.up e t)

/-- what an operation's value may be: it stood already, or a new tuple -/
inductive Res (K : PySem.W.Frag) (F H : Hp) : V → D → Hp → Hp → Prop
  | at {v : V} {d : D} : Dp K F v d → Res K F H v d F H
  | new {p : Addr} {vs : List V} {ds : List D} : H p = none → DpAll K F vs ds → Res K F H (.ref p) (.tuple ds) (upd F p (.tup vs)) (upd H p (.tup vs))
theorem Res.sim {c : Cc} {F H F' H' : Hp} {σ : L2.St} {ρ : Rho} {v : V} {d : D} (h : Sim c F H σ ρ) (r : Res c.K F H v d F' H') : Sim c F' H' σ ρ ∧ Same F F' ∧ Dp c.K F' v d := by
  cases r with
  | «at» q => exact ⟨h, Same.refl _, q⟩
  | new hp ha =>
    rename_i p vs ds
    have e : Same F (upd F p (.tup vs)) := sameNew (freeF h.fh hp)
    exact ⟨h.grow hp, e, .tup (.inl (.inl upd_same)) (dpAllUp e ha)⟩
def R2D (K : PySem.W.Frag) (r : R2) (d e z : D) : Prop := ∀ F H x y (Q : VK), Same F H → Opd K F H x d → Opd K F H y e → (∀ v F' H', Res K F H v z F' H' → Q v H') → r x y H Q
def R1D (K : PySem.W.Frag) (r : V → Hp → VK → Prop) (d z : D) : Prop := ∀ F H x (Q : VK), Same F H → Opd K F H x d → (∀ v F' H', Res K F H v z F' H' → Q v H') → r x H Q
def RCD (K : PySem.W.Frag) (r : List V → Hp → VK → Prop) (ds : List D) (z : D) : Prop := ∀ F H xs (Q : VK), Same F H → OpdAll K F H xs ds → (∀ v F' H', Res K F H v z F' H' → Q v H') → r xs H Q
def RMD (K : PySem.W.Frag) (r : V → List V → Hp → VK → Prop) (d : D) (ds : List D) (z : D) : Prop := ∀ F H x xs (Q : VK), Same F H → Opd K F H x d → OpdAll K F H xs ds → (∀ v F' H', Res K F H v z F' H' → Q v H') → r x xs H Q
/-- .. a new list -/
def R2N (K : PySem.W.Frag) (r : R2) (d e : D) (zs : List D) : Prop := ∀ F H x y (Q : VK), Same F H → Opd K F H x d → Opd K F H y e → (∀ p vs, H p = none → DpAll K F vs zs → Q (.ref p) (upd H p (.lst vs))) → r x y H Q
def RCN (K : PySem.W.Frag) (r : List V → Hp → VK → Prop) (ds : List D) (zs : List D) : Prop := ∀ F H xs (Q : VK), Same F H → OpdAll K F H xs ds → (∀ p vs, H p = none → DpAll K F vs zs → Q (.ref p) (upd H p (.lst vs))) → r xs H Q
def RMN (K : PySem.W.Frag) (r : V → List V → Hp → VK → Prop) (d : D) (ds : List D) (zs : List D) : Prop := ∀ F H x xs (Q : VK), Same F H → Opd K F H x d → OpdAll K F H xs ds → (∀ p vs, H p = none → DpAll K F vs zs → Q (.ref p) (upd H p (.lst vs))) → r x xs H Q

section
variable {ta tb tc te : TE} {ρ ρ1 ρ2 ρ3 : Rho} {A B : Arg} {d e z : D} {r : R2} {t u : TT} {i : Nat}
theorem eo_of (h : EvD g te ρ d ρ1) : EvO g te ρ (.d d) ρ1 := fun c F H σ k s Q q => h c F H σ k s Q fun v F' H' s' e x => q v F' H' s' e (.d x)
theorem eo_own {ds : List D} (h : ρ[i]? = some (.own (.lst ds))) : EvO g (tVar i) ρ (.o i) ρ := fun c F H σ k s Q q => by
  obtain ⟨fp, sf⟩ := id s
  obtain ⟨a, e1, _⟩ := sf.own i _ h
  exact ⟨_, e1, q _ F H s (Same.refl _) (.o e1)⟩
theorem ed_var (h : ρ[i]? = some (.dat d)) : EvD g (tVar i) ρ d ρ := fun c F H σ k s Q q => by
  obtain ⟨v, e1, e2⟩ := s.dat h
  exact ⟨v, e1, q v F H s (Same.refl _) e2⟩
theorem ed_int {i : Int} : EvD g (tC (.int i)) ρ (.int i) ρ := fun c F H σ k s Q q => q _ F H s (Same.refl _) (.int i)
theorem ed_bl {i : Bool} : EvD g (tC (.bl i)) ρ (.bool i) ρ := fun c F H σ k s Q q => q _ F H s (Same.refl _) (.bl i)
theorem ed_str {i : Str} : EvD g (tC (.str i)) ρ (.str i) ρ := fun c F H σ k s Q q => q _ F H s (Same.refl _) (.str i)
theorem ed_non : EvD g (tC .non) ρ .none ρ := fun c F H σ k s Q q => q _ F H s (Same.refl _) .non
/-- a new list becomes data -/
theorem ed_ofN {ds : List D} (h : EvN g te ρ ds ρ1) : EvD g te ρ (.list ds) ρ1 := fun c F H σ k s Q q => h c F H σ k s Q fun p vs F' H' s' e hp ha => by
  have e2 := sameNew (o := .lst vs) (freeF s'.fh hp)
  exact q _ _ _ (s'.grow hp) (e.trans e2) (.lst (.inl (.inl upd_same)) (dpAllUp e2 ha))
theorem ed_op (ha : EvO g ta ρ A ρ1) (hb : EvO g tb ρ1 B ρ2) (hr : R2D g.K r d e z) (dA : A.den ρ2 = some d := by rfl) (dB : B.den ρ2 = some e := by rfl) : EvD g (tOp r ta tb) ρ z ρ2 := fun c F H σ k s Q q => by
  refine ha c F H σ k s _ fun x F1 H1 s1 e1 h1 => hb c F1 H1 σ k s1 _ fun y F2 H2 s2 e2 h2 => ?_
  have kk : c.K = g.K := k.1
  have o1 := Arg.opd s2 (h1.up e2) dA
  have o2 := Arg.opd s2 h2 dB
  rw [kk] at o1 o2
  refine hr F2 H2 x y Q s2.fh o1 o2 fun v F3 H3 rs => ?_
  rw [← kk] at rs
  obtain ⟨s3, e3, q3⟩ := rs.sim s2
  exact q v F3 H3 s3 ((e1.trans e2).trans e3) q3
theorem en_op {zs : List D} (ha : EvO g ta ρ A ρ1) (hb : EvO g tb ρ1 B ρ2) (hr : R2N g.K r d e zs) (dA : A.den ρ2 = some d := by rfl) (dB : B.den ρ2 = some e := by rfl) : EvN g (tOp r ta tb) ρ zs ρ2 := fun c F H σ k s Q q => by
  refine ha c F H σ k s _ fun x F1 H1 s1 e1 h1 => hb c F1 H1 σ k s1 _ fun y F2 H2 s2 e2 h2 => ?_
  have kk : c.K = g.K := k.1
  have o1 := Arg.opd s2 (h1.up e2) dA
  have o2 := Arg.opd s2 h2 dB
  rw [kk] at o1 o2
  refine hr F2 H2 x y Q s2.fh o1 o2 fun p vs hp ha => ?_
  exact q p vs F2 H2 s2 (e1.trans e2) hp (by rw [kk]; exact ha)
theorem ed_un {r : V → Hp → VK → Prop} (ha : EvO g ta ρ A ρ1) (hr : R1D g.K r d z) (dA : A.den ρ1 = some d := by rfl) : EvD g (tUn r ta) ρ z ρ1 := fun c F H σ k s Q q => by
  refine ha c F H σ k s _ fun x F1 H1 s1 e1 h1 => ?_
  have kk : c.K = g.K := k.1
  have o1 := Arg.opd s1 h1 dA
  rw [kk] at o1
  refine hr F1 H1 x Q s1.fh o1 fun v F3 H3 rs => ?_
  rw [← kk] at rs
  obtain ⟨s3, e3, q3⟩ := rs.sim s1
  exact q v F3 H3 s3 (e1.trans e3) q3
theorem ea_nil : EvA g tNil ρ [] ρ := fun c F H σ k s Q q => q [] F H s (Same.refl _) .nil
theorem ea_cons {tr : TA} {As : List Arg} (h : EvO g te ρ A ρ1) (hr : EvA g tr ρ1 As ρ2) : EvA g (tCons te tr) ρ (A :: As) ρ2 := fun c F H σ k s Q q =>
  h c F H σ k s _ fun v F1 H1 s1 e1 h1 => hr c F1 H1 σ k s1 _ fun vs F2 H2 s2 e2 h2 => q _ F2 H2 s2 (e1.trans e2) (.cons (h1.up e2) h2)
theorem ed_cb {r : List V → Hp → VK → Prop} {tr : TA} {As : List Arg} {ds : List D} (ha : EvA g tr ρ As ρ1) (hr : RCD g.K r ds z) (dA : dens ρ1 As = some ds := by rfl) : EvD g (tCB r tr) ρ z ρ1 := fun c F H σ k s Q q => by
  refine ha c F H σ k s _ fun xs F1 H1 s1 e1 h1 => ?_
  have kk : c.K = g.K := k.1
  have o1 := ArgsAt.opds s1 h1 dA
  rw [kk] at o1
  refine hr F1 H1 xs Q s1.fh o1 fun v F3 H3 rs => ?_
  rw [← kk] at rs
  obtain ⟨s3, e3, q3⟩ := rs.sim s1
  exact q v F3 H3 s3 (e1.trans e3) q3
theorem en_cb {r : List V → Hp → VK → Prop} {tr : TA} {As : List Arg} {ds zs : List D} (ha : EvA g tr ρ As ρ1) (hr : RCN g.K r ds zs) (dA : dens ρ1 As = some ds := by rfl) : EvN g (tCB r tr) ρ zs ρ1 := fun c F H σ k s Q q => by
  refine ha c F H σ k s _ fun xs F1 H1 s1 e1 h1 => ?_
  have kk : c.K = g.K := k.1
  have o1 := ArgsAt.opds s1 h1 dA
  rw [kk] at o1
  refine hr F1 H1 xs Q s1.fh o1 fun p vs hp ha => ?_
  exact q p vs F1 H1 s1 e1 hp (by rw [kk]; exact ha)
/-- a method of a built-in type; ty: what the receiver is -/
def TyD (T : String) : D → Prop
  | .list _ => T = "list"
  | .str _ => T = "str"
  | _ => False
theorem tyD_v {F H : Hp} {x : V} {d : D} {T : String} (e : Same F H) (h : Opd K F H x d) (ht : TyD T d) : tyV K T x H := by
  cases d with
  | list ds =>
    obtain ⟨a, vs, rfl, h1, _⟩ := h.list e
    cases (show T = "list" from ht)
    exact .inl ⟨rfl, vs, h1⟩
  | tuple ds =>
    obtain ⟨a, vs, rfl, h1, _⟩ := h.tup e
    exact ht.elim
  | str z =>
    cases h.str
    exact ht
  | none => exact ht.elim
  | bool b => exact ht.elim
  | int b => exact ht.elim
  | dict b => exact ht.elim
end
end DL

namespace DL
open PySem PySem.Spec PyProof.Rows L2
variable {K : PySem.W.Frag} {g : Gm}

/-! ### statements -/
inductive RetV where
  | dat (d : D)
  | new (w : Ow)
inductive Out where
  | nx (ρ : Rho)
  | rt (ρ : Rho) (r : RetV)
  | bk (ρ : Rho)
  | ct (ρ : Rho)
  | ex (C : Addr) (ρ : Rho)
def RetOk (c : Cc) (F H : Hp) (v : V) : RetV → Prop
  | .dat d => Dp c.K F v d
  | .new w => ∃ a fp, v = .ref a ∧ OwRep c.K F H a fp w ∧ ∀ b ∈ fp, F b = none ∧ H b ≠ none ∧ c.B b = none
structure Cc.okS (c : Cc) (g : Gm) : Prop where
  ok : c.ok g
  wp : ∀ a, c.W a → ∃ j, (j, a) ∈ c.P
structure Post (g : Gm) (c : Cc) (E : Ends) (F : Hp) (P : Out → Prop) : Prop where
  nx : ∀ ρ F' H' σ, P (.nx ρ) → Sim c F' H' σ ρ → Same F F' → E.nx σ H'
  rt : ∀ ρ F' H' σ v r, P (.rt ρ r) → Sim c F' H' σ ρ → Same F F' → RetOk c F' H' v r → E.rt v H'
  bk : ∀ ρ F' H' σ, P (.bk ρ) → Sim c F' H' σ ρ → Same F F' → E.bk σ H'
  ct : ∀ ρ F' H' σ, P (.ct ρ) → Sim c F' H' σ ρ → Same F F' → E.ct σ H'
  ex : ∀ ρ F' H' σ C, P (.ex C ρ) → Sim c F' H' σ ρ → Same F F' → g.xe (.ref C) none H'
def Sv (g : Gm) (ts : TS) (ρ : Rho) (P : Out → Prop) : Prop := ∀ (c : Cc) (F H : Hp) (σ : L2.St) (E : Ends), c.okS g → Sim c F H σ ρ → Post g c E F P → ts E σ H
theorem Post.up {c : Cc} {E : Ends} {F F' : Hp} {P : Out → Prop} (p : Post g c E F P) (e : Same F F') : Post g c E F' P :=
  ⟨fun ρ G H σ a b d => p.nx ρ G H σ a b (e.trans d), fun ρ G H σ v r a b d x => p.rt ρ G H σ v r a b (e.trans d) x, fun ρ G H σ a b d => p.bk ρ G H σ a b (e.trans d), fun ρ G H σ a b d => p.ct ρ G H σ a b (e.trans d), fun ρ G H σ C a b d => p.ex ρ G H σ C a b (e.trans d)⟩
theorem Sv.mono {ts : TS} {ρ : Rho} {P P' : Out → Prop} (h : Sv g ts ρ P) (i : ∀ o, P o → P' o) : Sv g ts ρ P' := fun c F H σ E k s p =>
  h c F H σ E k s ⟨fun ρ G H σ a => p.nx ρ G H σ (i _ a), fun ρ G H σ v r a => p.rt ρ G H σ v r (i _ a), fun ρ G H σ a => p.bk ρ G H σ (i _ a), fun ρ G H σ a => p.ct ρ G H σ (i _ a), fun ρ G H σ C a => p.ex ρ G H σ C (i _ a)⟩

/-- weaker environments: entries forgotten -/
inductive Wk : Rho → Rho → Prop
  | nil : Wk [] []
  | eq {e : Ent} {r r' : Rho} : Wk r r' → Wk (e :: r) (e :: r')
  | no {e : Ent} {r r' : Rho} : Wk r r' → Wk (e :: r) (.no :: r')
theorem Wk.refl : ∀ ρ : Rho, Wk ρ ρ
  | [] => .nil
  | _ :: r => .eq (Wk.refl r)
theorem Wk.len : ∀ {ρ ρ' : Rho}, Wk ρ ρ' → ρ'.length = ρ.length
  | _, _, .nil => rfl
  | _, _, .eq h => by simp [h.len]
  | _, _, .no h => by simp [h.len]
theorem Wk.at : ∀ {ρ ρ' : Rho}, Wk ρ ρ' → ∀ i : Nat, ρ'[i]? = ρ[i]? ∨ ∀ e : Ent, ρ'[i]? = some e → e = .no
  | _, _, .nil, i => .inl rfl
  | _, _, .eq h, 0 => .inl rfl
  | _, _, .eq h, i + 1 => by simpa using h.at i
  | _, _, .no h, 0 => .inr fun e q => by simpa using q.symm
  | _, _, .no h, i + 1 => by simpa using h.at i
theorem Sim.wk {c : Cc} {F H : Hp} {σ : L2.St} {ρ ρ' : Rho} (h : Sim c F H σ ρ) (w : Wk ρ ρ') : Sim c F H σ ρ' := h.weak w.len w.at
theorem Sv.wk {ts : TS} {ρ ρ' : Rho} {P : Out → Prop} (w : Wk ρ ρ') (h : Sv g ts ρ' P) : Sv g ts ρ P := fun c F H σ E k s p => h c F H σ E k (s.wk w) p

/-- the block's next statement -/
def Sq (g : Gm) (u : TS) (P : Out → Prop) : Out → Prop
  | .nx ρ => Sv g u ρ P
  | o => P o
theorem sv_seq {t u : TS} {ρ : Rho} {P : Out → Prop} (h : Sv g t ρ (Sq g u P)) : Sv g (tSeq t u) ρ P := fun c F H σ E k s p => by
  refine h c F H σ { E with nx := u E } k s ⟨fun ρ' F' H' σ' q s' e => ?_, fun ρ' F' H' σ' v r q s' e x => p.rt _ _ _ _ _ _ q s' e x, fun ρ' F' H' σ' q s' e => p.bk _ _ _ _ q s' e, fun ρ' F' H' σ' q s' e => p.ct _ _ _ _ q s' e, fun ρ' F' H' σ' C q s' e => p.ex _ _ _ _ _ q s' e⟩
  exact q c F' H' σ' E k s' (p.up e)
theorem sv_next {ρ : Rho} {P : Out → Prop} (h : P (.nx ρ)) : Sv g tNext ρ P := fun c F H σ E k s p => p.nx _ _ _ _ h s (Same.refl _)
theorem sv_break {ρ : Rho} {P : Out → Prop} (h : P (.bk ρ)) : Sv g tBreak ρ P := fun c F H σ E k s p => p.bk _ _ _ _ h s (Same.refl _)
theorem sv_cont {ρ : Rho} {P : Out → Prop} (h : P (.ct ρ)) : Sv g tCont ρ P := fun c F H σ E k s p => p.ct _ _ _ _ h s (Same.refl _)

/-- what ahead of a point is own is nobody else's -/
theorem notP {c : Cc} {g : Gm} (k : c.okS g) {i : Nat} (h : i ∉ g.ps) : ∀ a, (i, a) ∉ c.P := fun a m => by
  refine h ?_
  rw [← k.ok.2]
  exact List.mem_map.mpr ⟨(i, a), m, rfl⟩

/-- x = e, data -/
theorem sv_set {te : TE} {ρ ρ1 : Rho} {d : D} {i : Nat} {P : Out → Prop} (he : EvD g te ρ d ρ1) (h : P (.nx (ρ1.set i (.dat d)))) (hi : i < ρ1.length := by simp) (hp : i ∉ g.ps := by simp) : Sv g (tAsg te (gName i)) ρ P := fun c F H σ E k s p =>
  he c F H σ k.ok s _ fun v F' H' s' e x => p.nx _ _ _ _ h (s'.setDat x hi (notP k hp)) e
theorem DpAll.nilOf {F : Hp} {vs : List V} (h : DpAll K F vs []) : vs = [] := by cases h; rfl
/-- an own thing at a new place gets a name -/
theorem Sim.setOwn {c : Cc} {F H : Hp} {σ : L2.St} {ρ : Rho} (h : Sim c F H σ ρ) {i : Nat} {a : Addr} {f : List Addr} {w : Ow} (hr : OwRep c.K F H a f w) (hf : ∀ b ∈ f, F b = none ∧ H b ≠ none ∧ c.B b = none)
    (hn : ∀ fp, SimF c F H σ ρ fp → ∀ (j : Nat) (w' : Ow) b, ρ[j]? = some (.own w') → b ∈ f → b ∉ fp j) (hi : i < ρ.length) (hP : ∀ a, (i, a) ∉ c.P) : Sim c F H (σ.set i (some (.ref a))) (ρ.set i (.own w)) := by
  obtain ⟨fp, s⟩ := h
  have no := hn fp s
  have hi' : i < σ.length := by rw [s.len]; exact hi
  have own' : ∀ (j : Nat) (w' : Ow), (ρ.set i (.own w))[j]? = some (.own w') → (j = i ∧ w' = w) ∨ (j ≠ i ∧ ρ[j]? = some (.own w')) := fun j w' q => by
    by_cases z : j = i
    · subst z
      rw [List.getElem?_set_self hi] at q
      cases q
      exact .inl ⟨rfl, rfl⟩
    · rw [List.getElem?_set_ne (Ne.symm z)] at q
      exact .inr ⟨z, q⟩
  refine ⟨fun j => if j = i then f else fp j, s.f0, s.fh, s.keep, s.dom, s.av, fun j b m => ?_, fun j d q => ?_, fun j w' q => ?_, fun j w' b q m => ?_, fun j k w' w'' b q q' m m' => ?_, by simpa using s.len, fun j w' b q m k hk => ?_, s.pb⟩
  · have z : j ≠ i := fun z => hP b (z ▸ m)
    rw [List.getElem?_set_ne (Ne.symm z)]
    exact s.par j b m
  · by_cases z : j = i
    · subst z
      rw [List.getElem?_set_self hi] at q
      cases q
    · rw [List.getElem?_set_ne (Ne.symm z)] at q ⊢
      exact s.dat j d q
  · rcases own' j w' q with ⟨rfl, rfl⟩ | ⟨z, q'⟩
    · exact ⟨a, List.getElem?_set_self hi', by simpa using hr⟩
    · rw [List.getElem?_set_ne (Ne.symm z)]
      simpa [z] using s.own j w' q'
  · rcases own' j w' q with ⟨rfl, rfl⟩ | ⟨z, q'⟩
    · have m' : b ∈ f := by simpa using m
      exact ⟨(hf b m').1, (hf b m').2.1, .inl (hf b m').2.2⟩
    · exact s.ownF j w' b q' (by simpa [z] using m)
  · rcases own' j w' q with ⟨rfl, rfl⟩ | ⟨z, q1⟩
    · rcases own' k w'' q' with ⟨rfl, rfl⟩ | ⟨z', q2⟩
      · rfl
      · exact absurd (by simpa [z'] using m') (no k w'' b q2 (by simpa using m))
    · rcases own' k w'' q' with ⟨rfl, rfl⟩ | ⟨z', q2⟩
      · exact absurd (by simpa [z] using m) (no j w' b q1 (by simpa using m'))
      · exact s.sep j k w' w'' b q1 q2 (by simpa [z] using m) (by simpa [z'] using m')
  · rcases own' j w' q with ⟨rfl, rfl⟩ | ⟨z, q1⟩
    · exact absurd (hf b (by simpa using m)).2.2 (s.pb k b hk)
    · exact s.wp j w' b q1 (by simpa [z] using m) k hk
/-- x = e, a new list of one's own -/
theorem Sim.newList {c : Cc} {F H : Hp} {σ : L2.St} {ρ : Rho} (s : Sim c F H σ ρ) {p : Addr} {vs : List V} {ds : List D} {i : Nat} (hp : H p = none) (ha : DpAll c.K F vs ds) (hi : i < ρ.length) (hP : ∀ a, (i, a) ∉ c.P) :
    Sim c F (upd H p (.lst vs)) (σ.set i (some (.ref p))) (ρ.set i (.own (.lst ds))) := by
  obtain ⟨fp, sf⟩ := id s
  have np : ∀ a, H a ≠ none → a ≠ p := fun a ha z => ha (z ▸ hp)
  have hB : c.B p = none := by
    cases q : c.B p with
    | none => rfl
    | some u => exact absurd hp (sf.dom p (by simp [q]))
  have s2 : SimF c F (upd H p (.lst vs)) σ ρ fp := by
    refine ⟨sf.f0, sf.fh.trans (sameNew hp), fun a u q w => ?_, fun a q => ?_, sf.av, sf.par, sf.dat, fun i w q => ?_, fun i w b q m => ?_, sf.sep, sf.len, sf.wp, sf.pb⟩
    · have := sf.keep a u q w
      rw [upd_ne (np a (by simp [this]))]
      exact this
    · rw [upd_ne (np a (sf.dom a q))]
      exact sf.dom a q
    · obtain ⟨a, e1, e2⟩ := sf.own i w q
      exact ⟨a, e1, e2.up (Same.refl _) fun b m => upd_ne (np b (sf.ownF i w b q m).2.1)⟩
    · obtain ⟨e1, e2, e3⟩ := sf.ownF i w b q m
      exact ⟨e1, by rw [upd_ne (np b e2)]; exact e2, e3⟩
  -- the same footprints serve: argue by hand
  have hi' : i < σ.length := by rw [sf.len]; exact hi
  have own' : ∀ (j : Nat) (w' : Ow), (ρ.set i (.own (.lst ds)))[j]? = some (.own w') → (j = i ∧ w' = .lst ds) ∨ (j ≠ i ∧ ρ[j]? = some (.own w')) := fun j w' q => by
    by_cases z : j = i
    · subst z
      rw [List.getElem?_set_self hi] at q
      cases q
      exact .inl ⟨rfl, rfl⟩
    · rw [List.getElem?_set_ne (Ne.symm z)] at q
      exact .inr ⟨z, q⟩
  have no : ∀ (j : Nat) (w' : Ow), ρ[j]? = some (.own w') → p ∉ fp j := fun j w' q m => (sf.ownF j w' p q m).2.1 hp
  refine ⟨fun j => if j = i then [p] else fp j, s2.f0, s2.fh, s2.keep, s2.dom, s2.av, fun j b m => ?_, fun j d q => ?_, fun j w' q => ?_, fun j w' b q m => ?_, fun j k w' w'' b q q' m m' => ?_, by simpa using sf.len, fun j w' b q m k hk => ?_, sf.pb⟩
  · have z : j ≠ i := fun z => hP b (z ▸ m)
    rw [List.getElem?_set_ne (Ne.symm z)]
    exact s2.par j b m
  · by_cases z : j = i
    · subst z
      rw [List.getElem?_set_self hi] at q
      cases q
    · rw [List.getElem?_set_ne (Ne.symm z)] at q ⊢
      exact s2.dat j d q
  · rcases own' j w' q with ⟨rfl, rfl⟩ | ⟨z, q'⟩
    · refine ⟨p, List.getElem?_set_self hi', ?_⟩
      rw [if_pos rfl]
      exact ⟨rfl, vs, upd_same, ha⟩
    · rw [List.getElem?_set_ne (Ne.symm z)]
      simpa [z] using s2.own j w' q'
  · rcases own' j w' q with ⟨rfl, rfl⟩ | ⟨z, q'⟩
    · have m' : b = p := by simpa using m
      subst m'
      exact ⟨freeF sf.fh hp, by rw [upd_same]; simp, .inl hB⟩
    · exact s2.ownF j w' b q' (by simpa [z] using m)
  · rcases own' j w' q with ⟨rfl, rfl⟩ | ⟨z, q1⟩
    · rcases own' k w'' q' with ⟨rfl, rfl⟩ | ⟨z', q2⟩
      · rfl
      · have e : b = p := by simpa using m
        subst e
        exact absurd (by simpa [z'] using m') (no k w'' q2)
    · rcases own' k w'' q' with ⟨rfl, rfl⟩ | ⟨z', q2⟩
      · have e : b = p := by simpa using m'
        subst e
        exact absurd (by simpa [z] using m) (no j w' q1)
      · exact s2.sep j k w' w'' b q1 q2 (by simpa [z] using m) (by simpa [z'] using m')
  · rcases own' j w' q with ⟨rfl, rfl⟩ | ⟨z, q1⟩
    · have e : b = p := by simpa using m
      subst e
      exact absurd hB (sf.pb k b hk)
    · exact sf.wp j w' b q1 (by simpa [z] using m) k hk
theorem sv_setN {te : TE} {ρ ρ1 : Rho} {ds : List D} {i : Nat} {P : Out → Prop} (he : EvN g te ρ ds ρ1) (h : P (.nx (ρ1.set i (.own (.lst ds))))) (hi : i < ρ1.length := by simp) (hp : i ∉ g.ps := by simp) : Sv g (tAsg te (gName i)) ρ P := fun c F H σ E k s p =>
  he c F H σ k.ok s _ fun q vs F' H' s' e hq x => p.nx _ _ _ _ h (s'.newList hq x hi (notP k hp)) e
/-- if -/
theorem sv_if {tc : TT} {t u : TS} {ρ ρ1 : Rho} {b : Bool} {P : Out → Prop} (hc : EvT g tc ρ b ρ1) (h1 : b = true → Sv g t ρ1 P) (h2 : b = false → Sv g u ρ1 P) : Sv g (tIfS tc t u) ρ P := fun c F H σ E k s p =>
  hc c F H σ k.ok s _ fun F' H' s' e => by
    cases b with
    | true => exact h1 rfl c F' H' σ E k s' (p.up e)
    | false => exact h2 rfl c F' H' σ E k s' (p.up e)
/-- return data -/
theorem sv_ret {te : TE} {ρ ρ1 : Rho} {d : D} {P : Out → Prop} (he : EvD g te ρ d ρ1) (h : P (.rt ρ1 (.dat d))) : Sv g (tRet te) ρ P := fun c F H σ E k s p =>
  he c F H σ k.ok s _ fun v F' H' s' e x => p.rt _ _ _ _ _ _ h s' e x
theorem sv_retNone {ρ : Rho} {P : Out → Prop} (h : P (.rt ρ (.dat .none))) : Sv g tRetN ρ P := fun c F H σ E k s p => p.rt _ _ _ _ _ _ h s (Same.refl _) .non
/-- return a new list -/
theorem sv_retN {te : TE} {ρ ρ1 : Rho} {ds : List D} {P : Out → Prop} (he : EvN g te ρ ds ρ1) (h : P (.rt ρ1 (.new (.lst ds)))) : Sv g (tRet te) ρ P := fun c F H σ E k s p =>
  he c F H σ k.ok s _ fun q vs F' H' s' e hq x => p.rt _ _ _ _ _ _ h (s'.heap hq) e ⟨q, [q], rfl, ⟨rfl, vs, upd_same, x⟩, fun b m => by
    have z : b = q := by simpa using m
    subst z
    refine ⟨freeF s'.fh hq, by rw [upd_same]; simp, ?_⟩
    obtain ⟨fp, sf⟩ := s'
    cases q : c.B b with
    | none => rfl
    | some u => exact absurd hq (sf.dom b (by simp [q]))⟩
/-- return a name that holds a thing of one's own -/
theorem sv_retOwn {ρ : Rho} {w : Ow} {i : Nat} {P : Out → Prop} (he : ρ[i]? = some (.own w)) (h : P (.rt (ρ.set i .no) (.new w))) (hj : i ∉ g.ps := by simp) : Sv g (tRet (tVar i)) ρ P := fun c F H σ E k s p => by
  obtain ⟨fp, sf⟩ := id s
  obtain ⟨a, e1, e2⟩ := sf.own i w he
  refine ⟨.ref a, e1, p.rt _ F H σ _ _ h (s.weak (by simp) fun j => ?_) (Same.refl _) ⟨a, fp i, rfl, e2, fun b m => ?_⟩⟩
  · by_cases z : j = i
    · subst z
      refine .inr fun e q => ?_
      by_cases hl : j < ρ.length
      · rw [List.getElem?_set_self hl] at q
        exact (Option.some.inj q).symm
      · rw [List.getElem?_eq_none (by simpa using hl)] at q
        cases q
    · rw [List.getElem?_set_ne (Ne.symm z)]
      exact .inl rfl
  · obtain ⟨q1, q2, q3⟩ := sf.ownF i w b he m
    refine ⟨q1, q2, q3.resolve_right fun z => ?_⟩
    obtain ⟨j, hj'⟩ := k.wp b z
    have := sf.wp i w b he m j hj'
    subst this
    exact notP k hj b hj'
/-- an expression for what it does -/
theorem sv_drop {te : TE} {ρ ρ1 : Rho} {d : D} {P : Out → Prop} (he : EvD g te ρ d ρ1) (h : P (.nx ρ1)) : Sv g (tDrop te) ρ P := fun c F H σ E k s p =>
  he c F H σ k.ok s _ fun v F' H' s' e x => p.nx _ _ _ _ h s' e
end DL

namespace DL
open PySem PySem.Spec PyProof.Rows L2
variable {K : PySem.W.Frag} {g : Gm}

/-! ### tests -/
section
variable {ta tb te : TE} {t u : TT} {ρ ρ1 ρ2 : Rho} {a b : Bool} {d : D}
theorem et_test (h : EvD g te ρ (.bool b) ρ1) : EvT g (tTest te) ρ b ρ1 := fun c F H σ k s Q q => h c F H σ k s _ fun v F' H' s' e x => by
  cases x
  exact ⟨b, rfl, q F' H' s' e⟩
theorem et_B (h : EvD g te ρ (.bool b) ρ1) : EvT g (tB te) ρ b ρ1 := fun c F H σ k s Q q => h c F H σ k s _ fun v F' H' s' e x => by
  cases x
  exact ⟨b, rfl, q F' H' s' e⟩
theorem et_and (h1 : EvT g t ρ a ρ1) (h2 : a = true → EvT g u ρ1 b ρ1) : EvT g (tAnd t u) ρ (a && b) ρ1 := fun c F H σ k s Q q => h1 c F H σ k s _ fun F1 H1 s1 e1 => by
  cases a with
  | true => exact h2 rfl c F1 H1 σ k s1 Q fun F2 H2 s2 e2 => q F2 H2 s2 (e1.trans e2)
  | false => exact q F1 H1 s1 e1
theorem et_or (h1 : EvT g t ρ a ρ1) (h2 : a = false → EvT g u ρ1 b ρ1) : EvT g (tOr t u) ρ (a || b) ρ1 := fun c F H σ k s Q q => h1 c F H σ k s _ fun F1 H1 s1 e1 => by
  cases a with
  | true => exact q F1 H1 s1 e1
  | false => exact h2 rfl c F1 H1 σ k s1 Q fun F2 H2 s2 e2 => q F2 H2 s2 (e1.trans e2)
theorem et_not (h1 : EvT g t ρ a ρ1) : EvT g (tNot t) ρ (!a) ρ1 := fun c F H σ k s Q q => h1 c F H σ k s _ fun F1 H1 s1 e1 => q F1 H1 s1 e1
theorem ed_and (h1 : EvD g ta ρ (.bool a) ρ1) (h2 : a = true → EvD g tb ρ1 (.bool b) ρ1) : EvD g (tAndV ta tb) ρ (.bool (a && b)) ρ1 := fun c F H σ k s Q q => h1 c F H σ k s _ fun v F1 H1 s1 e1 x => by
  cases x
  refine ⟨a, rfl, ?_⟩
  cases a with
  | true => exact h2 rfl c F1 H1 σ k s1 Q fun v F2 H2 s2 e2 y => q v F2 H2 s2 (e1.trans e2) y
  | false => exact q _ F1 H1 s1 e1 (.bl _)
theorem ed_or (h1 : EvD g ta ρ (.bool a) ρ1) (h2 : a = false → EvD g tb ρ1 (.bool b) ρ1) : EvD g (tOrV ta tb) ρ (.bool (a || b)) ρ1 := fun c F H σ k s Q q => h1 c F H σ k s _ fun v F1 H1 s1 e1 x => by
  cases x
  refine ⟨a, rfl, ?_⟩
  cases a with
  | true => exact q _ F1 H1 s1 e1 (.bl _)
  | false => exact h2 rfl c F1 H1 σ k s1 Q fun v F2 H2 s2 e2 y => q v F2 H2 s2 (e1.trans e2) y
theorem ed_not (h1 : EvD g ta ρ (.bool a) ρ1) : EvD g (tNotV ta) ρ (.bool (!a)) ρ1 := fun c F H σ k s Q q => h1 c F H σ k s _ fun v F1 H1 s1 e1 x => by
  cases x
  exact ⟨a, rfl, q _ F1 H1 s1 e1 (.bl _)⟩
theorem ed_if (h : EvT g t ρ b ρ1) (h1 : b = true → EvD g ta ρ1 d ρ2) (h2 : b = false → EvD g tb ρ1 d ρ2) : EvD g (tIf t ta tb) ρ d ρ2 := fun c F H σ k s Q q => h c F H σ k s _ fun F1 H1 s1 e1 => by
  cases b with
  | true => exact h1 rfl c F1 H1 σ k s1 Q fun v F2 H2 s2 e2 y => q v F2 H2 s2 (e1.trans e2) y
  | false => exact h2 rfl c F1 H1 σ k s1 Q fun v F2 H2 s2 e2 y => q v F2 H2 s2 (e1.trans e2) y
theorem ed_eq {e : D} (h : EvD g te ρ d ρ1) (q : d = e) : EvD g te ρ e ρ1 := q ▸ h
theorem et_eq {e : Bool} (h : EvT g t ρ a ρ1) (q : a = e) : EvT g t ρ e ρ1 := q ▸ h
/-- is None, is not None -/
def notNone : D → Bool
  | .none => false
  | _ => true
theorem dp_non {F : Hp} {v : V} (h : Dp K F v d) : decide (v = .non) = !notNone d := by
  cases h <;> rfl
theorem ed_isN (h : EvD g ta ρ d ρ1) : EvD g (tIsN ta) ρ (.bool (!notNone d)) ρ1 := fun c F H σ k s Q q => h c F H σ k s _ fun v F1 H1 s1 e1 x => by
  rw [dp_non x]
  exact q _ F1 H1 s1 e1 (.bl _)
theorem ed_notN (h : EvD g ta ρ d ρ1) : EvD g (tNotN ta) ρ (.bool (notNone d)) ρ1 := fun c F H σ k s Q q => h c F H σ k s _ fun v F1 H1 s1 e1 x => by
  rw [dp_non x, Bool.not_not]
  exact q _ F1 H1 s1 e1 (.bl _)
/-- a < b < c -/
theorem ed_chain {tc : TE} {r r' : R2} {d e f : D} {A B C : Arg} (ha : EvO g ta ρ A ρ1) (hb : EvO g tb ρ1 B ρ2) (hr : R2D g.K r d e (.bool a)) (hc : a = true → EvO g tc ρ2 C ρ2) (hr' : a = true → R2D g.K r' e f (.bool b))
    (dA : A.den ρ2 = some d := by rfl) (dB : B.den ρ2 = some e := by rfl) (dC : C.den ρ2 = some f := by rfl) : EvD g (tChain r r' ta tb tc) ρ (.bool (a && b)) ρ2 := fun c F H σ k s Q q => by
  refine ha c F H σ k s _ fun x F1 H1 s1 e1 h1 => hb c F1 H1 σ k s1 _ fun y F2 H2 s2 e2 h2 => ?_
  have kk : c.K = g.K := k.1
  have o1 := Arg.opd s2 (h1.up e2) dA
  have o2 := Arg.opd s2 h2 dB
  rw [kk] at o1 o2
  refine hr F2 H2 x y _ s2.fh o1 o2 fun v F3 H3 rs => ?_
  rw [← kk] at rs
  obtain ⟨s3, e3, q3⟩ := rs.sim s2
  cases q3
  refine ⟨a, rfl, ?_⟩
  cases a with
  | false => exact q _ F3 H3 s3 ((e1.trans e2).trans e3) (.bl _)
  | true =>
    refine hc rfl c F3 H3 σ k s3 _ fun z F4 H4 s4 e4 h4 => ?_
    have o2' := Arg.opd s4 (h2.up (e3.trans e4)) dB
    have o3 := Arg.opd s4 h4 dC
    rw [kk] at o2' o3
    refine hr' rfl F4 H4 y z Q s4.fh o2' o3 fun v F5 H5 rs => ?_
    rw [← kk] at rs
    obtain ⟨s5, e5, q5⟩ := rs.sim s4
    exact q v F5 H5 s5 ((((e1.trans e2).trans e3).trans e4).trans e5) q5
end

/-! ### operations on data -/
section
variable {i j : Int} {d e z : D} {r r' : R2} {xs ys ds : List D}
theorem r2_or1 (h : R2D K r d e z) : R2D K (fun x y H Q => r x y H Q ∨ r' x y H Q) d e z := fun F H x y Q f a b q => .inl (h F H x y Q f a b q)
theorem r2_or2 (h : R2D K r' d e z) : R2D K (fun x y H Q => r x y H Q ∨ r' x y H Q) d e z := fun F H x y Q f a b q => .inr (h F H x y Q f a b q)
theorem r2_int {f : Int → Int → Int} : R2D K (rI0 fun i j => .int (f i j)) (.int i) (.int j) (.int (f i j)) := fun F H x y Q _ a b q => ⟨i, j, a.int, b.int, q _ F H (.at (.int _))⟩
theorem r2_intC {C : Int → Int → Prop} {f : Int → Int → Int} (hc : C i j) : R2D K (rI C fun i j => .int (f i j)) (.int i) (.int j) (.int (f i j)) := fun F H x y Q _ a b q => ⟨i, j, a.int, b.int, hc, q _ F H (.at (.int _))⟩
theorem r2_bl {f : Int → Int → Bool} : R2D K (rI0 fun i j => .bl (f i j)) (.int i) (.int j) (.bool (f i j)) := fun F H x y Q _ a b q => ⟨i, j, a.int, b.int, q _ F H (.at (.bl _))⟩
theorem r2_eqD (h1 : SeqAt.shaped d = true) (h2 : SeqAt.shaped e = true) : R2D K (rEqD K) d e (.bool (PyData.eqv d e)) := fun F H x y Q f a b q => ⟨d, e, a.dp f, b.dp f, h1, h2, q _ F H (.at (.bl _))⟩
theorem r2_neD (h1 : SeqAt.shaped d = true) (h2 : SeqAt.shaped e = true) : R2D K (rNeD K) d e (.bool (!PyData.eqv d e)) := fun F H x y Q f a b q => ⟨d, e, a.dp f, b.dp f, h1, h2, q _ F H (.at (.bl _))⟩
theorem r2_inD (h1 : SeqAt.shaped d = true) (h2 : SeqAt.shaped (.list ds) = true) : R2D K (rInD K) d (.list ds) (.bool (ds.any fun z => PyData.eqv z d)) := fun F H x y Q f a b q => ⟨d, ds, a.dp f, b.dp f, h1, h2, q _ F H (.at (.bl _))⟩
theorem r2_notInD (h1 : SeqAt.shaped d = true) (h2 : SeqAt.shaped (.list ds) = true) : R2D K (rNotInD K) d (.list ds) (.bool (!ds.any fun z => PyData.eqv z d)) := fun F H x y Q f a b q => ⟨d, ds, a.dp f, b.dp f, h1, h2, q _ F H (.at (.bl _))⟩
theorem r2_catT (hz : xs.length + ys.length ≤ sizeLine) : R2D K (rCatA K) (.tuple xs) (.tuple ys) (.tuple (xs ++ ys)) := fun F H x y Q f a b q => by
  obtain ⟨p1, v1, rfl, h1, k1⟩ := a.tup f
  obtain ⟨p2, v2, rfl, h2, k2⟩ := b.tup f
  have l1 := dpAllLen k1
  have l2 := dpAllLen k2
  refine ⟨p1, p2, v1, v2, rfl, rfl, h1, h2, by omega, fun e1 => ?_, fun _ e2 => ?_, fun _ _ p hp => q _ _ _ (.new hp (dpAllApp k1 k2))⟩
  · subst e1
    cases k1
    exact q _ F H (.at (b.elim id fun ⟨_, _, _, _, z, _⟩ => by cases z))
  · subst e2
    cases k2
    rw [List.append_nil] at q
    exact q _ F H (.at (a.elim id fun ⟨_, _, _, _, z, _⟩ => by cases z))
theorem atI_dp {F : Hp} {vs : List V} (h : DpAll K F vs ds) (hd : atI ds i = some d) : ∃ v, atI vs i = some v ∧ Dp K F v d := by
  unfold atI at hd ⊢
  rw [dpAllLen h]
  cases q : ixN ds.length i with
  | none => rw [q] at hd; cases hd
  | some j =>
    rw [q] at hd
    exact dpAllGet h hd
theorem r2_ixL (hd : atI ds i = some d) : R2D K (rIxL K) (.list ds) (.int i) d := fun F H x y Q f a b q => by
  obtain ⟨p, vs, rfl, h1, k1⟩ := a.list f
  obtain ⟨v, e1, e2⟩ := atI_dp k1 hd
  exact ⟨p, vs, i, v, rfl, b.int, h1, e1, q _ F H (.at e2)⟩
theorem r2_ixT (hd : atI ds i = some d) : R2D K (rIxT K) (.tuple ds) (.int i) d := fun F H x y Q f a b q => by
  obtain ⟨p, vs, rfl, h1, k1⟩ := a.tup f
  obtain ⟨v, e1, e2⟩ := atI_dp k1 hd
  exact ⟨p, vs, i, v, rfl, b.int, h1, e1, q _ F H (.at e2)⟩
theorem r2_ixS {z : Str} {cp : Nat} (hl : z.length ≤ sizeLine) (hd : atI z.cps.toList i = some cp) : R2D K rIxS (.str z) (.int i) (.str ⟨#[cp]⟩) := fun F H x y Q f a b q => ⟨z, i, cp, a.str, b.int, hl, hd, q _ F H (.at (.str _))⟩
theorem rx_L (hd : atI ds i = some d) : R2D K (rIx K) (.list ds) (.int i) d := r2_or1 (r2_ixL hd)
theorem rx_T (hd : atI ds i = some d) : R2D K (rIx K) (.tuple ds) (.int i) d := r2_or2 (r2_or1 (r2_ixT hd))
theorem rx_S {z : Str} {cp : Nat} (hl : z.length ≤ sizeLine) (hd : atI z.cps.toList i = some cp) : R2D K (rIx K) (.str z) (.int i) (.str ⟨#[cp]⟩) := r2_or2 (r2_or2 (r2_ixS hl hd))
theorem ru_neg : R1D K (rU fun i => .int (-i)) (.int i) (.int (-i)) := fun F H x Q f a q => ⟨i, a.int, q _ F H (.at (.int _))⟩
theorem OpdAll.one {F H : Hp} {vs : List V} (h : OpdAll K F H vs [d]) : ∃ v, vs = [v] ∧ Opd K F H v d := by
  cases h with
  | cons a t => cases t; exact ⟨_, rfl, a⟩
theorem OpdAll.two {F H : Hp} {vs : List V} (h : OpdAll K F H vs [d, e]) : ∃ v w, vs = [v, w] ∧ Opd K F H v d ∧ Opd K F H w e := by
  cases h with
  | cons a t =>
    cases t with
    | cons b t => cases t; exact ⟨_, _, rfl, a, b⟩
def rLen (K : PySem.W.Frag) : List V → Hp → VK → Prop := fun xs H Q => ∃ p ys, xs = [.ref p] ∧ (SqL K H p ys ∨ SqT K H p ys) ∧ Q (.int ys.length) H
theorem cr_len {X : Cx} : CallR X (.builtin "len") (rLen X.K) := call_len_seq
theorem rc_lenL : RCD K (rLen K) [.list ds] (.int ds.length) := fun F H xs Q f a q => by
  obtain ⟨v, rfl, a1⟩ := a.one
  clear a
  have a := a1
  obtain ⟨p, vs, rfl, h1, k1⟩ := a.list f
  exact ⟨p, vs, rfl, .inl h1, by rw [dpAllLen k1]; exact q _ F H (.at (.int _))⟩
theorem rc_lenT : RCD K (rLen K) [.tuple ds] (.int ds.length) := fun F H xs Q f a q => by
  obtain ⟨v, rfl, a1⟩ := a.one
  clear a
  have a := a1
  obtain ⟨p, vs, rfl, h1, k1⟩ := a.tup f
  exact ⟨p, vs, rfl, .inr h1, by rw [dpAllLen k1]; exact q _ F H (.at (.int _))⟩
def rAbs : List V → Hp → VK → Prop := fun xs H Q => ∃ i, xs = [.int i] ∧ Q (.int (if i < 0 then -i else i)) H
theorem cr_abs {X : Cx} : CallR X (.builtin "abs") rAbs := call_abs
theorem rc_abs : RCD K rAbs [.int i] (.int (if i < 0 then -i else i)) := fun F H xs Q f a q => by
  obtain ⟨v, rfl, a1⟩ := a.one
  clear a
  have a := a1
  exact ⟨i, by rw [a.int], q _ F H (.at (.int _))⟩
def rInt1 : List V → Hp → VK → Prop := fun xs H Q => (∃ i, xs = [.int i] ∧ Q (.int i) H) ∨ ∃ k, xs = [.bl k] ∧ Q (.int (if k then 1 else 0)) H
theorem cr_int {X : Cx} : CallR X (.type "int") rInt1 := call_int1
theorem rc_int : RCD K rInt1 [.int i] (.int i) := fun F H xs Q f a q => by
  obtain ⟨v, rfl, a1⟩ := a.one
  clear a
  have a := a1
  exact .inl ⟨i, by rw [a.int], q _ F H (.at (.int _))⟩
theorem rc_intB {b : Bool} : RCD K rInt1 [.bool b] (.int (if b then 1 else 0)) := fun F H xs Q f a q => by
  obtain ⟨v, rfl, a1⟩ := a.one
  clear a
  have a := a1
  exact .inr ⟨b, by rw [a.bl], q _ F H (.at (.int _))⟩
def rTuple (K : PySem.W.Frag) : List V → Hp → VK → Prop := fun xs H Q => ∃ p ys, xs = [.ref p] ∧ ((SqL K H p ys ∧ ∀ l, H l = none → Q (.ref l) (upd H l (.tup ys))) ∨ (SqT K H p ys ∧ Q (.ref p) H))
theorem cr_tuple {X : Cx} : CallR X (.type "tuple") (rTuple X.K) := call_tuple_of
theorem rc_tupL : RCD K (rTuple K) [.list ds] (.tuple ds) := fun F H xs Q f a q => by
  obtain ⟨v, rfl, a1⟩ := a.one
  clear a
  have a := a1
  obtain ⟨p, vs, rfl, h1, k1⟩ := a.list f
  exact ⟨p, vs, rfl, .inl ⟨h1, fun l hl => q _ _ _ (.new hl k1)⟩⟩
def rList (K : PySem.W.Frag) : List V → Hp → VK → Prop := fun xs H Q => ∃ p ys, xs = [.ref p] ∧ (SqL K H p ys ∨ SqT K H p ys) ∧ ∀ l, H l = none → Q (.ref l) (upd H l (.lst ys))
theorem cr_list {X : Cx} : CallR X (.type "list") (rList X.K) := call_list_of
theorem rc_listL : RCN K (rList K) [.list ds] ds := fun F H xs Q f a q => by
  obtain ⟨v, rfl, a1⟩ := a.one
  clear a
  have a := a1
  obtain ⟨p, vs, rfl, h1, k1⟩ := a.list f
  exact ⟨p, vs, rfl, .inl h1, fun l hl => q l vs hl k1⟩
theorem rc_listT : RCN K (rList K) [.tuple ds] ds := fun F H xs Q f a q => by
  obtain ⟨v, rfl, a1⟩ := a.one
  clear a
  have a := a1
  obtain ⟨p, vs, rfl, h1, k1⟩ := a.tup f
  exact ⟨p, vs, rfl, .inr h1, fun l hl => q l vs hl k1⟩
theorem dp_bools {F : Hp} : ∀ {vs : List V} {bs : List Bool}, DpAll K F vs (bs.map .bool) → vs = bs.map .bl
  | _, [], .nil => rfl
  | _, b :: bs, .cons h t => by
    cases h
    rw [dp_bools t]
    rfl
theorem dp_ints {F : Hp} : ∀ {vs : List V} {ns : List Int}, DpAll K F vs (ns.map .int) → vs = ns.map .int
  | _, [], .nil => rfl
  | _, b :: bs, .cons h t => by
    cases h
    rw [dp_ints t]
    rfl
theorem dp_strs {F : Hp} : ∀ {vs : List V} {ns : List Str}, DpAll K F vs (ns.map .str) → vs = ns.map .str
  | _, [], .nil => rfl
  | _, b :: bs, .cons h t => by
    cases h
    rw [dp_strs t]
    rfl
theorem dpInts {F : Hp} : ∀ ns : List Int, DpAll K F (ns.map .int) (ns.map .int)
  | [] => .nil
  | n :: ns => .cons (.int n) (dpInts ns)
theorem rc_all {bs : List Bool} : RCD K (rAll K) [.list (bs.map .bool)] (.bool (bs.all id)) := fun F H xs Q f a q => by
  obtain ⟨v, rfl, a1⟩ := a.one
  clear a
  have a := a1
  obtain ⟨p, vs, rfl, h1, k1⟩ := a.list f
  rw [dp_bools k1] at h1
  exact ⟨p, bs, rfl, h1, q _ F H (.at (.bl _))⟩
theorem rc_any {bs : List Bool} : RCD K (rAny K) [.list (bs.map .bool)] (.bool (bs.any id)) := fun F H xs Q f a q => by
  obtain ⟨v, rfl, a1⟩ := a.one
  clear a
  have a := a1
  obtain ⟨p, vs, rfl, h1, k1⟩ := a.list f
  rw [dp_bools k1] at h1
  exact ⟨p, bs, rfl, h1, q _ F H (.at (.bl _))⟩
end

/-! ### displays -/
section
variable {ta : TA} {ρ ρ1 : Rho}
/-- the arguments are frozen data -/
def datas : List Arg → Option (List D)
  | [] => some []
  | .d x :: As => match datas As with
    | some ds => some (x :: ds)
    | none => none
  | .o _ :: _ => none
theorem ArgsAt.datas {F : Hp} {σ : L2.St} : ∀ {vs : List V} {As : List Arg} {ds : List D}, ArgsAt K F σ vs As → DL.datas As = some ds → DpAll K F vs ds
  | _, _, _, .nil, e => by cases e; exact .nil
  | _, .d x :: As, _, .cons (.d a) t, e => by
    unfold DL.datas at e
    split at e
    · rename_i ds e2
      cases e
      exact .cons a (ArgsAt.datas t e2)
    · cases e
  | _, .o _ :: _, _, .cons (.o a) t, e => by cases e
theorem argsLen {F : Hp} {σ : L2.St} : ∀ {vs : List V} {As : List Arg}, ArgsAt K F σ vs As → vs.length = As.length
  | _, _, .nil => rfl
  | _, _, .cons _ t => by simp [argsLen t]
theorem ed_tup {As : List Arg} {ds : List D} (h : EvA g ta ρ As ρ1) (hd : datas As = some ds := by rfl) (hz : ds.length ≤ sizeLine := by decide) : EvD g (tTup ta) ρ (.tuple ds) ρ1 := fun c F H σ k s Q q =>
  h c F H σ k s _ fun vs F1 H1 s1 e1 h1 => by
    have a := h1.datas hd
    refine ⟨by rw [dpAllLen a]; exact hz, fun p hp => ?_⟩
    have e2 : Same F1 (upd F1 p (.tup vs)) := sameNew (freeF s1.fh hp)
    exact q _ _ _ (s1.grow hp) (e1.trans e2) (.tup (.inl (.inl upd_same)) (dpAllUp e2 a))
theorem en_lst {As : List Arg} {ds : List D} (h : EvA g ta ρ As ρ1) (hd : datas As = some ds := by rfl) (hz : ds.length ≤ sizeLine := by decide) : EvN g (tLst ta) ρ ds ρ1 := fun c F H σ k s Q q =>
  h c F H σ k s _ fun vs F1 H1 s1 e1 h1 => by
    have a := h1.datas hd
    exact ⟨by rw [dpAllLen a]; exact hz, fun p hp => q p vs F1 H1 s1 e1 hp a⟩
end

/-! ### slices -/
def EvP (g : Gm) (to : TO) (ρ : Rho) (o : Option Int) (ρ' : Rho) : Prop := ∀ (c : Cc) (F H : Hp) (σ : L2.St), c.ok g → Sim c F H σ ρ → ∀ Q : Option Int → Hp → Prop, (∀ F' H', Sim c F' H' σ ρ' → Same F F' → Q o H') → to σ H Q
theorem ep_no {ρ : Rho} : EvP g tNoPart ρ none ρ := fun c F H σ k s Q q => q F H s (Same.refl _)
theorem ep_some {te : TE} {ρ ρ1 : Rho} {i : Int} (h : EvD g te ρ (.int i) ρ1) : EvP g (tPart te) ρ (some i) ρ1 := fun c F H σ k s Q q => h c F H σ k s _ fun v F1 H1 s1 e1 x => by
  cases x
  exact ⟨i, rfl, q F1 H1 s1 e1⟩
def RSD (K : PySem.W.Frag) (r : V → Option Int → Option Int → Hp → VK → Prop) (d : D) (lo hi : Option Int) (z : D) : Prop := ∀ F H x (Q : VK), Same F H → Opd K F H x d → (∀ v F' H', Res K F H v z F' H' → Q v H') → r x lo hi H Q
def RSN (K : PySem.W.Frag) (r : V → Option Int → Option Int → Hp → VK → Prop) (d : D) (lo hi : Option Int) (zs : List D) : Prop := ∀ F H x (Q : VK), Same F H → Opd K F H x d → (∀ p vs, H p = none → DpAll K F vs zs → Q (.ref p) (upd H p (.lst vs))) → r x lo hi H Q
section
variable {te : TE} {tl th : TO} {ρ ρ1 ρ2 ρ3 : Rho} {lo hi : Option Int} {d z : D} {A : Arg} {r : V → Option Int → Option Int → Hp → VK → Prop}
theorem ed_sl (ha : EvO g te ρ A ρ1) (hl : EvP g tl ρ1 lo ρ2) (hh : EvP g th ρ2 hi ρ3) (hr : RSD g.K r d lo hi z) (dA : A.den ρ3 = some d := by rfl) : EvD g (tSl r te tl th) ρ z ρ3 := fun c F H σ k s Q q =>
  ha c F H σ k s _ fun x F1 H1 s1 e1 h1 => hl c F1 H1 σ k s1 _ fun F2 H2 s2 e2 => hh c F2 H2 σ k s2 _ fun F3 H3 s3 e3 => by
    have kk : c.K = g.K := k.1
    have o := Arg.opd s3 (h1.up (e2.trans e3)) dA
    rw [kk] at o
    refine hr F3 H3 x Q s3.fh o fun v F4 H4 rs => ?_
    rw [← kk] at rs
    obtain ⟨s4, e4, q4⟩ := rs.sim s3
    exact q v F4 H4 s4 (((e1.trans e2).trans e3).trans e4) q4
theorem en_sl {zs : List D} (ha : EvO g te ρ A ρ1) (hl : EvP g tl ρ1 lo ρ2) (hh : EvP g th ρ2 hi ρ3) (hr : RSN g.K r d lo hi zs) (dA : A.den ρ3 = some d := by rfl) : EvN g (tSl r te tl th) ρ zs ρ3 := fun c F H σ k s Q q =>
  ha c F H σ k s _ fun x F1 H1 s1 e1 h1 => hl c F1 H1 σ k s1 _ fun F2 H2 s2 e2 => hh c F2 H2 σ k s2 _ fun F3 H3 s3 e3 => by
    have kk : c.K = g.K := k.1
    have o := Arg.opd s3 (h1.up (e2.trans e3)) dA
    rw [kk] at o
    exact hr F3 H3 x Q s3.fh o fun p vs hp a => q p vs F3 H3 s3 ((e1.trans e2).trans e3) hp (by rw [kk]; exact a)
end
def cutD (xs : List D) (lo hi : Option Int) : List D := (xs.drop (HT.sIx xs.length 0 lo)).take (HT.sIx xs.length xs.length hi - HT.sIx xs.length 0 lo)
theorem dp_cut {F : Hp} {vs : List V} {ds : List D} (h : DpAll K F vs ds) (lo hi : Option Int) : DpAll K F (cutV vs lo hi) (cutD ds lo hi) := by
  unfold cutV cutD
  rw [dpAllLen h]
  exact dpAllTake _ (dpAllDrop _ h)
theorem rs_tup {ds : List D} {lo hi : Option Int} : RSD K (rSlA K) (.tuple ds) lo hi (.tuple (cutD ds lo hi)) := fun F H x Q f a q => by
  obtain ⟨p, vs, rfl, h1, k1⟩ := a.tup f
  have hl := dpAllLen k1
  refine ⟨p, vs, rfl, h1, fun ⟨e1, e2⟩ => ?_, fun _ l hl => q _ _ _ (.new hl (dp_cut k1 lo hi))⟩
  rw [hl] at e1 e2
  have e : cutD ds lo hi = ds := by
    unfold cutD
    rw [e1, e2]
    simp
  rw [e] at q
  exact q _ F H (.at (a.elim id fun ⟨_, _, _, _, z, _⟩ => by cases z))
theorem rs_list {ds : List D} {lo hi : Option Int} : RSN K (rSlL K) (.list ds) lo hi (cutD ds lo hi) := fun F H x Q f a q => by
  obtain ⟨p, vs, rfl, h1, k1⟩ := a.list f
  exact ⟨p, vs, rfl, h1, fun l hl => q l _ hl (dp_cut k1 lo hi)⟩
end DL

namespace DL
open PySem PySem.Spec PyProof.Rows L2
variable {K : PySem.W.Frag} {g : Gm}

/-! ### own lists changed -/
/-- the object of an own list is another list now -/
theorem Sim.setLst {c : Cc} {F H : Hp} {σ : L2.St} {ρ : Rho} (s : Sim c F H σ ρ) {i : Nat} {ds ds' : List D} {a : Addr} {vs' : List V} (he : ρ[i]? = some (.own (.lst ds))) (hσ : σ[i]? = some (some (.ref a))) (ha : DpAll c.K F vs' ds') :
    Sim c F (upd H a (.lst vs')) σ (ρ.set i (.own (.lst ds'))) := by
  obtain ⟨fp, s⟩ := s
  obtain ⟨a', e1, e2, vs, e3, e4⟩ := s.own i _ he
  have ea : a' = a := by
    rw [hσ] at e1
    cases e1
    rfl
  subst ea
  have m0 : a' ∈ fp i := by rw [e2]; simp
  have hi : i < ρ.length := (List.getElem?_eq_some_iff.mp he).1
  obtain ⟨q1, q2, q3⟩ := s.ownF i _ a' he m0
  have own' : ∀ (j : Nat) (w' : Ow), (ρ.set i (.own (.lst ds')))[j]? = some (.own w') → (j = i ∧ w' = .lst ds') ∨ (j ≠ i ∧ ρ[j]? = some (.own w')) := fun j w' q => by
    by_cases z : j = i
    · subst z
      rw [List.getElem?_set_self hi] at q
      cases q
      exact .inl ⟨rfl, rfl⟩
    · rw [List.getElem?_set_ne (Ne.symm z)] at q
      exact .inr ⟨z, q⟩
  have old : ∀ (j : Nat) (w' : Ow), (ρ.set i (.own (.lst ds')))[j]? = some (.own w') → ∃ w0, ρ[j]? = some (.own w0) := fun j w' q => by
    rcases own' j w' q with ⟨rfl, _⟩ | ⟨_, q⟩
    · exact ⟨_, he⟩
    · exact ⟨_, q⟩
  refine ⟨fp, s.f0, sameUpd s.fh q1, fun b u q w => ?_, fun b q => ?_, s.av, s.par, fun j d q => ?_, fun j w q => ?_, fun j w b q m => ?_, fun j k w w' b q q' m m' => ?_, by simpa using s.len, fun j w b q m k hk => ?_, s.pb⟩
  · have z : b ≠ a' := fun z => by
      subst z
      rcases q3 with q3 | q3
      · rw [q3] at q; cases q
      · exact w q3
    rw [upd_ne z]
    exact s.keep b u q w
  · by_cases z : b = a'
    · rw [z, upd_same]; simp
    · rw [upd_ne z]; exact s.dom b q
  · by_cases z : j = i
    · subst z
      rw [List.getElem?_set_self hi] at q
      cases q
    · rw [List.getElem?_set_ne (Ne.symm z)] at q
      exact s.dat j d q
  · rcases own' j w q with ⟨rfl, rfl⟩ | ⟨z, q⟩
    · exact ⟨a', e1, e2, vs', upd_same, ha⟩
    · obtain ⟨b, k1, k2⟩ := s.own j w q
      refine ⟨b, k1, k2.up (Same.refl _) fun x m => upd_ne fun e => ?_⟩
      subst e
      exact z (s.sep j i w _ x q he m m0)
  · obtain ⟨w0, q0⟩ := old j w q
    obtain ⟨k1, k2, k3⟩ := s.ownF j w0 b q0 m
    refine ⟨k1, ?_, k3⟩
    by_cases z : b = a'
    · rw [z, upd_same]; simp
    · rw [upd_ne z]; exact k2
  · obtain ⟨w0, q0⟩ := old j w q
    obtain ⟨w1, q1⟩ := old k w' q'
    exact s.sep j k w0 w1 b q0 q1 m m'
  · obtain ⟨w0, q0⟩ := old j w q
    exact s.wp j w0 b q0 m k hk
theorem Sim.lstAt {c : Cc} {F H : Hp} {σ : L2.St} {ρ : Rho} (s : Sim c F H σ ρ) {i : Nat} {ds : List D} (he : ρ[i]? = some (.own (.lst ds))) : ∃ a vs, σ[i]? = some (some (.ref a)) ∧ H a = some (.lst vs) ∧ F a = none ∧ DpAll c.K F vs ds := by
  obtain ⟨fp, s⟩ := s
  obtain ⟨a, e1, e2, vs, e3, e4⟩ := s.own i _ he
  exact ⟨a, vs, e1, e3, (s.ownF i _ a he (by rw [e2]; simp)).1, e4⟩
theorem some_inj2 {σ : L2.St} {i : Nat} {a b : Addr} (h1 : σ[i]? = some (some (.ref a))) (h2 : σ[i]? = some (some (.ref b))) : a = b := by
  rw [h1] at h2
  cases h2
  rfl
section
variable {te ti : TE} {ρ ρ1 ρ2 : Rho} {d : D} {ds ds0 : List D} {i : Nat} {P : Out → Prop}
/-- x.append(e) -/
theorem sv_append (h0 : ρ[i]? = some (.own (.lst ds0))) (he : EvD g te ρ d ρ1) (h1 : ρ1[i]? = some (.own (.lst ds))) (hz : ds.length < sizeLine) (h : P (.nx (ρ1.set i (.own (.lst (ds ++ [d])))))) :
    Sv g (tDrop (tBM g.K "list" rAppend (tVar i) (tCons te tNil))) ρ P := fun c F H σ E k s p => by
  obtain ⟨a, vs, e1, e2, e3, e4⟩ := s.lstAt h0
  refine ⟨.ref a, e1, .inl ⟨rfl, vs, .inl (.inl e2)⟩, he c F H σ k.ok s _ fun v F1 H1 s1 q1 x => ?_⟩
  obtain ⟨b, ws, f1, f2, f3, f4⟩ := s1.lstAt h1
  have := some_inj2 e1 f1
  subst this
  refine ⟨a, ws, v, rfl, rfl, f2, by rw [dpAllLen f4]; exact hz, ?_⟩
  exact p.nx _ _ _ _ h (s1.setLst h1 f1 (dpAllApp f4 (.cons x .nil))) q1
/-- x[e] = e' -/
theorem sv_setItem {j : Nat} {n : Int} (he : EvD g te ρ d ρ1) (hi : EvD g ti ρ1 (.int n) ρ2) (h0 : ρ1[i]? = some (.own (.lst ds0))) (h1 : ρ2[i]? = some (.own (.lst ds))) (hj : ixN ds.length n = some j) (h : P (.nx (ρ2.set i (.own (.lst (ds.set j d)))))) :
    Sv g (tAsg te (gSub (tVar i) ti rSetL)) ρ P := fun c F H σ E k s p => by
  refine he c F H σ k.ok s _ fun v F1 H1 s1 q1 x => ?_
  obtain ⟨a, vs, e1, e2, e3, e4⟩ := s1.lstAt h0
  refine ⟨.ref a, e1, hi c F1 H1 σ k.ok s1 _ fun w F2 H2 s2 q2 y => ?_⟩
  cases y
  obtain ⟨b, ws, f1, f2, f3, f4⟩ := s2.lstAt h1
  have := some_inj2 e1 f1
  subst this
  refine ⟨a, ws, n, j, rfl, rfl, f2, by rw [dpAllLen f4]; exact hj, ?_⟩
  exact p.nx _ _ _ _ h (s2.setLst h1 f1 (dpAllSet (dpUp q2 x) j f4)) (q1.trans q2)
/-- an own list is looked at as data from here on -/
theorem Sim.frz {c : Cc} {F H : Hp} {σ : L2.St} (s : Sim c F H σ ρ) (h0 : ρ[i]? = some (.own (.lst ds))) (hP : ∀ (a : Addr), (i, a) ∉ c.P) (hW : ∀ a, c.W a → ∃ j, (j, a) ∈ c.P) : ∃ F', Same F F' ∧ Sim c F' H σ (ρ.set i (.dat (.list ds))) := by
  obtain ⟨a, vs, e1, e2, e3, e4⟩ := s.lstAt h0
  obtain ⟨fp, sf⟩ := id s
  obtain ⟨b, e1', e2', _⟩ := sf.own i _ h0
  have := some_inj2 e1 e1'
  subst this
  have m : a ∈ fp i := by rw [e2']; simp
  have hi : i < ρ.length := (List.getElem?_eq_some_iff.mp h0).1
  have hB : c.B a = none := by
    rcases (sf.ownF i _ a h0 m).2.2 with q | q
    · exact q
    · obtain ⟨j, hj⟩ := hW a q
      have := sf.wp i _ a h0 m j hj
      subst this
      exact absurd hj (hP a)
  have s1 : SimF c F H σ (ρ.set i .no) fp := by
    have o' : ∀ (j : Nat) (w : Ow), (ρ.set i .no)[j]? = some (.own w) → j ≠ i ∧ ρ[j]? = some (.own w) := fun j w q => by
      by_cases z : j = i
      · subst z; rw [List.getElem?_set_self hi] at q; cases q
      · rw [List.getElem?_set_ne (Ne.symm z)] at q; exact ⟨z, q⟩
    have d' : ∀ (j : Nat) (d : D), (ρ.set i .no)[j]? = some (.dat d) → ρ[j]? = some (.dat d) := fun j w q => by
      by_cases z : j = i
      · subst z; rw [List.getElem?_set_self hi] at q; cases q
      · rw [List.getElem?_set_ne (Ne.symm z)] at q; exact q
    exact ⟨sf.f0, sf.fh, sf.keep, sf.dom, sf.av, sf.par, fun j d q => sf.dat j d (d' j d q), fun j w q => sf.own j w (o' j w q).2, fun j w b q => sf.ownF j w b (o' j w q).2, fun j k w w' b q q' => sf.sep j k w w' b (o' j w q).2 (o' k w' q').2, by simpa using sf.len, fun j w b q => sf.wp j w b (o' j w q).2, sf.pb⟩
  have s2 := s1.freeze e2 hB (fun j w q m' => by
    by_cases z : j = i
    · subst z; rw [List.getElem?_set_self hi] at q; cases q
    · rw [List.getElem?_set_ne (Ne.symm z)] at q
      exact z (sf.sep j i w _ a q h0 m' m)) e3
  have e5 : Same F (upd F a (.lst vs)) := sameNew e3
  refine ⟨_, e5, ?_⟩
  have s3 : Sim c (upd F a (.lst vs)) H σ (ρ.set i .no) := ⟨fp, s2⟩
  have s4 := s3.setDat (i := i) (v := .ref a) (d := .list ds) (.lst (.inl (.inl upd_same)) (dpAllUp e5 e4)) (by simpa using hi) hP
  have e6 : σ.set i (some (.ref a)) = σ := by
    apply List.ext_getElem?
    intro n
    by_cases z : n = i
    · subst z
      rw [List.getElem?_set_self (by rw [sf.len]; exact hi), e1]
    · rw [List.getElem?_set_ne (Ne.symm z)]
  rw [e6, List.set_set] at s4
  exact s4
theorem sv_frz {ts : TS} (h0 : ρ[i]? = some (.own (.lst ds))) (h : Sv g ts (ρ.set i (.dat (.list ds))) P) (hp : i ∉ g.ps := by simp) : Sv g ts ρ P := fun c F H σ E k s p => by
  obtain ⟨F', e, s'⟩ := s.frz h0 (notP k hp) k.wp
  exact h c F' H σ E k s' (p.up e)
end

/-! ### what is walked -/
def WalkD (K : PySem.W.Frag) (F : Hp) (J : It) (n : Nat) (xs : Nat → D) : Prop := ∀ F2 H2, Same F F2 → Same F2 H2 →
  (∀ i, i < n → J.go i H2) ∧ J.stop n H2 ∧ ∀ i x H', i < n → J.yld i H2 x H' → ∃ F', Res K F2 H2 x (xs i) F' H'
def EvI (g : Gm) (wi : TI) (ρ : Rho) (n : Nat) (xs : Nat → D) (ρ' : Rho) : Prop := ∀ (c : Cc) (F H : Hp) (σ : L2.St), c.ok g → Sim c F H σ ρ → ∀ R : It → Hp → Prop, (∀ J F' H', Sim c F' H' σ ρ' → Same F F' → WalkD c.K F' J n xs → R J H') → wi σ H R
def nthD (ds : List D) (i : Nat) : D := ds.getD i .none
theorem nthD_at {ds : List D} {i : Nat} (h : i < ds.length) : ds[i]? = some (nthD ds i) := by
  unfold nthD
  rw [List.getD_eq_getElem?_getD, List.getElem?_eq_getElem h]
  rfl
section
variable {te : TE} {ta : TA} {ρ ρ1 ρ2 : Rho} {ds : List D}
theorem walk_lstD {F : Hp} {a : Addr} {vs : List V} (h : SqL K F a vs) (k : DpAll K F vs ds) : WalkD K F (Itl K a) ds.length (nthD ds) := fun F2 H2 e1 e2 => by
  have q : SqL K H2 a vs := slUp e2 (slUp e1 h)
  have hl := dpAllLen k
  refine ⟨fun i hi => ⟨vs, vs[i]'(by omega), q, by simp [show i < vs.length by omega]⟩, ⟨vs, q, by omega⟩, fun i x H' hi y => ?_⟩
  obtain ⟨rfl, y⟩ := y
  obtain ⟨v, h1, h2⟩ := dpAllGet k (nthD_at hi)
  have := y vs q
  rw [h1] at this
  cases this
  exact ⟨F2, .at (dpUp e1 h2)⟩
theorem walk_tupD {F : Hp} {a : Addr} {vs : List V} (h : SqT K F a vs) (k : DpAll K F vs ds) : WalkD K F (Itt K a) ds.length (nthD ds) := fun F2 H2 e1 e2 => by
  have q : SqT K H2 a vs := stUp e2 (stUp e1 h)
  have hl := dpAllLen k
  refine ⟨fun i hi => ⟨vs, vs[i]'(by omega), q, by simp [show i < vs.length by omega]⟩, ⟨vs, q, by omega⟩, fun i x H' hi y => ?_⟩
  obtain ⟨rfl, y⟩ := y
  obtain ⟨v, h1, h2⟩ := dpAllGet k (nthD_at hi)
  have := y vs q
  rw [h1] at this
  cases this
  exact ⟨F2, .at (dpUp e1 h2)⟩
theorem ei_list (h : EvD g te ρ (.list ds) ρ1) : EvI g (iList g.K te) ρ ds.length (nthD ds) ρ1 := fun c F H σ k s R q => h c F H σ k s _ fun v F1 H1 s1 e1 x => by
  have kk : c.K = g.K := k.1
  cases x with
  | lst hs ha =>
    rw [kk] at hs ha
    exact ⟨_, rfl, ⟨_, slUp s1.fh hs⟩, q _ F1 H1 s1 e1 (by rw [kk]; exact walk_lstD hs ha)⟩
theorem ei_tup (h : EvD g te ρ (.tuple ds) ρ1) : EvI g (iTup g.K te) ρ ds.length (nthD ds) ρ1 := fun c F H σ k s R q => h c F H σ k s _ fun v F1 H1 s1 e1 x => by
  have kk : c.K = g.K := k.1
  cases x with
  | tup hs ha =>
    rw [kk] at hs ha
    exact ⟨_, rfl, ⟨_, stUp s1.fh hs⟩, q _ F1 H1 s1 e1 (by rw [kk]; exact walk_tupD hs ha)⟩
theorem walk_rngD {F : Hp} {lo : Int} {n : Nat} : WalkD K F (Itr lo n) n (fun i => .int (lo + i)) := fun F2 H2 e1 e2 =>
  ⟨fun i hi => hi, Nat.le_refl _, fun i x H' hi ⟨e, q⟩ => by
    subst e q
    exact ⟨F2, .at (.int _)⟩⟩
theorem ei_rng1 {n : Int} {A : Arg} (h : EvA g ta ρ [A] ρ1) (hA : A = .d (.int n)) (hb : -(2 ^ 62) ≤ n ∧ n < 2 ^ 62) : EvI g (iRng1 ta) ρ n.toNat (fun i => .int (0 + i)) ρ1 := fun c F H σ k s R q => h c F H σ k s _ fun vs F1 H1 s1 e1 x => by
  subst hA
  cases x with
  | cons a t =>
    cases t
    cases a with
    | d a =>
      cases a
      exact ⟨n, rfl, hb.1, hb.2, q _ F1 H1 s1 e1 walk_rngD⟩
theorem ei_rng2 {m n : Int} {A B : Arg} (h : EvA g ta ρ [A, B] ρ1) (hA : A = .d (.int m)) (hB : B = .d (.int n)) (hb : (-(2 ^ 62) ≤ m ∧ m < 2 ^ 62) ∧ -(2 ^ 62) ≤ n ∧ n < 2 ^ 62) : EvI g (iRng2 ta) ρ (n - m).toNat (fun i => .int (m + i)) ρ1 := fun c F H σ k s R q => h c F H σ k s _ fun vs F1 H1 s1 e1 x => by
  subst hA hB
  cases x with
  | cons a t =>
    cases t with
    | cons b t =>
      cases t
      cases a with
      | d a =>
        cases a
        cases b with
        | d b =>
          cases b
          exact ⟨m, n, rfl, ⟨hb.1.1, hb.1.2, hb.2.1, hb.2.2⟩, q _ F1 H1 s1 e1 walk_rngD⟩
end

/-! ### targets -/
def Tg (g : Gm) (t : TG) (d : D) (ρ ρ' : Rho) : Prop := ∀ (c : Cc) (F H : Hp) (σ : L2.St) (v : V), (∀ i, i ∉ g.ps → ∀ a, (i, a) ∉ c.P) → c.K = g.K → Sim c F H σ ρ → Dp c.K F v d → ∀ Q : L2.St → Hp → Prop, (∀ σ', Sim c F H σ' ρ' → Q σ' H) → t v σ H Q
theorem tg_name {ρ : Rho} {d : D} {i : Nat} (hi : i < ρ.length := by simp) (hp : i ∉ g.ps := by simp) : Tg g (gName i) d ρ (ρ.set i (.dat d)) := fun c F H σ v hP _ s x Q q => q _ (s.setDat x hi (hP i hp))
def Tgs (g : Gm) (t : TGs) (ds : List D) (ρ ρ' : Rho) : Prop := ∀ (c : Cc) (F H : Hp) (σ : L2.St) (vs : List V), (∀ i, i ∉ g.ps → ∀ a, (i, a) ∉ c.P) → c.K = g.K → Sim c F H σ ρ → DpAll c.K F vs ds → ∀ Q : L2.St → Hp → Prop, (∀ σ', Sim c F H σ' ρ' → Q σ' H) → t vs σ H Q
theorem tgs_nil {ρ : Rho} : Tgs g gNil [] ρ ρ := fun c F H σ vs hP _ s x Q q => by
  cases x
  exact ⟨rfl, q σ s⟩
theorem tgs_cons {t : TG} {u : TGs} {ρ ρ1 ρ2 : Rho} {d : D} {ds : List D} (h : Tg g t d ρ ρ1) (h2 : Tgs g u ds ρ1 ρ2) : Tgs g (gCons t u) (d :: ds) ρ ρ2 := fun c F H σ vs hP kk s x Q q => by
  cases x with
  | cons a b => exact ⟨_, _, rfl, h c F H σ _ hP kk s a _ fun σ' s' => h2 c F H σ' _ hP kk s' b Q q⟩
theorem tg_tup {n : Nat} {t : TGs} {ρ ρ1 : Rho} {ds : List D} (h : Tgs g t ds ρ ρ1) (hl : ds.length = n := by rfl) : Tg g (gTup g.K n t) (.tuple ds) ρ ρ1 := fun c F H σ v hP kk s x Q q => by
  cases x with
  | tup hs ha =>
    rw [kk] at hs
    exact ⟨_, _, rfl, stUp s.fh hs, by rw [dpAllLen ha]; exact hl, h c F H σ _ hP kk s ha Q q⟩
/-- a target, a whole assignment -/
theorem sv_asgT {te : TE} {t : TG} {ρ ρ1 ρ2 : Rho} {d : D} {P : Out → Prop} (he : EvD g te ρ d ρ1) (ht : Tg g t d ρ1 ρ2) (h : P (.nx ρ2)) : Sv g (tAsg te t) ρ P := fun c F H σ E k s p =>
  he c F H σ k.ok s _ fun v F1 H1 s1 e1 x => ht c F1 H1 σ v (fun i hi => notP k hi) k.ok.1 s1 x _ fun σ' s' => p.nx _ _ _ _ h s' e1

/-! ### for -/
/-- what a turn's end means: I the turns' invariant -/
def Turn (I : Nat → Rho → Prop) (P : Out → Prop) (i : Nat) : Out → Prop
  | .nx ρ => I (i + 1) ρ
  | .ct ρ => I (i + 1) ρ
  | .bk ρ => P (.nx ρ)
  | .rt ρ r => P (.rt ρ r)
  | .ex C ρ => P (.ex C ρ)
theorem sv_for {wi : TI} {t : TG} {tb : TS} {ρ ρ1 : Rho} {n : Nat} {xs : Nat → D} {P : Out → Prop} (I : Nat → Rho → Prop) (hi : EvI g wi ρ n xs ρ1) (h0 : I 0 ρ1)
    (hs : ∀ i ρ', i < n → I i ρ' → ∃ ρ2, Tg g t (xs i) ρ' ρ2 ∧ Sv g tb ρ2 (Turn I P i)) (hd : ∀ ρ', I n ρ' → P (.nx ρ')) : Sv g (tFor wi t tb) ρ P := fun c F H σ E k s p => by
  refine hi c F H σ k.ok s _ fun J F1 H1 s1 e1 w => ?_
  refine ⟨fun i m σ' H' => m = n - i ∧ i ≤ n ∧ ∃ F' ρ', Same F1 F' ∧ I i ρ' ∧ Sim c F' H' σ' ρ', ⟨n, by omega, by omega, F1, ρ1, Same.refl _, h0, s1⟩, ?_⟩
  rintro i m σ' H' ⟨rfl, hi, F', ρ', e', q, s'⟩
  obtain ⟨w1, w2, w3⟩ := w F' H' e' s'.fh
  by_cases hlt : i < n
  · refine .inr ⟨w1 i hlt, fun σ'' H'' => ∃ F'' ρ'', Same F1 F'' ∧ I (i + 1) ρ'' ∧ Sim c F'' H'' σ'' ρ'', fun σ'' H'' ⟨F'', ρ'', a, b, d⟩ => ⟨n - (i + 1), by omega, rfl, by omega, F'', ρ'', a, b, d⟩, fun x H2 y => ?_⟩
    obtain ⟨F2, rs⟩ := w3 i x H2 hlt y
    obtain ⟨s2, e2, x2⟩ := rs.sim s'
    obtain ⟨ρ2, ht, hb⟩ := hs i ρ' hlt q
    refine ht c F2 H2 σ' x (fun i hi => notP k hi) k.ok.1 s2 x2 _ fun σ3 s3 => ?_
    refine hb c F2 H2 σ3 _ k s3 ⟨fun ρ4 F4 H4 σ4 a b d => ⟨F4, ρ4, (e'.trans e2).trans d, a, b⟩, fun ρ4 F4 H4 σ4 v r a b d z => p.rt _ _ _ _ _ _ a b (((e1.trans e').trans e2).trans d) z, fun ρ4 F4 H4 σ4 a b d => p.nx _ _ _ _ a b (((e1.trans e').trans e2).trans d), fun ρ4 F4 H4 σ4 a b d => ⟨F4, ρ4, (e'.trans e2).trans d, a, b⟩, fun ρ4 F4 H4 σ4 C a b d => p.ex _ _ _ _ _ a b (((e1.trans e').trans e2).trans d)⟩
  · have e : i = n := by omega
    subst e
    exact .inl ⟨w2, p.nx _ _ _ _ (hd ρ' q) s' (e1.trans e')⟩
/-- while -/
theorem sv_while {tc : TT} {tb : TS} {ρ : Rho} {P : Out → Prop} (I : Nat → Rho → Prop) (m0 : Nat) (h0 : I m0 ρ)
    (hs : ∀ m ρ', I m ρ' → ∃ b ρ2, EvT g tc ρ' b ρ2 ∧ (b = true → Sv g tb ρ2 fun o => match o with
      | .nx ρ => ∃ m', m' < m ∧ I m' ρ
      | .ct ρ => ∃ m', m' < m ∧ I m' ρ
      | .bk ρ => P (.nx ρ)
      | .rt ρ r => P (.rt ρ r)
      | .ex C ρ => P (.ex C ρ)) ∧ (b = false → P (.nx ρ2))) : Sv g (tWhile tc tb) ρ P := fun c F H σ E k s p => by
  refine ⟨fun m σ' H' => ∃ F' ρ', Same F F' ∧ I m ρ' ∧ Sim c F' H' σ' ρ', ⟨m0, F, ρ, Same.refl _, h0, s⟩, ?_⟩
  rintro m σ' H' ⟨F', ρ', e', q, s'⟩
  obtain ⟨b, ρ2, h1, h2, h3⟩ := hs m ρ' q
  refine h1 c F' H' σ' k.ok s' _ fun F2 H2 s2 e2 => ?_
  cases b with
  | true =>
    rw [if_pos rfl]
    refine ⟨fun σ'' H'' => ∃ m', m' < m ∧ ∃ F'' ρ'', Same F F'' ∧ I m' ρ'' ∧ Sim c F'' H'' σ'' ρ'', fun σ'' H'' ⟨m', hm, z⟩ => ⟨m', hm, z⟩, ?_⟩
    refine h2 rfl c F2 H2 σ' _ k s2 ⟨fun ρ4 F4 H4 σ4 ⟨m', hm, a⟩ b d => ⟨m', hm, F4, ρ4, (e'.trans e2).trans d, a, b⟩, fun ρ4 F4 H4 σ4 v r a b d z => p.rt _ _ _ _ _ _ a b ((e'.trans e2).trans d) z, fun ρ4 F4 H4 σ4 a b d => p.nx _ _ _ _ a b ((e'.trans e2).trans d), fun ρ4 F4 H4 σ4 ⟨m', hm, a⟩ b d => ⟨m', hm, F4, ρ4, (e'.trans e2).trans d, a, b⟩, fun ρ4 F4 H4 σ4 C a b d => p.ex _ _ _ _ _ a b ((e'.trans e2).trans d)⟩
  | false =>
    rw [if_neg (by decide)]
    exact p.nx _ _ _ _ (h3 rfl) s2 (e'.trans e2)
end DL

namespace DL
open PySem PySem.Spec PyProof.Rows L2
variable {K : PySem.W.Frag} {g : Gm}

/-! ### another base -/
def Cc.re (c : Cc) (F H : Hp) (W : Addr → Prop) : Cc := { c with F0 := F, B := H, W := W }
def ownW (ρ : Rho) (fp : Nat → List Addr) : Addr → Prop := fun b => ∃ (i : Nat) (w : Ow), ρ[i]? = some (.own w) ∧ b ∈ fp i
section
variable {c : Cc} {F F' H H' : Hp} {σ σ' : L2.St} {ρ ρ' : Rho} {fp fp' : Nat → List Addr}
theorem SimF.re (s : SimF c F H σ ρ fp) : SimF (c.re F H (ownW ρ fp)) F H σ ρ fp :=
  ⟨Same.refl _, s.fh, fun a o q _ => q, fun a q => q, fun a _ q => q, s.par, s.dat, s.own, fun i w b q m => ⟨(s.ownF i w b q m).1, (s.ownF i w b q m).2.1, .inr ⟨i, w, q, m⟩⟩, s.sep, s.len, s.wp, fun j b m => s.dom b (s.pb j b m)⟩
/-- back to the base of before: what was not own then stands -/
theorem SimF.un (s : SimF c F H σ ρ fp) (t : SimF (c.re F H (ownW ρ fp)) F' H' σ' ρ' fp') : SimF c F' H' σ' ρ' fp' :=
  ⟨s.f0.trans t.f0, t.fh, fun a o q w => t.keep a o (s.keep a o q w) fun ⟨i, w', e, m⟩ => by
      rcases (s.ownF i w' a e m).2.2 with z | z
      · rw [z] at q; cases q
      · exact w z, fun a q => t.dom a (s.dom a q), fun a q z => t.av a (s.dom a q) (s.av a q z), t.par, t.dat, t.own, fun i w b q m => by
      obtain ⟨h1, h2, h3⟩ := t.ownF i w b q m
      refine ⟨h1, h2, ?_⟩
      rcases h3 with z | ⟨j, w', e, m'⟩
      · refine .inl ?_
        cases e : c.B b with
        | none => rfl
        | some o => exact absurd z (s.dom b (by simp [e]))
      · exact (s.ownF j w' b e m').2.2, t.sep, t.len, t.wp, s.pb⟩
/-- an object that is nobody's changes -/
theorem SimF.other (s : SimF c F H σ ρ fp) {p : Addr} {o : HO} (hF : F p = none) (hB : c.B p = none) (no : ∀ (i : Nat) (w : Ow), ρ[i]? = some (.own w) → p ∉ fp i) : SimF c F (upd H p o) σ ρ fp := by
  have ne : ∀ (i : Nat) (w : Ow) b, ρ[i]? = some (.own w) → b ∈ fp i → b ≠ p := fun i w b q m z => no i w q (z ▸ m)
  refine ⟨s.f0, sameUpd s.fh hF, fun a u q w => ?_, fun a q => ?_, s.av, s.par, s.dat, fun i w q => ?_, fun i w b q m => ?_, s.sep, s.len, s.wp, s.pb⟩
  · have z : a ≠ p := fun z => by rw [z, hB] at q; cases q
    rw [upd_ne z]
    exact s.keep a u q w
  · by_cases z : a = p
    · rw [z, upd_same]; simp
    · rw [upd_ne z]; exact s.dom a q
  · obtain ⟨a, h1, h2⟩ := s.own i w q
    exact ⟨a, h1, h2.up (Same.refl _) fun b m => upd_ne (ne i w b q m)⟩
  · obtain ⟨h1, h2, h3⟩ := s.ownF i w b q m
    exact ⟨h1, by rw [upd_ne (ne i w b q m)]; exact h2, h3⟩
/-- other slots, other entries, at vs -/
theorem SimF.slots (s : SimF c F H σ ρ fp) (vs : List Nat) (h1 : ∀ i : Nat, i ∉ vs → σ'[i]? = σ[i]?) (h2 : ∀ i : Nat, i ∈ vs → ∀ e : Ent, ρ'[i]? = some e → e = .no) (h3 : ∀ i : Nat, i ∉ vs → ρ'[i]? = ρ[i]?) (hP : ∀ i a, (i, a) ∈ c.P → i ∉ vs) (hl : σ'.length = ρ'.length) :
    SimF c F H σ' ρ' fp := by
  have o' : ∀ (j : Nat) (w : Ow), ρ'[j]? = some (.own w) → j ∉ vs ∧ ρ[j]? = some (.own w) := fun j w q => by
    by_cases m : j ∈ vs
    · cases h2 j m _ q
    · rw [h3 j m] at q; exact ⟨m, q⟩
  refine ⟨s.f0, s.fh, s.keep, s.dom, s.av, fun i a m => by rw [h1 i (hP i a m)]; exact s.par i a m, fun j d q => ?_, fun j w q => ?_, fun j w b q => s.ownF j w b (o' j w q).2, fun j k w w' b q q' => s.sep j k w w' b (o' j w q).2 (o' k w' q').2, hl, fun j w b q => s.wp j w b (o' j w q).2, s.pb⟩
  · by_cases m : j ∈ vs
    · cases h2 j m _ q
    · rw [h3 j m] at q
      rw [h1 j m]
      exact s.dat j d q
  · obtain ⟨m, q'⟩ := o' j w q
    rw [h1 j m]
    exact s.own j w q'
end
theorem wipe_at {σ : L2.St} : ∀ {vs : List Nat} {i : Nat}, i ∉ vs → (wipe σ vs)[i]? = σ[i]?
  | [], _, _ => rfl
  | v :: vs, i, h => by
    unfold wipe
    rw [List.getElem?_set_ne (fun z : v = i => h (by rw [← z]; exact List.mem_cons_self))]
    exact wipe_at fun m => h (List.mem_cons_of_mem _ m)
theorem wipe_in {σ : L2.St} : ∀ {vs : List Nat} {i : Nat}, i ∈ vs → i < σ.length → (wipe σ vs)[i]? = some none
  | v :: vs, i, h, hi => by
    unfold wipe
    by_cases z : i = v
    · subst z
      rw [List.getElem?_set_self (by rw [wipe_length]; exact hi)]
    · rw [List.getElem?_set_ne (Ne.symm z)]
      exact wipe_in ((List.mem_cons.mp h).resolve_left z) hi
theorem wipe_ext {σ σ' : L2.St} {vs : List Nat} (hl : σ'.length = σ.length) (h : ∀ i : Nat, i ∉ vs → σ'[i]? = σ[i]?) : wipe σ' vs = wipe σ vs := by
  apply List.ext_getElem?
  intro i
  by_cases m : i ∈ vs
  · by_cases hi : i < σ.length
    · rw [wipe_in m hi, wipe_in m (by omega)]
    · rw [List.getElem?_eq_none (by rw [wipe_length]; omega), List.getElem?_eq_none (by rw [wipe_length]; omega)]
  · rw [wipe_at m, wipe_at m, h i m]

/-! ### comprehensions -/
def Back (vs : List Nat) (ρ ρ' : Rho) : Prop := ρ'.length = ρ.length ∧ (∀ i : Nat, i ∈ vs → ∀ e : Ent, ρ'[i]? = some e → e = .no) ∧ ∀ i : Nat, i ∉ vs → ρ'[i]? = ρ[i]?
def TgC (g : Gm) (t : TG) (vs : List Nat) (d : D) (ρ ρ' : Rho) : Prop := ∀ (c : Cc) (F H : Hp) (σ : L2.St) (v : V), (∀ i, i ∉ g.ps → ∀ a, (i, a) ∉ c.P) → c.K = g.K → Sim c F H σ ρ → Dp c.K F v d → ∀ Q : L2.St → Hp → Prop,
  (∀ σ', Sim c F H σ' ρ' → σ'.length = σ.length → (∀ i : Nat, i ∉ vs → σ'[i]? = σ[i]?) → Q σ' H) → t v σ H Q
theorem tgc_name {ρ : Rho} {d : D} {j : Nat} {vs : List Nat} (hi : j < ρ.length := by simp) (hp : j ∉ g.ps := by simp) (hm : j ∈ vs := by simp) : TgC g (gName j) vs d ρ (ρ.set j (.dat d)) := fun c F H σ v hP _ s x Q q =>
  q _ (s.setDat x hi (hP j hp)) (by simp) fun i m => by rw [List.getElem?_set_ne (fun z : j = i => m (by rw [← z]; exact hm))]
theorem en_lc {wi : TI} {t : TG} {tt : TT} {te : TE} {vs : List Nat} {ρ ρ1 : Rho} {n : Nat} {xs : Nat → D} (hi : EvI g wi ρ n xs ρ1) (E : Nat → Rho) (bs : Nat → Bool) (ds : Nat → D) (h0 : E 0 = ρ1) (hz : n < sizeLine) (hv : ∀ i, i ∈ vs → i ∉ g.ps)
    (hE : ∀ i, i ≤ n → ∀ j : Nat, j ∈ vs → ∀ e : Ent, (E i)[j]? = some e → e = .no)
    (hs : ∀ i, i < n → ∃ ρ2 ρ3, TgC g t vs (xs i) (E i) ρ2 ∧ EvT g tt ρ2 (bs i) ρ3 ∧ (bs i = true → ∃ ρ4, EvD g te ρ3 (ds i) ρ4 ∧ Back vs ρ4 (E (i + 1))) ∧ (bs i = false → Back vs ρ3 (E (i + 1)))) :
    EvN g (tLc wi t tt te vs) ρ (((List.range n).filter bs).map ds) (E n) := fun c F H σ k s Q q => by
  refine hi c F H σ k s _ fun J F1 H1 s1 e1 w Dl hD => ?_
  subst h0
  have hBD : c.B Dl = none := by
    obtain ⟨fp, sf⟩ := id s1
    cases z : c.B Dl with
    | none => rfl
    | some u => exact absurd hD (sf.dom Dl (by simp [z]))
  have hP : ∀ i a, (i, a) ∈ c.P → i ∉ vs := fun i a m m' => hv i m' (by rw [← k.2]; exact List.mem_map.mpr ⟨(i, a), m, rfl⟩)
  have hP' : ∀ i, i ∉ g.ps → ∀ a, (i, a) ∉ c.P := fun i m a m' => m (by rw [← k.2]; exact List.mem_map.mpr ⟨(i, a), m', rfl⟩)
  have kk : c.K = g.K := k.1
  let out : Nat → List D := fun i => ((List.range i).filter bs).map ds
  have olen : ∀ i, (out i).length ≤ i := fun i => by
    have := List.length_filter_le bs (List.range i)
    simp only [out, List.length_map]
    rw [List.length_range] at this
    exact this
  refine ⟨fun i m H' => m = n - i ∧ i ≤ n ∧ ∃ F' fp acc, Same F1 F' ∧ SimF c F' H' σ (E i) fp ∧ H' Dl = some (.lst acc) ∧ F' Dl = none ∧ (∀ (j : Nat) (w : Ow), (E i)[j]? = some (.own w) → Dl ∉ fp j) ∧ DpAll c.K F' acc (out i), ⟨n, by omega, by omega, ?_⟩, ?_⟩
  · obtain ⟨fp, sf⟩ := s1
    have fD := freeF sf.fh hD
    have no : ∀ (j : Nat) (w : Ow), (E 0)[j]? = some (.own w) → Dl ∉ fp j := fun j w q m => (sf.ownF j w Dl q m).2.1 hD
    exact ⟨F1, fp, [], Same.refl _, sf.other fD hBD no, upd_same, fD, no, .nil⟩
  · rintro i m H2 ⟨rfl, hin, F2, fp2, acc, e2, s2, hD2, fD2, no2, ha2⟩
    obtain ⟨w1, w2, w3⟩ := w F2 H2 e2 s2.fh
    by_cases hlt : i < n
    · refine .inr ⟨w1 i hlt, fun H' => ∃ F' fp acc, Same F1 F' ∧ SimF c F' H' σ (E (i + 1)) fp ∧ H' Dl = some (.lst acc) ∧ F' Dl = none ∧ (∀ (j : Nat) (w : Ow), (E (i + 1))[j]? = some (.own w) → Dl ∉ fp j) ∧ DpAll c.K F' acc (out (i + 1)), fun H' z => ⟨n - (i + 1), by omega, rfl, by omega, z⟩, fun x H3 y => ?_⟩
      obtain ⟨F3, rs⟩ := w3 i x H3 hlt y
      -- the turn is told over the heap as it stands
      let c2 := c.re F2 H2 (ownW (E i) fp2)
      have k2 : c2.ok g := k
      have sr : Sim c2 F2 H2 σ (E i) := ⟨fp2, s2.re⟩
      obtain ⟨s3, e3, x3⟩ := rs.sim (c := c2) sr
      have sw : Sim c2 F3 H3 (wipe σ vs) (E i) := by
        obtain ⟨fp3, s3⟩ := s3
        exact ⟨fp3, s3.slots vs (fun j m => wipe_at m) (fun j m e q => hE i (by omega) j m e q) (fun _ _ => rfl) hP (by rw [wipe_length]; exact s3.len)⟩
      obtain ⟨ρ2, ρ3, ht, htt, hte, hno⟩ := hs i hlt
      -- what stands behind a turn
      have fin : ∀ (F5 H5 : Hp) (σ2 : L2.St) (ρ5 : Rho), Sim c2 F5 H5 σ2 ρ5 → Same F2 F5 → σ2.length = σ.length → (∀ j : Nat, j ∉ vs → σ2[j]? = σ[j]?) → Back vs ρ5 (E (i + 1)) → ∃ fp5, SimF c F5 H5 σ (E (i + 1)) fp5 ∧ H5 Dl = some (.lst acc) ∧ F5 Dl = none ∧ ∀ (j : Nat) (w : Ow), (E (i + 1))[j]? = some (.own w) → Dl ∉ fp5 j := fun F5 H5 σ2 ρ5 s5 e5 h3 hσ hb => by
        obtain ⟨fp5, s5⟩ := s5
        have nW : ¬ ownW (E i) fp2 Dl := fun ⟨j, w, q, m⟩ => no2 j w q m
        have hl : σ.length = (E (i + 1)).length := by
          have h1 := s5.len
          have h2 := hb.1
          omega
        have t := s2.un s5
        refine ⟨fp5, t.slots vs (fun j m => (hσ j m).symm) hb.2.1 hb.2.2 hP hl, s5.keep Dl _ hD2 nW, s5.av Dl (by show H2 Dl ≠ none; rw [hD2]; simp) fD2, fun j w q m => ?_⟩
        have q5 : ρ5[j]? = some (.own w) := by
          by_cases mm : j ∈ vs
          · cases hb.2.1 j mm _ q
          · rw [hb.2.2 j mm] at q; exact q
        rcases (s5.ownF j w Dl q5 m).2.2 with z | z
        · rw [show c2.B Dl = H2 Dl from rfl, hD2] at z; cases z
        · exact nW z
      refine ht c2 F3 H3 (wipe σ vs) x hP' kk sw x3 _ fun σ2 sg hlen hσ2 => ?_
      have hσ : ∀ j : Nat, j ∉ vs → σ2[j]? = σ[j]? := fun j m => (hσ2 j m).trans (wipe_at m)
      refine ⟨wipe_ext (by rw [hlen, wipe_length]) hσ, htt c2 F3 H3 σ2 k2 sg _ fun F4 H4 s4 e4 => ?_⟩
      cases hb : bs i with
      | true =>
        rw [if_pos rfl]
        obtain ⟨ρ4, he, hback⟩ := hte hb
        refine he c2 F4 H4 σ2 k2 s4 _ fun v F5 H5 s5 e5 x5 => ?_
        have e25 : Same F2 F5 := (e3.trans e4).trans e5
        obtain ⟨fp5, t5, hD5, fD5, no5⟩ := fin F5 H5 σ2 ρ4 s5 e25 (hlen.trans (wipe_length _ _)) hσ hback
        have hlen2 : acc.length ≤ i := by rw [dpAllLen ha2]; exact olen i
        refine ⟨acc, hD5, by omega, F5, fp5, acc ++ [v], e2.trans e25, t5.other fD5 hBD no5, upd_same, fD5, no5, ?_⟩
        have : out (i + 1) = out i ++ [ds i] := by
          simp only [out]
          rw [List.range_succ, List.filter_append, List.map_append, List.filter_cons, if_pos hb]
          rfl
        rw [this]
        exact dpAllApp (dpAllUp e25 ha2) (.cons x5 .nil)
      | false =>
        rw [if_neg (by decide)]
        have e24 : Same F2 F4 := e3.trans e4
        obtain ⟨fp5, t5, hD5, fD5, no5⟩ := fin F4 H4 σ2 ρ3 s4 e24 (hlen.trans (wipe_length _ _)) hσ (hno hb)
        have : out (i + 1) = out i := by
          simp only [out]
          rw [List.range_succ, List.filter_append, List.map_append, List.filter_cons, if_neg (by rw [hb]; decide)]
          simp
        exact ⟨F4, fp5, acc, e2.trans e24, t5, hD5, fD5, no5, by rw [this]; exact dpAllUp e24 ha2⟩
    · have e : i = n := by omega
      subst e
      refine .inl ⟨w2, ?_⟩
      -- the list, as if it were just made
      let Hb : Hp := fun a => if a = Dl then none else H2 a
      have eH : H2 = upd Hb Dl (.lst acc) := by
        funext a
        by_cases z : a = Dl
        · subst z; rw [upd_same, hD2]
        · rw [upd_ne z]; simp [Hb, z]
      have sb : SimF c F2 Hb σ (E i) fp2 := by
        have at' : ∀ a, a ≠ Dl → Hb a = H2 a := fun a z => by simp [Hb, z]
        refine ⟨s2.f0, fun a o z => ?_, fun a o z w' => ?_, fun a z => ?_, s2.av, s2.par, s2.dat, fun j w' z => ?_, fun j w' b z m => ?_, s2.sep, s2.len, s2.wp, s2.pb⟩
        · have : a ≠ Dl := fun z' => by rw [z', fD2] at z; cases z
          rw [at' a this]
          exact s2.fh a o z
        · have : a ≠ Dl := fun z' => by rw [z', hBD] at z; cases z
          rw [at' a this]
          exact s2.keep a o z w'
        · have : a ≠ Dl := fun z' => by rw [z', hBD] at z; exact z rfl
          rw [at' a this]
          exact s2.dom a z
        · obtain ⟨a, h1, h2⟩ := s2.own j w' z
          exact ⟨a, h1, h2.up (Same.refl _) fun b m => at' b fun z' => no2 j w' z (z' ▸ m)⟩
        · obtain ⟨h1, h2, h3⟩ := s2.ownF j w' b z m
          exact ⟨h1, by rw [at' b fun z' => no2 j w' z (z' ▸ m)]; exact h2, h3⟩
      rw [eH]
      exact q Dl acc F2 Hb ⟨fp2, sb⟩ (e1.trans e2) (by simp [Hb]) ha2
end DL

namespace DL
open PySem PySem.Spec PyProof.Rows L2
variable {K : PySem.W.Frag} {g : Gm}

/-! ### promises -/
def noW : Addr → Prop := fun _ => False
/-- a def that is given data -/
def spD (R : List D → RetV → Prop) (K : PySem.W.Frag) : Sp := fun vs H Q _ => ∃ F ds r, Same F H ∧ DpAll K F vs ds ∧ R ds r ∧
  ∀ v F' H', Sim ⟨K, [], noW, F, H⟩ F' H' [] [] → RetOk ⟨K, [], noW, F, H⟩ F' H' v r → Q v H'
/-- .. and ahead of it a list that it may change -/
def spS (R : List D → List D → RetV → List D → Prop) (K : PySem.W.Frag) : Sp := fun vs H Q _ => ∃ F a ws us st ds r st', vs = .ref a :: us ∧ Same F H ∧ H a = some (.lst ws) ∧ F a = none ∧ DpAll K F ws st ∧ DpAll K F us ds ∧ R st ds r st' ∧
  ∀ v F' H', Sim ⟨K, [(0, a)], (· = a), F, H⟩ F' H' [some (.ref a)] [.own (.lst st')] → RetOk ⟨K, [(0, a)], (· = a), F, H⟩ F' H' v r → Q v H'

section
variable {c : Cc} {F F' H H' : Hp} {σ : L2.St} {ρ ρ' : Rho} {fp : Nat → List Addr}
theorem Sim.cut (s : Sim c F H σ ρ) (hP : c.P = []) : Sim c F H [] [] := by
  obtain ⟨fp, s⟩ := s
  exact ⟨fp, s.f0, s.fh, s.keep, s.dom, s.av, fun i a m => (by rw [hP] at m; cases m), fun i d q => (by simp at q), fun i w q => (by simp at q), fun i w b q => (by simp at q), fun i j w w' b q => (by simp at q), rfl, fun i w b q => (by simp at q), fun j b m => (by rw [hP] at m; cases m)⟩
/-- behind a call: the caller's own things are as they were -/
theorem SimF.after (s : SimF c F H σ ρ fp) (t : Sim ⟨c.K, [], noW, F, H⟩ F' H' [] []) : SimF c F' H' σ ρ fp := by
  obtain ⟨fp', t⟩ := t
  have kp : ∀ (i : Nat) (w : Ow) b, ρ[i]? = some (.own w) → b ∈ fp i → H' b = H b := fun i w b q m => by
    cases z : H b with
    | none => exact absurd z (s.ownF i w b q m).2.1
    | some o => rw [t.keep b o z id]
  refine ⟨s.f0.trans t.f0, t.fh, fun a o q w => t.keep a o (s.keep a o q w) id, fun a q => t.dom a (s.dom a q), fun a q z => t.av a (s.dom a q) (s.av a q z), s.par, fun i d q => ?_, fun i w q => ?_, fun i w b q m => ?_, s.sep, s.len, s.wp, s.pb⟩
  · obtain ⟨v, h1, h2⟩ := s.dat i d q
    exact ⟨v, h1, dpUp t.f0 h2⟩
  · obtain ⟨a, h1, h2⟩ := s.own i w q
    exact ⟨a, h1, h2.up t.f0 fun b m => kp i w b q m⟩
  · obtain ⟨h1, h2, h3⟩ := s.ownF i w b q m
    exact ⟨t.av b h2 h1, by rw [kp i w b q m]; exact h2, h3⟩
/-- .. but the one at i -/
theorem SimF.afterS (s : SimF c F H σ ρ fp) {i : Nat} {a : Addr} {st st' : List D} (he : ρ[i]? = some (.own (.lst st))) (hσ : σ[i]? = some (some (.ref a))) (t : Sim ⟨c.K, [(0, a)], (· = a), F, H⟩ F' H' [some (.ref a)] [.own (.lst st')]) :
    SimF c F' H' σ (ρ.set i (.own (.lst st'))) fp := by
  obtain ⟨fp', t⟩ := t
  have hi : i < ρ.length := (List.getElem?_eq_some_iff.mp he).1
  obtain ⟨a', e1, e2, vs, e3, e4⟩ := s.own i _ he
  have := some_inj2 e1 hσ
  subst this
  have m0 : a' ∈ fp i := by rw [e2]; simp
  have ne : ∀ (j : Nat) (w : Ow) b, ρ[j]? = some (.own w) → b ∈ fp j → j ≠ i → b ≠ a' := fun j w b q m z e => by
    subst e
    exact z (s.sep j i w _ b q he m m0)
  have kp : ∀ (j : Nat) (w : Ow) b, ρ[j]? = some (.own w) → b ∈ fp j → j ≠ i → H' b = H b := fun j w b q m z => by
    cases y : H b with
    | none => exact absurd y (s.ownF j w b q m).2.1
    | some o => rw [t.keep b o y (ne j w b q m z)]
  obtain ⟨a2, f1, f2, ws, f3, f4⟩ := t.own 0 _ rfl
  have : a2 = a' := by
    have q : some (some (V.ref a')) = some (some (V.ref a2)) := f1
    cases q
    rfl
  subst this
  have own' : ∀ (j : Nat) (w' : Ow), (ρ.set i (.own (.lst st')))[j]? = some (.own w') → (j = i ∧ w' = .lst st') ∨ (j ≠ i ∧ ρ[j]? = some (.own w')) := fun j w' q => by
    by_cases z : j = i
    · subst z
      rw [List.getElem?_set_self hi] at q
      cases q
      exact .inl ⟨rfl, rfl⟩
    · rw [List.getElem?_set_ne (Ne.symm z)] at q
      exact .inr ⟨z, q⟩
  have old : ∀ (j : Nat) (w' : Ow), (ρ.set i (.own (.lst st')))[j]? = some (.own w') → ∃ w0, ρ[j]? = some (.own w0) := fun j w' q => by
    rcases own' j w' q with ⟨rfl, _⟩ | ⟨_, q⟩
    · exact ⟨_, he⟩
    · exact ⟨_, q⟩
  refine ⟨s.f0.trans t.f0, t.fh, fun b o q w => ?_, fun b q => t.dom b (s.dom b q), fun b q z => t.av b (s.dom b q) (s.av b q z), s.par, fun j d q => ?_, fun j w q => ?_, fun j w b q m => ?_, fun j k w w' b q q' m m' => ?_, by simpa using s.len, fun j w b q m => ?_, s.pb⟩
  · refine t.keep b o (s.keep b o q w) fun z => ?_
    have z : b = a2 := z
    subst z
    rcases (s.ownF i _ b he m0).2.2 with y | y
    · rw [y] at q; cases q
    · exact w y
  · by_cases z : j = i
    · subst z; rw [List.getElem?_set_self hi] at q; cases q
    · rw [List.getElem?_set_ne (Ne.symm z)] at q
      obtain ⟨v, h1, h2⟩ := s.dat j d q
      exact ⟨v, h1, dpUp t.f0 h2⟩
  · rcases own' j w q with ⟨rfl, rfl⟩ | ⟨z, q⟩
    · exact ⟨a2, e1, e2, ws, f3, f4⟩
    · obtain ⟨b, h1, h2⟩ := s.own j w q
      exact ⟨b, h1, h2.up t.f0 fun x m => kp j w x q m z⟩
  · obtain ⟨w0, q0⟩ := old j w q
    obtain ⟨h1, h2, h3⟩ := s.ownF j w0 b q0 m
    exact ⟨t.av b h2 h1, t.dom b h2, h3⟩
  · obtain ⟨w0, q0⟩ := old j w q
    obtain ⟨w1, q1⟩ := old k w' q'
    exact s.sep j k w0 w1 b q0 q1 m m'
  · obtain ⟨w0, q0⟩ := old j w q
    exact s.wp j w0 b q0 m
end

/-! ### values that are new things of one's own -/
def NewAt (c : Cc) (F H : Hp) (σ : L2.St) (ρ : Rho) (a : Addr) (w : Ow) : Prop := ∃ f fp, SimF c F H σ ρ fp ∧ OwRep c.K F H a f w ∧ (∀ b ∈ f, F b = none ∧ H b ≠ none ∧ c.B b = none) ∧ ∀ (j : Nat) (w' : Ow) b, ρ[j]? = some (.own w') → b ∈ f → b ∉ fp j
def EvW (g : Gm) (te : TE) (ρ : Rho) (w : Ow) (ρ' : Rho) : Prop := ∀ (c : Cc) (F H : Hp) (σ : L2.St), c.ok g → Sim c F H σ ρ → ∀ Q : VK, (∀ a F' H', NewAt c F' H' σ ρ' a w → Same F F' → Q (.ref a) H') → te σ H Q
theorem SimF.setOwn {c : Cc} {F H : Hp} {σ : L2.St} {ρ : Rho} {fp : Nat → List Addr} (s : SimF c F H σ ρ fp) {i : Nat} {a : Addr} {f : List Addr} {w : Ow} (hr : OwRep c.K F H a f w) (hf : ∀ b ∈ f, F b = none ∧ H b ≠ none ∧ c.B b = none)
    (no : ∀ (j : Nat) (w' : Ow) b, ρ[j]? = some (.own w') → b ∈ f → b ∉ fp j) (hi : i < ρ.length) (hP : ∀ a, (i, a) ∉ c.P) : Sim c F H (σ.set i (some (.ref a))) (ρ.set i (.own w)) := by
  have hi' : i < σ.length := by rw [s.len]; exact hi
  have own' : ∀ (j : Nat) (w' : Ow), (ρ.set i (.own w))[j]? = some (.own w') → (j = i ∧ w' = w) ∨ (j ≠ i ∧ ρ[j]? = some (.own w')) := fun j w' q => by
    by_cases z : j = i
    · subst z
      rw [List.getElem?_set_self hi] at q
      cases q
      exact .inl ⟨rfl, rfl⟩
    · rw [List.getElem?_set_ne (Ne.symm z)] at q
      exact .inr ⟨z, q⟩
  refine ⟨fun j => if j = i then f else fp j, s.f0, s.fh, s.keep, s.dom, s.av, fun j b m => ?_, fun j d q => ?_, fun j w' q => ?_, fun j w' b q m => ?_, fun j k w' w'' b q q' m m' => ?_, by simpa using s.len, fun j w' b q m k hk => ?_, s.pb⟩
  · have z : j ≠ i := fun z => hP b (z ▸ m)
    rw [List.getElem?_set_ne (Ne.symm z)]
    exact s.par j b m
  · by_cases z : j = i
    · subst z
      rw [List.getElem?_set_self hi] at q
      cases q
    · rw [List.getElem?_set_ne (Ne.symm z)] at q ⊢
      exact s.dat j d q
  · rcases own' j w' q with ⟨rfl, rfl⟩ | ⟨z, q'⟩
    · exact ⟨a, List.getElem?_set_self hi', by simpa using hr⟩
    · rw [List.getElem?_set_ne (Ne.symm z)]
      simpa [z] using s.own j w' q'
  · rcases own' j w' q with ⟨rfl, rfl⟩ | ⟨z, q'⟩
    · have m' : b ∈ f := by simpa using m
      exact ⟨(hf b m').1, (hf b m').2.1, .inl (hf b m').2.2⟩
    · exact s.ownF j w' b q' (by simpa [z] using m)
  · rcases own' j w' q with ⟨rfl, rfl⟩ | ⟨z, q1⟩
    · rcases own' k w'' q' with ⟨rfl, rfl⟩ | ⟨z', q2⟩
      · rfl
      · exact absurd (by simpa [z'] using m') (no k w'' b q2 (by simpa using m))
    · rcases own' k w'' q' with ⟨rfl, rfl⟩ | ⟨z', q2⟩
      · exact absurd (by simpa [z] using m) (no j w' b q1 (by simpa using m'))
      · exact s.sep j k w' w'' b q1 q2 (by simpa [z] using m) (by simpa [z'] using m')
  · rcases own' j w' q with ⟨rfl, rfl⟩ | ⟨z, q1⟩
    · exact absurd (hf b (by simpa using m)).2.2 (s.pb k b hk)
    · exact s.wp j w' b q1 (by simpa [z] using m) k hk
theorem sv_setW {te : TE} {ρ ρ1 : Rho} {w : Ow} {i : Nat} {P : Out → Prop} (he : EvW g te ρ w ρ1) (h : P (.nx (ρ1.set i (.own w)))) (hi : i < ρ1.length := by simp) (hp : i ∉ g.ps := by simp) : Sv g (tAsg te (gName i)) ρ P := fun c F H σ E k s p =>
  he c F H σ k.ok s _ fun a F' H' ⟨f, fp, s', hr, hf, no⟩ e => p.nx _ _ _ _ h (s'.setOwn hr hf no hi (notP k hp)) e
/-- a new list becomes data -/
theorem ed_ofW {te : TE} {ρ ρ1 : Rho} {ds : List D} (h : EvW g te ρ (.lst ds) ρ1) : EvD g te ρ (.list ds) ρ1 := fun c F H σ k s Q q => h c F H σ k s _ fun a F' H' ⟨f, fp, s', hr, hf, no⟩ e => by
  obtain ⟨rfl, vs, h1, h2⟩ := hr
  obtain ⟨k1, k2, k3⟩ := hf a (by simp)
  have e2 : Same F' (upd F' a (.lst vs)) := sameNew k1
  exact q _ _ H' ⟨fp, s'.freeze h1 k3 (fun i w z m => no i w a z (by simp) m) k1⟩ (e.trans e2) (.lst (.inl (.inl upd_same)) (dpAllUp e2 h2))
theorem sv_retW {te : TE} {ρ ρ1 : Rho} {w : Ow} {P : Out → Prop} (he : EvW g te ρ w ρ1) (h : P (.rt ρ1 (.new w))) : Sv g (tRet te) ρ P := fun c F H σ E k s p =>
  he c F H σ k.ok s _ fun a F' H' ⟨f, fp, s', hr, hf, no⟩ e => p.rt _ _ _ _ _ _ h ⟨fp, s'⟩ e ⟨a, f, rfl, hr, hf⟩

/-! ### calls -/
section
variable {t : TA} {ρ ρ1 : Rho} {As : List Arg} {ds : List D} {d : D} {E : XK} {te : TE}
/-- all operands as data: own lists are lent -/
theorem lend {c : Cc} {F H : Hp} {σ : L2.St} {vs : List V} (s : Sim c F H σ ρ) (h : ArgsAt c.K F σ vs As) (hd : datas As = some ds) : DpAll c.K F vs ds := h.datas hd
theorem ed_call {R : List D → RetV → Prop} (ha : EvA g t ρ As ρ1) (hR : R ds (.dat d)) (hd : datas As = some ds := by rfl) : EvD g (tCall (spD R g.K) [] E t) ρ d ρ1 := fun c F H σ k s Q q =>
  ha c F H σ k s _ fun vs F1 H1 s1 e1 h1 => by
    have kk : c.K = g.K := k.1
    obtain ⟨fp, sf⟩ := id s1
    rw [List.append_nil, ← kk]
    refine ⟨F1, ds, .dat d, s1.fh, h1.datas hd, hR, fun v F' H' t r => ?_⟩
    have t' := sf.after t
    exact q v F' H' ⟨fp, t'⟩ (e1.trans t.f0) r
theorem ew_call {R : List D → RetV → Prop} {w : Ow} (ha : EvA g t ρ As ρ1) (hR : R ds (.new w)) (hd : datas As = some ds := by rfl) : EvW g (tCall (spD R g.K) [] E t) ρ w ρ1 := fun c F H σ k s Q q =>
  ha c F H σ k s _ fun vs F1 H1 s1 e1 h1 => by
    have kk : c.K = g.K := k.1
    obtain ⟨fp, sf⟩ := id s1
    rw [List.append_nil, ← kk]
    refine ⟨F1, ds, .new w, s1.fh, h1.datas hd, hR, fun v F' H' t r => ?_⟩
    have t' := sf.after t
    obtain ⟨a, f, rfl, hr, hf⟩ := r
    refine q a F' H' ⟨f, fp, t', hr, fun b m => ⟨(hf b m).1, (hf b m).2.1, ?_⟩, fun j w' b z m m' => ?_⟩ (e1.trans t.f0)
    · cases z : c.B b with
      | none => rfl
      | some o => exact absurd (hf b m).2.2 (sf.dom b (by simp [z]))
    · exact (sf.ownF j w' b z m').2.1 (hf b m).2.2
/-- f(own, data ..) -/
theorem ed_callS {R : List D → List D → RetV → List D → Prop} {i : Nat} {st st' : List D} (ha : EvA g t ρ (.o i :: As) ρ1) (he : ρ1[i]? = some (.own (.lst st))) (hR : R st ds (.dat d) st') (hd : datas As = some ds := by rfl) :
    EvD g (tCall (spS R g.K) [] E t) ρ d (ρ1.set i (.own (.lst st'))) := fun c F H σ k s Q q =>
  ha c F H σ k s _ fun vs F1 H1 s1 e1 h1 => by
    have kk : c.K = g.K := k.1
    obtain ⟨fp, sf⟩ := id s1
    obtain ⟨a, ws, f1, f2, f3, f4⟩ := s1.lstAt he
    cases h1 with
    | cons x t1 =>
      cases x with
      | o x =>
        rename_i v vs
        have ev : v = .ref a := by
          rw [f1] at x
          cases x
          rfl
        subst ev
        rw [List.append_nil, ← kk]
        refine ⟨F1, a, ws, vs, st, ds, .dat d, st', rfl, s1.fh, f2, f3, f4, t1.datas hd, hR, fun v F' H' t r => ?_⟩
        exact q v F' H' ⟨fp, sf.afterS he f1 t⟩ (e1.trans t.f0) r
theorem ew_callS {R : List D → List D → RetV → List D → Prop} {i : Nat} {st st' : List D} {w : Ow} (ha : EvA g t ρ (.o i :: As) ρ1) (he : ρ1[i]? = some (.own (.lst st))) (hR : R st ds (.new w) st') (hd : datas As = some ds := by rfl) :
    EvW g (tCall (spS R g.K) [] E t) ρ w (ρ1.set i (.own (.lst st'))) := fun c F H σ k s Q q =>
  ha c F H σ k s _ fun vs F1 H1 s1 e1 h1 => by
    have kk : c.K = g.K := k.1
    obtain ⟨fp, sf⟩ := id s1
    obtain ⟨a, ws, f1, f2, f3, f4⟩ := s1.lstAt he
    cases h1 with
    | cons x t1 =>
      cases x with
      | o x =>
        rename_i v vs
        have ev : v = .ref a := by
          rw [f1] at x
          cases x
          rfl
        subst ev
        rw [List.append_nil, ← kk]
        refine ⟨F1, a, ws, vs, st, ds, .new w, st', rfl, s1.fh, f2, f3, f4, t1.datas hd, hR, fun v F' H' t r => ?_⟩
        obtain ⟨a', f, rfl, hr, hf⟩ := r
        have t' := sf.afterS he f1 t
        have hi : i < ρ1.length := (List.getElem?_eq_some_iff.mp he).1
        refine q a' F' H' ⟨f, fp, t', hr, fun b m => ⟨(hf b m).1, (hf b m).2.1, ?_⟩, fun j w' b z m m' => ?_⟩ (e1.trans t.f0)
        · cases z : c.B b with
          | none => rfl
          | some o => exact absurd (hf b m).2.2 (sf.dom b (by simp [z]))
        · have old : ∃ w0, ρ1[j]? = some (.own w0) := by
            by_cases y : j = i
            · exact ⟨_, y ▸ he⟩
            · rw [List.getElem?_set_ne (Ne.symm y)] at z
              exact ⟨_, z⟩
          obtain ⟨w0, z0⟩ := old
          exact (sf.ownF j w0 b z0 m').2.1 (hf b m).2.2
end

/-! ### a def's body -/
theorem start_get {N : List Str} {vs : List V} {i : Nat} {v : V} (h : vs[i]? = some v) : (start N vs)[i]? = some (some v) := by
  unfold L2.start
  have hi : i < vs.length := (List.getElem?_eq_some_iff.mp h).1
  rw [List.getElem?_append_left (by simpa using hi), List.getElem?_map, h]
  rfl
/-- the environment at a def's entry -/
def rho0 (N : List Str) (es : List Ent) : Rho := es ++ List.replicate (N.length - es.length) .no
theorem rho0_get {N : List Str} {es : List Ent} {i : Nat} {e : Ent} (h : (rho0 N es)[i]? = some e) : es[i]? = some e ∨ e = .no := by
  unfold rho0 at h
  by_cases hi : i < es.length
  · rw [List.getElem?_append_left hi] at h
    exact .inl h
  · rw [List.getElem?_append_right (by omega), List.getElem?_replicate] at h
    split at h
    · exact .inr (Option.some.inj h).symm
    · cases h
theorem rho0_len {N : List Str} {es : List Ent} {vs : List V} (h : vs.length = es.length) : (start N vs).length = (rho0 N es).length := by
  unfold L2.start rho0
  simp [h]
theorem sim_start {N : List Str} {vs : List V} {ds : List D} {F H : Hp} (e : Same F H) (h : DpAll K F vs ds) : Sim ⟨K, [], noW, F, H⟩ F H (start N vs) (rho0 N (ds.map .dat)) := by
  have nown : ∀ (i : Nat) (w : Ow), (rho0 N (ds.map .dat))[i]? ≠ some (.own w) := fun i w q => by
    rcases rho0_get q with q | q
    · rw [List.getElem?_map] at q
      cases z : ds[i]? with
      | none => rw [z] at q; cases q
      | some d => rw [z] at q; cases q
    · cases q
  refine ⟨fun _ => [], Same.refl _, e, fun a o q _ => q, fun a q => q, fun a _ q => q, fun i a m => (nomatch m), fun i d q => ?_, fun i w q => (nown i w q).elim, fun i w b q => (nown i w q).elim, fun i j w w' b q => (nown i w q).elim, rho0_len (by rw [List.length_map]; exact dpAllLen h), fun i w b q => (nown i w q).elim, fun j b m => (nomatch m)⟩
  rcases rho0_get q with q | q
  · rw [List.getElem?_map] at q
    cases z : ds[i]? with
    | none => rw [z] at q; cases q
    | some d' =>
      rw [z] at q
      cases q
      obtain ⟨v, h1, h2⟩ := dpAllGet h z
      exact ⟨v, start_get h1, h2⟩
  · cases q
theorem sim_startS {N : List Str} {us ws : List V} {a : Addr} {ds st : List D} {F H : Hp} (e : Same F H) (ha : H a = some (.lst ws)) (hF : F a = none) (hs : DpAll K F ws st) (h : DpAll K F us ds) :
    Sim ⟨K, [(0, a)], (· = a), F, H⟩ F H (start N (.ref a :: us)) (rho0 N (.own (.lst st) :: ds.map .dat)) := by
  have nown : ∀ (i : Nat) (w : Ow), (rho0 N (.own (.lst st) :: ds.map .dat))[i]? = some (.own w) → i = 0 ∧ w = .lst st := fun i w q => by
    rcases rho0_get q with q | q
    · cases i with
      | zero => simp at q; exact ⟨rfl, q.symm⟩
      | succ i =>
        rw [List.getElem?_cons_succ, List.getElem?_map] at q
        cases z : ds[i]? with
        | none => rw [z] at q; cases q
        | some d => rw [z] at q; cases q
    · cases q
  refine ⟨fun _ => [a], Same.refl _, e, fun a o q _ => q, fun a q => q, fun a _ q => q, fun i b m => ?_, fun i d q => ?_, fun i w q => ?_, fun i w b q m => ?_, fun i j w w' b q q' _ _ => ?_, rho0_len (by simp [dpAllLen h]), fun i w b q m j hj => ?_, fun j b m => ?_⟩
  · have z : (i, b) = (0, a) := by simpa using m
    cases z
    exact start_get rfl
  · rcases rho0_get q with q | q
    · cases i with
      | zero => simp at q
      | succ i =>
        rw [List.getElem?_cons_succ, List.getElem?_map] at q
        cases z : ds[i]? with
        | none => rw [z] at q; cases q
        | some d' =>
          rw [z] at q
          cases q
          obtain ⟨v, h1, h2⟩ := dpAllGet h z
          exact ⟨v, start_get (by simpa using h1), h2⟩
    · cases q
  · obtain ⟨rfl, rfl⟩ := nown i w q
    exact ⟨a, start_get rfl, rfl, ws, ha, hs⟩
  · have z : b = a := by simpa using m
    subst z
    exact ⟨hF, by rw [ha]; simp, .inr rfl⟩
  · exact (nown i w q).1.trans (nown j w' q').1.symm
  · have z : b = a := by simpa using m
    subst z
    have z : (j, b) = (0, b) := by simpa using hj
    cases z
    exact (nown i w q).1.symm
  · have z : (j, b) = (0, a) := by simpa using m
    cases z
    show H a ≠ none
    rw [ha]
    simp

/-- what a body has to come to -/
def RetP (r : RetV) : Out → Prop
  | .nx _ => r = .dat .none
  | .rt _ r' => r' = r
  | _ => False
def RetS (r : RetV) (st' : List D) : Out → Prop
  | .nx ρ => r = .dat .none ∧ ρ[0]? = some (.own (.lst st'))
  | .rt ρ r' => r' = r ∧ ρ[0]? = some (.own (.lst st'))
  | _ => False
theorem body_D {t : TS} {N : List Str} {vs : List V} {ds : List D} {F H : Hp} {r : RetV} {Q : VK} (e : Same F H) (h : DpAll K F vs ds) (hb : Sv (gm K []) t (rho0 N (ds.map .dat)) (RetP r))
    (q : ∀ v F' H', Sim ⟨K, [], noW, F, H⟩ F' H' [] [] → RetOk ⟨K, [], noW, F, H⟩ F' H' v r → Q v H') : t { nx := fun _ H' => Q .non H', rt := Q } (start N vs) H :=
  hb ⟨K, [], noW, F, H⟩ F H _ _ ⟨⟨rfl, rfl⟩, fun a z => z.elim⟩ (sim_start e h)
    ⟨fun ρ F' H' σ z s e => q _ F' H' (s.cut rfl) (by rw [show r = .dat .none from z]; exact Dp.non), fun ρ F' H' σ v r' z s e x => q v F' H' (s.cut rfl) (by rw [← show r' = r from z]; exact x), fun _ _ _ _ z => z.elim, fun _ _ _ _ z => z.elim, fun _ _ _ _ _ z => z.elim⟩
theorem Sim.cutS {c : Cc} {F H : Hp} {σ : L2.St} {ρ : Rho} {a : Addr} {st : List D} (s : Sim c F H σ ρ) (hP : c.P = [(0, a)]) (h0 : ρ[0]? = some (.own (.lst st))) : Sim c F H [some (.ref a)] [.own (.lst st)] := by
  obtain ⟨fp, s⟩ := s
  have e0 : σ[0]? = some (some (.ref a)) := s.par 0 a (by rw [hP]; simp)
  have z1 : ∀ (i : Nat) (w : Ow), ([Ent.own (.lst st)] : Rho)[i]? = some (.own w) → i = 0 ∧ w = .lst st := fun i w q => by
    cases i with
    | zero => simp at q; exact ⟨rfl, q.symm⟩
    | succ i => simp at q
  refine ⟨fp, s.f0, s.fh, s.keep, s.dom, s.av, fun i b m => ?_, fun i d q => ?_, fun i w q => ?_, fun i w b q m => ?_, fun i j w w' b q q' _ _ => ?_, rfl, fun i w b q m => ?_, s.pb⟩
  · rw [hP] at m
    have z : (i, b) = (0, a) := by simpa using m
    cases z
    rfl
  · cases i with
    | zero => simp at q
    | succ i => simp at q
  · obtain ⟨rfl, rfl⟩ := z1 i w q
    obtain ⟨b, h1, h2⟩ := s.own 0 _ h0
    have := some_inj2 e0 h1
    subst this
    exact ⟨a, rfl, h2⟩
  · obtain ⟨rfl, rfl⟩ := z1 i w q
    exact s.ownF 0 _ b h0 m
  · exact (z1 i w q).1.trans (z1 j w' q').1.symm
  · obtain ⟨rfl, rfl⟩ := z1 i w q
    exact s.wp 0 _ b h0 m
theorem body_S {t : TS} {N : List Str} {us ws : List V} {a : Addr} {ds st st' : List D} {F H : Hp} {r : RetV} {Q : VK} (e : Same F H) (ha : H a = some (.lst ws)) (hF : F a = none) (hs : DpAll K F ws st) (h : DpAll K F us ds)
    (hb : Sv (gm K [0]) t (rho0 N (.own (.lst st) :: ds.map .dat)) (RetS r st'))
    (q : ∀ v F' H', Sim ⟨K, [(0, a)], (· = a), F, H⟩ F' H' [some (.ref a)] [.own (.lst st')] → RetOk ⟨K, [(0, a)], (· = a), F, H⟩ F' H' v r → Q v H') : t { nx := fun _ H' => Q .non H', rt := Q } (start N (.ref a :: us)) H :=
  hb ⟨K, [(0, a)], (· = a), F, H⟩ F H _ _ ⟨⟨rfl, rfl⟩, fun b z => ⟨0, by rw [show b = a from z]; simp⟩⟩ (sim_startS e ha hF hs h)
    ⟨fun ρ F' H' σ z s e => q _ F' H' (s.cutS rfl z.2) (by rw [z.1]; exact Dp.non), fun ρ F' H' σ v r' z s e x => q v F' H' (s.cutS rfl z.2) (by rw [← z.1]; exact x), fun _ _ _ _ z => z.elim, fun _ _ _ _ z => z.elim, fun _ _ _ _ _ z => z.elim⟩
section
variable {P : Program} {w : World} {mg : Str → Option Value} {base : Heap} {x qual : Str} {st : Stmt} {f : Addr} {fd : FuncData} {N ps : List Str} {k : Nat}
/-- THE RULE for a def of data -/
theorem def_D {R : List D → RetV → Prop} (Fn : Fun K x qual st f fd) (S : FnScope N ps (defScope st)) (len : ∀ ds r, R ds r → ds.length = ps.length)
    {t : TS}
    (ht : ∀ (cdv : Value) (A : Around) (outer : List PySem.Env) (s : Shared) (H : Hp) (E : XK), Room k (A.deeper (envOfC qual (defScope st) s.heap.objs.size f cdv)) → PSs (cxOf CX0 P w K mg base N qual (defScope st) f cdv A outer s H E).nox (defBody st) t)
    (hv : ∀ ds r, R ds r → Sv (gm K []) t (rho0 N (ds.map .dat)) (RetP r)) : FnOk P w K mg base CX0 (k + 1) f fd ps (spD R K) := by
  refine Fn.ok S (fun vs H Q E h => ?_) (fun cdv A outer s H vs Q E hr h => ?_)
  · obtain ⟨F, ds, r, _, h1, h2, _⟩ := h
    rw [dpAllLen h1]
    exact len ds r h2
  · obtain ⟨F, ds, r, e, h1, h2, q⟩ := h
    exact ⟨t, ht cdv A outer s H E hr, body_D e h1 (hv ds r h2) q⟩
/-- .. with a list that it may change -/
theorem def_S {R : List D → List D → RetV → List D → Prop} (Fn : Fun K x qual st f fd) (S : FnScope N ps (defScope st)) (len : ∀ st0 ds r st1, R st0 ds r st1 → ds.length + 1 = ps.length) {t : TS}
    (ht : ∀ (cdv : Value) (A : Around) (outer : List PySem.Env) (s : Shared) (H : Hp) (E : XK), Room k (A.deeper (envOfC qual (defScope st) s.heap.objs.size f cdv)) → PSs (cxOf CX0 P w K mg base N qual (defScope st) f cdv A outer s H E).nox (defBody st) t)
    (hv : ∀ st0 ds r st1, R st0 ds r st1 → Sv (gm K [0]) t (rho0 N (.own (.lst st0) :: ds.map .dat)) (RetS r st1)) : FnOk P w K mg base CX0 (k + 1) f fd ps (spS R K) := by
  refine Fn.ok S (fun vs H Q E h => ?_) (fun cdv A outer s H vs Q E hr h => ?_)
  · obtain ⟨F, a, ws, us, s0, ds, r, s1, rfl, _, _, _, _, h1, h2, _⟩ := h
    rw [List.length_cons, dpAllLen h1]
    exact len _ ds r _ h2
  · obtain ⟨F, a, ws, us, s0, ds, r, s1, rfl, e, ha, hF, hs, h1, h2, q⟩ := h
    exact ⟨t, ht cdv A outer s H E hr, body_S e ha hF hs h1 (hv _ ds r _ h2) q⟩
end
end DL

namespace DL
open PySem PySem.Spec PyProof.Rows L2
variable {K : PySem.W.Frag} {g : Gm} {X : Cx}
def rAddS : R2 := fun x y H Q => ∃ i j, x = .str i ∧ y = .str j ∧ i.length + j.length ≤ sizeLine ∧ Q (.str (i ++ j)) H
def uAdd (K : PySem.W.Frag) : R2 := fun x y H Q => rI0 (fun i j => .int (i + j)) x y H Q ∨ (rAddS x y H Q ∨ rCatA K x y H Q)
theorem op_uAdd : OpR X (binaryOp .Add) (uAdd X.K) := OpR.or op_add (OpR.or op_add_str op_catA)
theorem ra_int {i j : Int} : R2D K (uAdd K) (.int i) (.int j) (.int (i + j)) := r2_or1 r2_int
theorem ra_str {i j : Str} (hz : i.length + j.length ≤ sizeLine) : R2D K (uAdd K) (.str i) (.str j) (.str (i ++ j)) := r2_or2 (r2_or1 fun F H x y Q f a b q => ⟨i, j, a.str, b.str, hz, q _ F H (.at (.str _))⟩)
theorem ra_tup {xs ys : List D} (hz : xs.length + ys.length ≤ sizeLine) : R2D K (uAdd K) (.tuple xs) (.tuple ys) (.tuple (xs ++ ys)) := r2_or2 (r2_or2 (r2_catT hz))
theorem PI.or {tg iter : Expr} {wi wi' : TI} (h : PI X tg iter wi) (h' : PI X tg iter wi') : PI X tg iter (fun σ H R => wi σ H R ∨ wi' σ H R) := by
  refine ⟨fun pins s σ H R I hw => ?_⟩
  rcases hw with hw | hw
  · exact h.run pins s σ H R I hw
  · exact h'.run pins s σ H R I hw
def uIter (K : PySem.W.Frag) (te : TE) : TI := fun σ H R => iList K te σ H R ∨ iTup K te σ H R
theorem pi_u {tg l : Expr} {tl : TE} (hl : PE X l tl) : PI X tg l (uIter X.K tl) := PI.or (pi_list hl) (pi_tup hl)
section
variable {te : TE} {ρ ρ1 : Rho} {ds : List D}
theorem ei_uL (h : EvD g te ρ (.list ds) ρ1) : EvI g (uIter g.K te) ρ ds.length (nthD ds) ρ1 := fun c F H σ k s R q => .inl (ei_list h c F H σ k s R q)
theorem ei_uT (h : EvD g te ρ (.tuple ds) ρ1) : EvI g (uIter g.K te) ρ ds.length (nthD ds) ρ1 := fun c F H σ k s R q => .inr (ei_tup h c F H σ k s R q)
end
theorem units65 {A : Around} {k : Nat} (hr : Room k A) : A.units + 65 < cLine := by have := hr.un; omega
end DL

namespace DL
open PySem PySem.Spec PyProof.Rows L2
variable {K : PySem.W.Frag} {g : Gm}
theorem atI_in {ds : List D} {i : Int} (h0 : 0 ≤ i) (h1 : i < ds.length) : atI ds i = some (nthD ds i.toNat) := by
  have e : i = (i.toNat : Int) := by omega
  conv => lhs; rw [e]
  exact atI_nat (nthD_at (by omega))
theorem atI_own {ds : List D} {i : Int} (h0 : 0 ≤ i) (h1 : i < ds.length) : atI ds i = some (nthD ds i.toNat) := atI_in h0 h1
theorem atI_ints {ns : List Int} {i : Int} (h0 : 0 ≤ i) (h1 : i < ns.length) : atI (ns.map PyData.int) i = some (.int (ns.getD i.toNat 0)) := by
  have e : i = (i.toNat : Int) := by omega
  have hi : i.toNat < ns.length := by omega
  conv => lhs; rw [e]
  refine atI_nat ?_
  rw [List.getElem?_map, List.getElem?_eq_getElem hi, List.getD_eq_getElem?_getD, List.getElem?_eq_getElem hi]
  rfl
/-! ### the drawn numbers -/
structure Good (N : List Int) : Prop where
  pos : 0 < N.length
  len : N.length ≤ 4000
  lo : ∀ x ∈ N, 0 ≤ x
  hi : ∀ x ∈ N, x < 1009
def stAt (N : List Int) (k : Int) : List D := [.list (N.map .int), .int k]
def nxt (N : List Int) (k many : Int) : Int := (N.getD ((k + 1) % N.length).toNat 0 + ((k + 1) / N.length) * 389 + (k + 1) * ((k + 1) / N.length) * 17) % many
def KMax : Int := 1000000000
theorem nxt_lo {N : List Int} {k many : Int} (h : 0 < many) : 0 ≤ nxt N k many := Int.emod_nonneg _ (by omega)
theorem nxt_hi {N : List Int} {k many : Int} (h : 0 < many) : nxt N k many < many := Int.emod_lt_of_pos _ h
theorem good_div {N : List Int} (G : Good N) {k : Int} (h0 : 0 ≤ k) (h1 : k ≤ KMax) : 0 ≤ k / (N.length : Int) ∧ k / (N.length : Int) ≤ KMax := by
  have hp := G.pos
  refine ⟨Int.ediv_nonneg h0 (by omega), Int.le_trans (Int.ediv_le_self _ h0) h1⟩
/-- _law_next -/
def rl_next : List D → List D → RetV → List D → Prop := fun st ds r st' => ∃ (N : List Int) (k many : Int), Good N ∧ 0 ≤ k ∧ k < KMax ∧ 0 < many ∧ st = stAt N k ∧ ds = [.int many] ∧ r = .dat (.int (nxt N k many)) ∧ st' = stAt N (k + 1)
end DL

namespace DL
open PySem PySem.Spec PyProof.Rows L2
variable {K : PySem.W.Frag} {g : Gm}
theorem Wk.trans : ∀ {a b c : Rho}, Wk a b → Wk b c → Wk a c
  | _, _, _, .nil, .nil => .nil
  | _, _, _, .eq h, .eq h' => .eq (h.trans h')
  | _, _, _, .eq h, .no h' => .no (h.trans h')
  | _, _, _, .no h, .eq h' => .no (h.trans h')
  | _, _, _, .no h, .no h' => .no (h.trans h')
theorem Wk.eq' {e e' : Ent} {r r' : Rho} (h : e = e') (w : Wk r r') : Wk (e :: r) (e' :: r') := h ▸ Wk.eq w
theorem own_eq {a b : List D} (h : a = b) : Ent.own (.lst a) = Ent.own (.lst b) := h ▸ rfl
theorem dat_eq {a b : D} (h : a = b) : Ent.dat a = Ent.dat b := h ▸ rfl
theorem Tg.wk {t : TG} {d : D} {ρ ρ0 ρ2 : Rho} (w : Wk ρ ρ0) (h : Tg g t d ρ0 ρ2) : Tg g t d ρ ρ2 := fun c F H σ v hP hk s x Q q => h c F H σ v hP hk (s.wk w) x Q q
def TurnW (E : Nat → Rho) (P : Out → Prop) (i : Nat) : Out → Prop
  | .nx ρ => Wk ρ (E (i + 1))
  | .ct ρ => Wk ρ (E (i + 1))
  | .bk ρ => P (.nx ρ)
  | .rt ρ r => P (.rt ρ r)
  | .ex C ρ => P (.ex C ρ)
theorem sv_forE {wi : TI} {t : TG} {tb : TS} {ρ ρ1 : Rho} {n : Nat} {xs : Nat → D} {P : Out → Prop} (E : Nat → Rho) (hi : EvI g wi ρ n xs ρ1) (h0 : Wk ρ1 (E 0))
    (hs : ∀ i, i < n → ∃ ρ2, Tg g t (xs i) (E i) ρ2 ∧ Sv g tb ρ2 (TurnW E P i)) (hd : ∀ ρ', Wk ρ' (E n) → P (.nx ρ')) : Sv g (tFor wi t tb) ρ P :=
  sv_for (fun i ρ' => Wk ρ' (E i)) hi h0 (fun i ρ' hlt w => by
    obtain ⟨ρ2, ht, hb⟩ := hs i hlt
    exact ⟨ρ2, ht.wk w, hb.mono fun o z => by cases o <;> exact z⟩) hd
theorem sv_wkSq {u : TS} {ρ ρ' : Rho} {P : Out → Prop} (w : Wk ρ ρ') (h : Sv g u ρ' P) : Sq g u P (.nx ρ) := h.wk w

/-! ### the law's stream -/
def dig : Nat → Int → List Int
  | 0, _ => []
  | n + 1, r => r % 1009 :: if r / 1009 = 0 then [] else dig n (r / 1009)
theorem dig_succ (n : Nat) (r : Int) : dig (n + 1) r = r % 1009 :: if r / 1009 = 0 then [] else dig n (r / 1009) := rfl
def mxm (m0 : Int) : Nat → Int
  | 0 => m0
  | i + 1 => (mxm m0 i * 48271 + 7 * (0 + (i : Int)) + 11) % 2147483647
def mxo (m0 : Int) (i : Nat) : Int := (mxm m0 (i + 1) * 69621 + (0 + (i : Int))) % 2147483629 % 1009
def cellAbs (c : Int) : Int := if c < 0 then -c else c
def chunk (c : Int) : List Int := if 10 ^ 18 ≤ cellAbs c then dig 60 (cellAbs c) else (List.range 10).map (mxo (cellAbs c % 2147483647))
def flat (ns : List Int) : List Int := (ns.map chunk).flatten
def streamOf (ns : List Int) : List Int := if flat ns = [] then [0] else flat ns
def rl_stream : List D → RetV → Prop := fun ds r => ∃ ns : List Int, ns.length ≤ 63 ∧ ds = [.list (ns.map .int)] ∧ r = .new (.lst ((streamOf ns).map .int))
theorem dig_bnd : ∀ (n : Nat) (r : Int), ∀ x ∈ dig n r, 0 ≤ x ∧ x < 1009
  | 0, _, x, h => by cases h
  | n + 1, r, x, h => by
    unfold dig at h
    rcases List.mem_cons.mp h with h | h
    · subst h
      omega
    · split at h
      · cases h
      · exact dig_bnd n _ x h
theorem dig_len : ∀ (n : Nat) (r : Int), (dig n r).length ≤ n
  | 0, _ => by simp [dig]
  | n + 1, r => by
    unfold dig
    split
    · simp
    · have := dig_len n (r / 1009)
      simp only [List.length_cons]
      omega
theorem chunk_bnd (c : Int) : ∀ x ∈ chunk c, 0 ≤ x ∧ x < 1009 := fun x h => by
  unfold chunk at h
  split at h
  · exact dig_bnd _ _ x h
  · obtain ⟨i, _, rfl⟩ := List.mem_map.mp h
    unfold mxo
    omega
theorem chunk_len (c : Int) : (chunk c).length ≤ 60 := by
  unfold chunk
  split
  · exact dig_len _ _
  · simp
theorem flat_len : ∀ ns : List Int, (flat ns).length ≤ 60 * ns.length
  | [] => by simp [flat]
  | n :: ns => by
    have h1 := flat_len ns
    have h2 := chunk_len n
    unfold flat at h1 ⊢
    simp only [List.map_cons, List.flatten_cons, List.length_append, List.length_cons]
    omega
theorem flat_bnd (ns : List Int) : ∀ x ∈ flat ns, 0 ≤ x ∧ x < 1009 := fun x h => by
  unfold flat at h
  obtain ⟨l, h1, h2⟩ := List.mem_flatten.mp h
  obtain ⟨c, _, rfl⟩ := List.mem_map.mp h1
  exact chunk_bnd c x h2
theorem good_stream {ns : List Int} (h : ns.length ≤ 63) : Good (streamOf ns) := by
  have h1 := flat_len ns
  have h2 := flat_bnd ns
  unfold streamOf
  split
  · exact ⟨by simp, by simp, fun x m => by simp at m; omega, fun x m => by simp at m; omega⟩
  · rename_i q
    refine ⟨?_, by omega, fun x m => (h2 x m).1, fun x m => (h2 x m).2⟩
    cases e : flat ns with
    | nil => exact absurd e q
    | cons a l => simp
theorem cut_to {ds : List D} {n : Nat} (h : ds.length ≤ n) : cutD ds none (some (n : Int)) = ds := by
  unfold cutD
  rw [HT.sIx_none, HT.sIx_nat]
  simp [Nat.min_eq_right h]
theorem nthD_ints {ns : List Int} {i : Nat} (h : i < ns.length) : nthD (ns.map PyData.int) i = .int (ns.getD i 0) := by
  unfold nthD
  rw [List.getD_eq_getElem?_getD, List.getElem?_map, List.getElem?_eq_getElem h, List.getD_eq_getElem?_getD, List.getElem?_eq_getElem h]
  rfl
theorem flat_take {ns : List Int} {i : Nat} (h : i < ns.length) : flat (ns.take (i + 1)) = flat (ns.take i) ++ chunk (ns.getD i 0) := by
  unfold flat
  rw [List.take_add_one, List.getElem?_eq_getElem h, List.getD_eq_getElem?_getD, List.getElem?_eq_getElem h]
  simp only [Option.toList, List.map_append, List.flatten_append, List.map_cons, List.map_nil, List.flatten_cons, List.flatten_nil, List.append_nil]
  rfl
theorem map_append_one (l : List Int) (x : Int) : l.map PyData.int ++ [.int x] = (l ++ [x]).map .int := by simp
end DL

namespace DL
open PySem PySem.Spec PyProof.Rows L2
/-! ### enumerate(a tuple) -/
set_option maxHeartbeats 8000000 in
theorem enumNew1 {v : Value} {o : Obj} {H : Heap → Prop} (B : Begins v o H) :
    Meets (Builtin.«enumerate.__new__» ⟨[.type "enumerate", v], []⟩) (fun _ R s => H s.heap ∧
      R (.ok (.ret (.ref (s.heap.push o).objs.size))) { s with heap := (s.heap.push o).push { cls := .type "enumerate", data := .fields #[.none, .bool false, .ref s.heap.objs.size, rawInt 0, .none, .none] } }) :=
  .of_wp fun prog w A R s h => by
    obtain ⟨hp, gs, dr, tk, os⟩ := s
    obtain ⟨h1, h⟩ := h
    have hsub := sub_enumerate
    have it1 : ∀ {A' : Around} {E : Value → Shared → Prop} {Q : Value → Shared → Prop}, Q (.ref hp.objs.size) ⟨hp.push o, gs, dr, tk, os⟩ → wpAny (model prog w) A' (pyIter v) Q E ⟨hp, gs, dr, tk, os⟩ :=
      fun q => B.iter prog w _ _ ⟨hp, gs, dr, tk, os⟩ _ h1 q
    wp_walk using it1
    refine wpAny_stack_any fun st => wpAny_pure ?_
    split
    · rename_i c _ _ _ _ _
      cases (c == Value.type "enumerate")
      · (wp_walk using it1); exact ⟨_, rfl, h⟩
      · (wp_walk using it1); exact ⟨_, rfl, h⟩
    · (wp_walk using it1); exact ⟨_, rfl, h⟩
theorem enumCall1 {prog : Program} {w : World} {A : Around} {E : Value → Shared → Prop} {s : Shared} {v : Value} {o : Obj} {H : Heap → Prop} {Q : Value → Shared → Prop} (B : Begins v o H) (h1 : H s.heap)
    (h : ∀ h', IsEnum h' (s.heap.objs.size + 1) s.heap.objs.size 0 .none → h'.get? s.heap.objs.size = some o → (∀ b u, s.heap.get? b = some u → h'.get? b = some u) → Q (.ref (s.heap.objs.size + 1)) { s with heap := h' }) :
    wpAny (model prog w) A (call (.type "enumerate") [v]) Q E s := by
  refine callType_new F.called_enumerate (by decide) (F.typeCall_enumerate_1 _) (F.newCall_enumerate_1 _) (fun obj => F.args_object_init_2 obj _) F.entry_enumerate_new (enumNew1 B) ⟨h1, ?_⟩
  have hz : (s.heap.push o).objs.size = s.heap.objs.size + 1 := Heap.size_push ..
  show _ ∧ _
  rw [hz]
  have he := Heap.get?_push_size (s.heap.push o) (o := { cls := .type "enumerate", data := .fields #[.none, .bool false, .ref s.heap.objs.size, rawInt 0, .none, .none] }) rfl
  rw [hz] at he
  exact ⟨⟨_, he, rfl⟩, h _ he (Heap.get?_push_of_some _ (Heap.get?_push_size _ B.free)) fun b u x => Heap.get?_push_of_some _ (Heap.get?_push_of_some _ x)⟩

def IteT (K : PySem.W.Frag) (a : Addr) : It :=
  ⟨fun i H => ∃ (xs : List V) (x : V), SqT K H a xs ∧ xs[i]? = some x,
    fun i H v H' => ∃ T x, v = .ref T ∧ H T = none ∧ H' = upd H T (.tup [.int (i : Nat), x]) ∧ ∀ xs, SqT K H a xs → xs[i]? = some x,
    fun i H => ∃ xs : List V, SqT K H a xs ∧ xs.length = i⟩
theorem turnEnumT {P : Program} {w : World} {K : PySem.W.Frag} {elts : List Expr} {kk : Nat} {tpos : Pos} (a e it : Addr) :
    L2.Turn P w K (.Tuple elts kk tpos) (IteT K a) [e, it] e (fun i h => (∃ old, IsEnum h e it ((i : Nat) : Int) old) ∧ h.IsTupleIter it a i ∧ e ≠ it) where
  mem := by simp
  obj := fun i h st b hb => by
    obtain ⟨⟨old, he⟩, ⟨o, ho, hc, hd⟩, _⟩ := st
    rcases (show b = e ∨ b = it by simpa using hb) with z | z
    · rw [z]
      exact ⟨_, he, fun v q => nomatch q⟩
    · rw [z]
      exact ⟨o, ho, fun v q => by rw [hd] at q; cases q⟩
  keep := fun i h h' st k => ⟨let ⟨old, he⟩ := st.1; ⟨old, k e (by simp) _ he⟩, st.2.1.at fun o q => k it (by simp) o q, st.2.2⟩
  item := by
    intro X hP hw hK hc i pins s σ H E I hf st hg
    subst hP hw hK
    obtain ⟨⟨old, he⟩, hit, hne⟩ := st
    obtain ⟨xs, x, hq, hx⟩ := hg
    obtain ⟨its, rv, ht, hz⟩ := I.tuple hq
    have hlen := rv.length
    have hi : i < its.toArray.size := by
      have := (List.getElem?_eq_some_iff.mp hx).1
      simp
      omega
    have hae : a ≠ e := fun z => by
      obtain ⟨o, h1, h2, _⟩ := ht
      rw [z] at h1
      have h3 : some o = some _ := h1.symm.trans he
      cases h3
      exact absurd (Value.type.inj h2) (by decide)
    have hai : a ≠ it := fun z => by
      obtain ⟨o, h1, h2, _⟩ := ht
      obtain ⟨o', h3, h4, _⟩ := hit
      rw [z] at h1
      rw [h1] at h3
      cases h3
      rw [h2] at h4
      exact absurd (Value.type.inj h4) (by decide)
    have hel : e < s.heap.objs.size := Heap.lt_size he
    have hil : it < s.heap.objs.size := by
      obtain ⟨_, q, _⟩ := hit
      exact Heap.lt_size q
    have D := Draws.tuple (prog := X.prog) (w := X.w) (A := X.A.in1) (show X.A.in1.handled = none from I.ok.hd hc) it a hai its.toArray
    refine wpAny_pyNext_enum_itemD D he ⟨hit, ht⟩ hi hne (by simp [hne, Ne.symm hae]) fun u h' tk hu ho hst hT hsz hk => ?_
    obtain ⟨u', hu', ru⟩ := rv.get hx
    have eu : u' = u := by
      have : its[i]? = some u := by simpa using hu
      rw [hu'] at this
      cases this
      rfl
    subst eu
    refine ⟨_, rfl, wpAny_letOwnedTupleGo_enum (s := { s with heap := h', toks := tk + 1 }) ho fun h2 he2 sb => ?_⟩
    have hT2 : h2.get? s.heap.objs.size = some { cls := .type "tuple", data := .seq #[.int i tk, u'] } := (sb.2 _ (Nat.ne_of_gt hel)).trans hT
    have new : ObjOk X.prog X.w (upd H s.heap.objs.size (.tup [.int (i : Nat), x])) h2 s.heap.objs.size (.tup [.int (i : Nat), x]) :=
      ⟨by show 2 ≤ sizeLine; decide, [.int i tk, u'], .cons ⟨_, rfl⟩ (.cons ru .nil), ⟨_, hT2, rfl, _, rfl⟩⟩
    have I1 : Inv X pins σ (upd H s.heap.objs.size (.tup [.int (i : Nat), x])) { s with heap := h2, toks := tk + 1 } :=
      I.turnedNew (ch := [e, it]) (fun b ob hb q => (sb.2 b fun z => hb (by simp [z])).trans (hk b ob (fun z => hb (by simp [z])) (fun z => hb (by simp [z])) q)) hf (Nat.le_refl _) new
    refine ⟨.ref s.heap.objs.size, _, I1, rfl, ⟨_, x, rfl, I.hok.fresh (Nat.le_refl _), rfl, fun ys hy => by rw [I.tuple_inj hy hq]; exact hx⟩, ⟨⟨u', ?_⟩, hst.1.at fun o q => (sb.2 it (Ne.symm hne)).trans q, hne⟩, fun b hb => ?_⟩
    · rw [show ((i + 1 : Nat) : Int) = (i : Int) + 1 by omega]
      exact he2
    · have lt : b < s.heap.objs.size := by
        rcases (show b = e ∨ b = it by simpa using hb) with z | z <;> rw [z] <;> assumption
      rw [upd_ne (Nat.ne_of_lt lt)]
      exact (hf b hb).1
  done := by
    intro X hP hw hK hc i pins s σ H E I hf st hg
    subst hP hw hK
    obtain ⟨⟨old, he⟩, hit, hne⟩ := st
    obtain ⟨xs, hq, hx⟩ := hg
    obtain ⟨its, rv, ht, hz⟩ := I.tuple hq
    obtain ⟨f0, f1, f2, f3, f4, f5⟩ := hf it (by simp)
    have hai : a ≠ it := fun z => by
      obtain ⟨o, h1, h2, _⟩ := ht
      obtain ⟨o', h3, h4, _⟩ := hit
      rw [z] at h1
      rw [h1] at h3
      cases h3
      rw [h2] at h4
      exact absurd (Value.type.inj h4) (by decide)
    have D := Draws.tuple (prog := X.prog) (w := X.w) (A := X.A.in1) (show X.A.in1.handled = none from I.ok.hd hc) it a hai its.toArray
    have en : i = its.toArray.size := by
      have := rv.length
      simp
      omega
    subst en
    exact wpAny_pyNext_enum_endD D he ⟨hit, ht⟩ fun h' eb => ⟨rfl, I.turned (t' := s.toks) (fun b o hb q => eb b o hb q) f0 f1 f3 f4 f5⟩
  self := fun A i s Q E st h => let ⟨⟨_, he⟩, _⟩ := st; wpAny_pyIter_enum he h
def iEnT (K : PySem.W.Frag) (ta : TA) : TI := fun σ H R => ta σ H fun vs H1 => ∃ a xs, vs = [.ref a] ∧ SqT K H1 a xs ∧ R (IteT K a) H1
theorem pi_enumT {X : Cx} {e : Expr} {ta : TA} {p pos tpos : Pos} {elts : List Expr} {kk : Nat} (hg : Gl X "enumerate") (hm : X.mg "enumerate" = none) (ha : PA X [e] ta) (hs : starEach [e] X.env = [(false, eval e X.env)] := by rfl) :
    PI X (.Tuple elts kk tpos) (.Call (.Name "enumerate" p) [e] [] pos) (iEnT X.K ta) := by
  refine ⟨fun pins s σ H R I h => ?_⟩
  refine Call_ (ld_blt I hg hm boot_enumerate (PyProof.Rows.callWith_type1 (thn (ha.run pos pins s σ H _ I h) fun us s1 ⟨vs, H1, I1, r1, q1⟩ => ?_) hs rfl))
  obtain ⟨a, xs, rfl, hq, q⟩ := q1
  obtain ⟨u, rfl, ru⟩ := vals1 r1
  cases ru
  obtain ⟨its, rv, ht, hz⟩ := I1.tuple hq
  refine enumCall1 (begins_tuple a its.toArray) ht fun h' he hit hk => wpAny_pyIter_enum he ?_
  refine ⟨s1.heap.objs.size + 1, [s1.heap.objs.size + 1, s1.heap.objs.size], _, _, H1, rfl, I1.kept (t' := s1.toks) hk, turnEnumT a (s1.heap.objs.size + 1) s1.heap.objs.size, ⟨⟨.none, he⟩, ⟨_, hit, rfl, rfl⟩, Nat.succ_ne_self _⟩, fun b hb => ?_, q⟩
  have hle : s1.heap.objs.size ≤ b := by
    rcases (show b = s1.heap.objs.size + 1 ∨ b = s1.heap.objs.size by simpa using hb) with z | z
    · rw [z]
      exact Nat.le_succ _
    · rw [z]
      exact Nat.le_refl _
  exact I1.fpOk hle (I1.hok.fresh hle)
section
variable {g : Gm} {te : TE} {ρ ρ1 : Rho} {ds : List D} {K : PySem.W.Frag}
def pairD (ds : List D) (i : Nat) : D := .tuple [.int (i : Nat), nthD ds i]
theorem walk_enTD {F : Hp} {a : Addr} {vs : List V} (h : SqT K F a vs) (k : DpAll K F vs ds) : WalkD K F (IteT K a) ds.length (pairD ds) := fun F2 H2 e1 e2 => by
  have q : SqT K H2 a vs := stUp e2 (stUp e1 h)
  have hl := dpAllLen k
  refine ⟨fun i hi => ⟨vs, vs[i]'(by omega), q, by simp [show i < vs.length by omega]⟩, ⟨vs, q, hl⟩, fun i x H' hi y => ?_⟩
  obtain ⟨T, v, rfl, hT, rfl, y⟩ := y
  obtain ⟨v', h1, h2⟩ := dpAllGet k (nthD_at hi)
  have := y vs q
  rw [h1] at this
  cases this
  exact ⟨_, .new hT (.cons (.int _) (.cons (dpUp e1 h2) .nil))⟩
theorem ei_enT (h : EvD g te ρ (.tuple ds) ρ1) : EvI g (iEnT g.K (tCons te tNil)) ρ ds.length (pairD ds) ρ1 := fun c F H σ k s R q => h c F H σ k s _ fun v F1 H1 s1 e1 x => by
  have kk : c.K = g.K := k.1
  cases x with
  | tup hs ha =>
    rw [kk] at hs ha
    exact ⟨_, _, rfl, stUp s1.fh hs, q _ F1 H1 s1 e1 (by rw [kk]; exact walk_enTD hs ha)⟩
end
end DL

namespace DL
open PySem PySem.Spec PyProof.Rows L2
variable {K : PySem.W.Frag} {g : Gm} {X : Cx}
/-! ### max, min of ints -/
theorem depthInts : ∀ ns : List Int, PyData.depthAll (ns.map PyData.int) = 0
  | [] => rfl
  | n :: ns => by
    have h := depthInts ns
    simp only [List.map_cons, PyData.depthAll, PyData.depth, h]
    decide
theorem alikeInts (n : Int) (ns : List Int) : PySem.W.AlikeAll (((n :: ns) : List Int).map PyData.int) := by
  refine ⟨fun x hx y hy => ?_, fun x hx => ?_⟩
  · obtain ⟨a, _, rfl⟩ := List.mem_map.mp hx
    obtain ⟨b, _, rfl⟩ := List.mem_map.mp hy
    rfl
  · obtain ⟨a, _, rfl⟩ := List.mem_map.mp hx
    exact fun q => nomatch q
def uMax (K : PySem.W.Frag) : List V → Hp → VK → Prop := fun vs H Q => ∃ (a : Addr) (n : Int) (ns : List Int), vs = [.ref a] ∧ (SqL K H a ((n :: ns).map V.int) ∨ SqT K H a ((n :: ns).map V.int)) ∧ Q (.int (ns.foldl max n)) H
theorem cr_uMax (hc : X.calm = true) (hu : X.A.units + 65 < cLine) : CallR X (.builtin "max") (uMax X.K) := by
  intro pins s σ H vs us Q I r h
  obtain ⟨a, n, ns, rfl, hs, q⟩ := h
  rw [Vals.ref1 r]
  have hd : X.A.units + 1 + PyData.depthAll (((n :: ns) : List Int).map PyData.int) < cLine := by rw [depthInts]; omega
  have fin : ∀ v h' tk bs, Reads h' v (PySem.W.maxD (.int n) (ns.map .int)) bs → (∀ b o, s.heap.get? b = some o → h'.get? b = some o) → EP X pins σ Q v { s with heap := h', toks := tk } := fun v h' tk bs hr hk => by
    rw [PySem.W.maxD_ints] at hr
    obtain ⟨t, rfl, _⟩ := reads_int_inv hr
    exact ⟨.int _, H, I.kept hk, ⟨_, rfl⟩, q⟩
  rcases hs with hs | hs
  · obtain ⟨its, rv, hl, _⟩ := I.list hs
    exact PySem.W.max_list_data (I.ok.hd hc) hl.isList (by simpa using rv.ints.reads s.heap) (alikeInts n ns) hd fun i v h' tk bs _ hr hk => fin v h' tk bs hr hk
  · obtain ⟨its, rv, hl, _⟩ := I.tuple hs
    exact PySem.W.max_tuple_data (I.ok.hd hc) hl (by simpa using rv.ints.reads s.heap) (alikeInts n ns) hd fun i v h' tk bs _ hr hk => fin v h' tk bs hr hk
theorem rc_maxL {n : Int} {ns : List Int} : RCD K (uMax K) [.list ((n :: ns).map .int)] (.int (ns.foldl max n)) := fun F H xs Q f a q => by
  obtain ⟨v, rfl, a1⟩ := a.one
  obtain ⟨p, vs, rfl, h1, k1⟩ := a1.list f
  rw [dp_ints k1] at h1
  exact ⟨p, n, ns, rfl, .inl h1, q _ F H (.at (.int _))⟩
theorem rc_maxT {n : Int} {ns : List Int} : RCD K (uMax K) [.tuple ((n :: ns).map .int)] (.int (ns.foldl max n)) := fun F H xs Q f a q => by
  obtain ⟨v, rfl, a1⟩ := a.one
  obtain ⟨p, vs, rfl, h1, k1⟩ := a1.tup f
  rw [dp_ints k1] at h1
  exact ⟨p, n, ns, rfl, .inr h1, q _ F H (.at (.int _))⟩

/-! ### isinstance of built-in classes -/
def rIsaB (K : PySem.W.Frag) : List V → Hp → VK → Prop := rIsi K
theorem cr_isaB : CallR X (.builtin "isinstance") (rIsaB X.K) := call_isi
def tyN : D → String
  | .none => "NoneType"
  | .bool _ => "bool"
  | .int _ => "int"
  | .str _ => "str"
  | .list _ => "list"
  | .tuple _ => "tuple"
  | .dict _ => "dict"
theorem tyx_of {F H : Hp} {v : V} {d : D} (e : Same F H) (h : Opd K F H v d) : TyX K H v (.type (tyN d)) := by
  cases d with
  | none => rw [h.non]; exact .base .non
  | bool b => rw [h.bl]; exact .base (.bl _)
  | int b => rw [h.int]; exact .base (.int _)
  | str b => rw [h.str]; exact .base (.str _)
  | list ds =>
    obtain ⟨a, vs, rfl, h1, _⟩ := h.list e
    rcases h1 with (h1 | ⟨o, h1⟩) | ⟨o, its, n, hk, hc, _⟩
    · exact .base (.lst h1)
    · exact .base (.frz h1)
    · exact .kList hk hc
  | tuple ds =>
    obtain ⟨a, vs, rfl, h1, _⟩ := h.tup e
    rcases h1 with (h1 | ⟨o, h1⟩) | ⟨o, its, n, hk, hc, _⟩
    · exact .base (.tup h1)
    · exact .fTuple h1
    · exact .kTuple hk hc
  | dict ds =>
    rcases h with h | ⟨_, _, _, _, q, _⟩
    · cases h
    · cases q
theorem ed_isaB {te : TE} {ρ ρ1 : Rho} {A : Arg} {d : D} {T : String} {b : Bool} (ha : EvO g te ρ A ρ1) (dA : A.den ρ1 = some d) (hk : kitB (tyN d) T = some b) : EvD g (tCB (rIsaB g.K) (tCons te (tCons (tC (.ty T)) tNil))) ρ (.bool b) ρ1 := fun c F H σ k s Q q =>
  ha c F H σ k s _ fun v F1 H1 s1 e1 h1 => by
    have o1 := Arg.opd s1 h1 dA
    have kk : c.K = g.K := k.1
    rw [kk] at o1
    exact ⟨v, .ty T, _, _, b, rfl, .ty T, tyx_of s1.fh o1, kit_ty hk, q _ F1 H1 s1 e1 (.bl b)⟩

/-! ### own things changed -/
/-- an own thing at slot i is another one now: what stands in its footprint has changed, nothing else -/
theorem Sim.alter {c : Cc} {F H H' : Hp} {σ : L2.St} {ρ : Rho} {fp : Nat → List Addr} (s : SimF c F H σ ρ fp) {i : Nat} {w w' : Ow} {a : Addr} {f' : List Addr} (he : ρ[i]? = some (.own w)) (hσ : σ[i]? = some (some (.ref a)))
    (hout : ∀ b, b ∉ fp i → b ∉ f' → H' b = H b) (hin : ∀ b ∈ fp i, H' b ≠ none) (hr : OwRep c.K F H' a f' w') (hnew : ∀ b ∈ f', b ∈ fp i ∨ (H b = none ∧ H' b ≠ none)) : Sim c F H' σ (ρ.set i (.own w')) := by
  have hi : i < ρ.length := (List.getElem?_eq_some_iff.mp he).1
  have own' : ∀ (j : Nat) (w1 : Ow), (ρ.set i (.own w'))[j]? = some (.own w1) → (j = i ∧ w1 = w') ∨ (j ≠ i ∧ ρ[j]? = some (.own w1)) := fun j w1 q => by
    by_cases z : j = i
    · subst z
      rw [List.getElem?_set_self hi] at q
      cases q
      exact .inl ⟨rfl, rfl⟩
    · rw [List.getElem?_set_ne (Ne.symm z)] at q
      exact .inr ⟨z, q⟩
  have Bn : ∀ b, H b = none → c.B b = none := fun b z => by
    cases q : c.B b with
    | none => rfl
    | some o => exact absurd z (s.dom b (by simp [q]))
  have nf : ∀ (j : Nat) (w1 : Ow) b, j ≠ i → ρ[j]? = some (.own w1) → b ∈ fp j → b ∉ fp i ∧ b ∉ f' := fun j w1 b z q m => by
    have h1 : b ∉ fp i := fun m' => z (s.sep j i w1 w b q he m m')
    refine ⟨h1, fun m' => ?_⟩
    rcases hnew b m' with z' | ⟨z', _⟩
    · exact h1 z'
    · exact (s.ownF j w1 b q m).2.1 z'
  refine ⟨fun j => if j = i then f' else fp j, s.f0, fun b o q => ?_, fun b o q w1 => ?_, fun b q => ?_, s.av, s.par, fun j d q => ?_, fun j w1 q => ?_, fun j w1 b q m => ?_, fun j k w1 w2 b q q' m m' => ?_, by simpa using s.len, fun j w1 b q m k hk => ?_, s.pb⟩
  · have h1 : b ∉ fp i := fun m => by rw [(s.ownF i w b he m).1] at q; cases q
    have h2 : b ∉ f' := fun m => by
      rcases hnew b m with z | ⟨z, _⟩
      · exact h1 z
      · rw [s.fh b o q] at z; cases z
    rw [hout b h1 h2]
    exact s.fh b o q
  · have h1 : b ∉ fp i := fun m => by
      rcases (s.ownF i w b he m).2.2 with z | z
      · rw [z] at q; cases q
      · exact w1 z
    have h2 : b ∉ f' := fun m => by
      rcases hnew b m with z | ⟨z, _⟩
      · exact h1 z
      · rw [Bn b z] at q; cases q
    rw [hout b h1 h2]
    exact s.keep b o q w1
  · by_cases h1 : b ∈ fp i
    · exact hin b h1
    · by_cases h2 : b ∈ f'
      · rcases hnew b h2 with z | ⟨_, z⟩
        · exact absurd z h1
        · exact z
      · rw [hout b h1 h2]
        exact s.dom b q
  · by_cases z : j = i
    · subst z
      rw [List.getElem?_set_self hi] at q
      cases q
    · rw [List.getElem?_set_ne (Ne.symm z)] at q
      exact s.dat j d q
  · rcases own' j w1 q with ⟨rfl, rfl⟩ | ⟨z, q⟩
    · exact ⟨a, hσ, by simpa using hr⟩
    · obtain ⟨b, k1, k2⟩ := s.own j w1 q
      refine ⟨b, k1, ?_⟩
      rw [if_neg z]
      exact k2.up (Same.refl _) fun x m => hout x (nf j w1 x z q m).1 (nf j w1 x z q m).2
  · rcases own' j w1 q with ⟨rfl, rfl⟩ | ⟨z, q⟩
    · have m : b ∈ f' := by simpa using m
      rcases hnew b m with z | ⟨z, z2⟩
      · obtain ⟨k1, k2, k3⟩ := s.ownF j w b he z
        exact ⟨k1, hin b z, k3⟩
      · exact ⟨freeF s.fh z, z2, .inl (Bn b z)⟩
    · have m : b ∈ fp j := by simpa [z] using m
      obtain ⟨k1, k2, k3⟩ := s.ownF j w1 b q m
      exact ⟨k1, by rw [hout b (nf j w1 b z q m).1 (nf j w1 b z q m).2]; exact k2, k3⟩
  · rcases own' j w1 q with ⟨rfl, rfl⟩ | ⟨z, q⟩
    · rcases own' k w2 q' with ⟨rfl, rfl⟩ | ⟨z', q'⟩
      · rfl
      · exact absurd (by simpa using m) (nf k w2 b z' q' (by simpa [z'] using m')).2
    · rcases own' k w2 q' with ⟨rfl, rfl⟩ | ⟨z', q'⟩
      · exact absurd (by simpa using m') (nf j w1 b z (by assumption) (by simpa [z] using m)).2
      · exact s.sep j k w1 w2 b q q' (by simpa [z] using m) (by simpa [z'] using m')
  · rcases own' j w1 q with ⟨rfl, rfl⟩ | ⟨z, q⟩
    · have m : b ∈ f' := by simpa using m
      rcases hnew b m with z | ⟨z, _⟩
      · exact s.wp j w b he z k hk
      · exact absurd (Bn b z) (s.pb k b hk)
    · exact s.wp j w1 b q (by simpa [z] using m) k hk

/-! ### own dicts with ints and texts as keys -/
def keyD : D → Option Key
  | .int i => some (.inl i)
  | .str x => some (.inr x)
  | _ => none
def keyOf : Key → D
  | .inl i => .int i
  | .inr x => .str x
theorem dp_key {F : Hp} {v : V} {k : Key} (h : Dp K F v (keyOf k)) : v = kV k := by
  cases k with
  | inl i => cases h; rfl
  | inr x => cases h; rfl
def valD (kvs : List (Key × D)) (k : Key) : Option D := (kvs.find? fun kv => decide (kv.1 = k)).map (·.2)
def putD (kvs : List (Key × D)) (k : Key) (d : D) : List (Key × D) := if (kvs.any fun kv => decide (kv.1 = k)) = true then kvs.map (fun kv => if kv.1 = k then (kv.1, d) else kv) else kvs ++ [(k, d)]
theorem kd_len {F : Hp} : ∀ {xs : List (Key × V)} {kvs : List (Key × D)}, KD K F xs kvs → xs.length = kvs.length
  | _, _, .nil => rfl
  | _, _, .cons _ t => by simp [kd_len t]
theorem kd_any {F : Hp} (k : Key) : ∀ {xs : List (Key × V)} {kvs : List (Key × D)}, KD K F xs kvs → (xs.any fun kv => decide (kv.1 = k)) = (kvs.any fun kv => decide (kv.1 = k))
  | _, _, .nil => rfl
  | _, _, .cons (a := p) (b := q) r t => by
    rw [List.any_cons, List.any_cons, kd_any k t, r.1]
theorem kd_val {F : Hp} (k : Key) : ∀ {xs : List (Key × V)} {kvs : List (Key × D)}, KD K F xs kvs → (valV xs k = none ∧ valD kvs k = none) ∨ ∃ v d, valV xs k = some v ∧ valD kvs k = some d ∧ Dp K F v d
  | _, _, .nil => .inl ⟨rfl, rfl⟩
  | _, _, .cons (a := p) (b := q) r t => by
    have ih := kd_val k t
    unfold valV valD at ih ⊢
    rw [List.find?_cons, List.find?_cons, r.1]
    by_cases e : q.1 = k
    · rw [decide_eq_true e]
      exact .inr ⟨p.2, q.2, rfl, rfl, r.2⟩
    · rw [decide_eq_false e]
      exact ih
theorem kd_map {F : Hp} (k : Key) {v : V} {d : D} (hv : Dp K F v d) : ∀ {xs : List (Key × V)} {kvs : List (Key × D)}, KD K F xs kvs → KD K F (xs.map fun kv => if kv.1 = k then (kv.1, v) else kv) (kvs.map fun kv => if kv.1 = k then (kv.1, d) else kv)
  | _, _, .nil => .nil
  | _, _, .cons (a := p) (b := q) r t => by
    refine .cons ?_ (kd_map k hv t)
    dsimp only
    rw [r.1]
    by_cases e : q.1 = k
    · rw [if_pos e, if_pos e]
      exact ⟨rfl, hv⟩
    · rw [if_neg e, if_neg e]
      exact r
theorem kd_app {F : Hp} : ∀ {xs ys : List (Key × V)} {kvs lvs : List (Key × D)}, KD K F xs kvs → KD K F ys lvs → KD K F (xs ++ ys) (kvs ++ lvs)
  | _, _, _, _, .nil, h => h
  | _, _, _, _, .cons r t, h => .cons r (kd_app t h)
theorem kd_put {F : Hp} {k : Key} {v : V} {d : D} (hv : Dp K F v d) {xs : List (Key × V)} {kvs : List (Key × D)} (h : KD K F xs kvs) : KD K F (putK xs k v) (putD kvs k d) := by
  unfold putK putD
  rw [kd_any k h]
  split
  · exact kd_map k hv h
  · exact kd_app h (.cons ⟨rfl, hv⟩ .nil)
theorem Sim.dkAt {c : Cc} {F H : Hp} {σ : L2.St} {ρ : Rho} (s : Sim c F H σ ρ) {i : Nat} {kvs : List (Key × D)} (he : ρ[i]? = some (.own (.dK kvs))) : ∃ a xs, σ[i]? = some (some (.ref a)) ∧ H a = some (.dK xs) ∧ KD c.K F xs kvs ∧ ∀ o w', OwRep c.K F (upd H a o) a [a] w' → Sim c F (upd H a o) σ (ρ.set i (.own w')) := by
  obtain ⟨fp, sf⟩ := s
  obtain ⟨a, e1, e2, xs, e3, e4⟩ := sf.own i _ he
  refine ⟨a, xs, e1, e3, e4, fun o w' hr => Sim.alter sf he e1 (fun b m _ => ?_) (fun b m => ?_) hr (fun b m => .inl (by rw [e2]; exact m))⟩
  · rw [upd_ne (fun z => m (by rw [e2, z]; simp))]
  · by_cases z : b = a
    · rw [z, upd_same]; simp
    · rw [upd_ne z]; exact (sf.ownF i _ b he m).2.1
section
variable {te ti : TE} {ρ ρ1 ρ2 : Rho} {d : D} {i : Nat} {k : Key} {P : Out → Prop} {kvs kvs0 : List (Key × D)}
/-- x = {} -/
theorem sv_newDict (h : P (.nx (ρ.set i (.own (.dK []))))) (hi : i < ρ.length) (hp : i ∉ g.ps) : Sv g (tAsg tDNewK (gName i)) ρ P := fun c F H σ E kk s p q hq => by
  obtain ⟨fp, sf⟩ := id s
  have hB : c.B q = none := by
    cases z : c.B q with
    | none => rfl
    | some u => exact absurd hq (sf.dom q (by simp [z]))
  have no : ∀ (j : Nat) (w : Ow), ρ[j]? = some (.own w) → q ∉ fp j := fun j w z m => (sf.ownF j w q z m).2.1 hq
  exact p.nx _ F (upd H q (.dK [])) _ h ((sf.other (freeF sf.fh hq) hB no).setOwn (f := [q]) ⟨rfl, [], upd_same, .nil⟩ (fun b m => by
    have z : b = q := by simpa using m
    subst z
    exact ⟨freeF sf.fh hq, by rw [upd_same]; simp, hB⟩) (fun j w' b z m => by
    have y : b = q := by simpa using m
    subst y
    exact no j w' z) hi (notP kk hp)) (Same.refl _)
theorem ed_din (hk : EvD g ti ρ (keyOf k) ρ1) (h1 : ρ1[i]? = some (.own (.dK kvs))) : EvD g (tDIn ti (tVar i)) ρ (.bool (valD kvs k).isSome) ρ1 := fun c F H σ kk s Q q => hk c F H σ kk s _ fun v F1 H1 s1 e1 x => by
  obtain ⟨a, xs, f1, f2, f3, _⟩ := s1.dkAt h1
  refine ⟨_, f1, a, valV xs k, rfl, ?_, ?_⟩
  · rw [dp_key x]
    exact DGet.k f2
  · rcases kd_val k f3 with ⟨z1, z2⟩ | ⟨v', d', z1, z2, _⟩ <;> rw [z1] <;> rw [z2] at q <;> exact q _ F1 H1 s1 e1 (.bl _)
theorem ed_dnotin (hk : EvD g ti ρ (keyOf k) ρ1) (h1 : ρ1[i]? = some (.own (.dK kvs))) : EvD g (tDNotIn ti (tVar i)) ρ (.bool (!(valD kvs k).isSome)) ρ1 := fun c F H σ kk s Q q => hk c F H σ kk s _ fun v F1 H1 s1 e1 x => by
  obtain ⟨a, xs, f1, f2, f3, _⟩ := s1.dkAt h1
  refine ⟨_, f1, a, valV xs k, rfl, ?_, ?_⟩
  · rw [dp_key x]
    exact DGet.k f2
  · rcases kd_val k f3 with ⟨z1, z2⟩ | ⟨v', d', z1, z2, _⟩ <;> rw [z1] <;> rw [z2] at q <;> exact q _ F1 H1 s1 e1 (.bl _)
theorem ed_dget (h0 : ρ[i]? = some (.own (.dK kvs0))) (hk : EvD g ti ρ (keyOf k) ρ1) (h1 : ρ1[i]? = some (.own (.dK kvs))) (hd : valD kvs k = some d) : EvD g (tDGet (tVar i) ti) ρ d ρ1 := fun c F H σ kk s Q q => by
  obtain ⟨a, xs, f1, f2, f3, _⟩ := s.dkAt h0
  refine ⟨_, f1, hk c F H σ kk s _ fun v F1 H1 s1 e1 x => ?_⟩
  obtain ⟨a', ys, g1, g2, g3, _⟩ := s1.dkAt h1
  have := some_inj2 f1 g1
  subst this
  rcases kd_val k g3 with ⟨z1, z2⟩ | ⟨v', d', z1, z2, z3⟩
  · rw [z2] at hd; cases hd
  · rw [hd] at z2
    cases z2
    refine ⟨a, v', rfl, ?_, q v' F1 H1 s1 e1 z3⟩
    rw [dp_key x, ← z1]
    exact DGet.k g2
theorem sv_dput (he : EvD g te ρ d ρ1) (h0 : ρ1[i]? = some (.own (.dK kvs0))) (hk : EvD g ti ρ1 (keyOf k) ρ2) (h1 : ρ2[i]? = some (.own (.dK kvs))) (hz : kvs.length < sizeLine) (h : P (.nx (ρ2.set i (.own (.dK (putD kvs k d)))))) :
    Sv g (sDPut (tVar i) ti te) ρ P := fun c F H σ E kk s p => he c F H σ kk.ok s _ fun v F1 H1 s1 e1 x => by
  obtain ⟨a, xs, f1, f2, f3, _⟩ := s1.dkAt h0
  refine ⟨_, f1, hk c F1 H1 σ kk.ok s1 _ fun u F2 H2 s2 e2 y => ?_⟩
  obtain ⟨a', ys, g1, g2, g3, g4⟩ := s2.dkAt h1
  have := some_inj2 f1 g1
  subst this
  refine ⟨a, _, rfl, by rw [dp_key y]; exact DPut.k g2 (by rw [kd_len g3]; exact hz), ?_⟩
  exact p.nx _ _ _ _ h (g4 _ _ ⟨rfl, _, upd_same, kd_put (dpUp e2 x) g3⟩) (e1.trans e2)
end

/-! ### own lists of own lists -/
theorem pairedGet {α β : Type} {R : α → β → Prop} : ∀ {xs : List α} {ys : List β} {i : Nat} {y : β}, Paired R xs ys → ys[i]? = some y → ∃ x, xs[i]? = some x ∧ R x y
  | _, _, _, _, .nil, e => by simp at e
  | _, _, 0, _, .cons r _, e => by simp at e; subst e; exact ⟨_, rfl, r⟩
  | _, _, i + 1, _, .cons _ t, e => by
    obtain ⟨x, h1, h2⟩ := pairedGet (i := i) t (by simpa using e)
    exact ⟨x, by simpa using h1, h2⟩
theorem pairedLen {α β : Type} {R : α → β → Prop} : ∀ {xs : List α} {ys : List β}, Paired R xs ys → xs.length = ys.length
  | _, _, .nil => rfl
  | _, _, .cons _ t => by simp [pairedLen t]
theorem pairedApp {α β : Type} {R : α → β → Prop} : ∀ {xs xs' : List α} {ys ys' : List β}, Paired R xs ys → Paired R xs' ys' → Paired R (xs ++ xs') (ys ++ ys')
  | _, _, _, _, .nil, h => h
  | _, _, _, _, .cons r t, h => .cons r (pairedApp t h)
theorem pairedSet {α β : Type} {R S : α → β → Prop} {y' : β} : ∀ {xs : List α} {ys : List β} {i : Nat} {x : α}, Paired R xs ys → xs[i]? = some x → xs.Nodup → S x y' → (∀ z y, z ≠ x → R z y → S z y) → Paired S xs (ys.set i y')
  | _, _, _, _, .nil, e, _, _, _ => by simp at e
  | x0 :: xs, _, 0, x, .cons r t, e, nd, h, f => by
    have e' : x0 = x := by simpa using e
    subst e'
    have nm : x0 ∉ xs := (List.nodup_cons.mp nd).1
    exact .cons h (pairedMap t fun z y m q => f z y (fun q2 => nm (q2 ▸ m)) q)
  | x0 :: xs, y0 :: ys, i + 1, x, .cons r t, e, nd, h, f => by
    have e' : xs[i]? = some x := by simpa using e
    have nm : x0 ∉ xs := (List.nodup_cons.mp nd).1
    have mx : x ∈ xs := List.mem_of_getElem? e'
    exact .cons (f _ _ (fun q => nm (q ▸ mx)) r) (pairedSet t e' (List.nodup_cons.mp nd).2 h f)
section
variable {te ti : TE} {ρ ρ1 ρ2 : Rho} {d : D} {i : Nat} {P : Out → Prop} {dss dss0 : List (List D)} {ds : List D}
/-- x = [] that is to hold own lists -/
theorem sv_newLls {tl : TE} (he : EvN g tl ρ [] ρ1) (h : P (.nx (ρ1.set i (.own (.lls []))))) (hi : i < ρ1.length) (hp : i ∉ g.ps) : Sv g (tAsg tl (gName i)) ρ P := fun c F H σ E kk s p =>
  he c F H σ kk.ok s _ fun q vs F1 H1 s1 e1 hq ha => by
    cases ha
    obtain ⟨fp, sf⟩ := id s1
    have hB : c.B q = none := by
      cases z : c.B q with
      | none => rfl
      | some u => exact absurd hq (sf.dom q (by simp [z]))
    have no : ∀ (j : Nat) (w : Ow), ρ1[j]? = some (.own w) → q ∉ fp j := fun j w z m => (sf.ownF j w q z m).2.1 hq
    exact p.nx _ F1 _ _ h ((sf.other (freeF sf.fh hq) hB no).setOwn (f := [q]) ⟨[], rfl, by simp, upd_same, .nil⟩ (fun b m => by
      have z : b = q := by simpa using m
      subst z
      exact ⟨freeF sf.fh hq, by rw [upd_same]; simp, hB⟩) (fun j w' b z m => by
      have y : b = q := by simpa using m
      subst y
      exact no j w' z) hi (notP kk hp)) e1
theorem Sim.llsAt {c : Cc} {F H : Hp} {σ : L2.St} {ρ : Rho} (s : Sim c F H σ ρ) (he : ρ[i]? = some (.own (.lls dss))) : ∃ a bs fp, SimF c F H σ ρ fp ∧ fp i = a :: bs ∧ (a :: bs).Nodup ∧ σ[i]? = some (some (.ref a)) ∧ H a = some (.lst (bs.map V.ref)) ∧ Paired (fun b ds => ∃ vs, H b = some (.lst vs) ∧ DpAll c.K F vs ds) bs dss := by
  obtain ⟨fp, sf⟩ := s
  obtain ⟨a, e1, bs, e2, e3, e4, e5⟩ := sf.own i _ he
  exact ⟨a, bs, fp, sf, e2, by rw [← e2]; exact e3, e1, e4, e5⟩
/-- len(x) -/
theorem ed_lenLls (h0 : ρ[i]? = some (.own (.lls dss))) : EvD g (tCB (rLen g.K) (tCons (tVar i) tNil)) ρ (.int dss.length) ρ := fun c F H σ kk s Q q => by
  obtain ⟨a, bs, fp, sf, e2, e3, e1, e4, e5⟩ := s.llsAt h0
  refine ⟨_, e1, a, bs.map V.ref, rfl, .inl (.inl (.inl e4)), ?_⟩
  have : ((bs.map V.ref).length : Int) = dss.length := by rw [List.length_map, pairedLen e5]
  rw [this]
  exact q _ F H s (Same.refl _) (.int _)
/-- x.append([..]) -/
theorem sv_appLls (h0 : ρ[i]? = some (.own (.lls dss0))) (he : EvN g te ρ ds ρ1) (h1 : ρ1[i]? = some (.own (.lls dss))) (hz : dss.length < sizeLine) (h : P (.nx (ρ1.set i (.own (.lls (dss ++ [ds])))))) :
    Sv g (tDrop (tBM g.K "list" rAppend (tVar i) (tCons te tNil))) ρ P := fun c F H σ E kk s p => by
  obtain ⟨a, bs, fp, sf, e2, e3, e1, e4, e5⟩ := s.llsAt h0
  refine ⟨.ref a, e1, .inl ⟨rfl, _, .inl (.inl e4)⟩, he c F H σ kk.ok s _ fun q vs F1 H1 s1 q1 hq x => ?_⟩
  obtain ⟨a', bs', fp', sf', f2, f3, f1, f4, f5⟩ := s1.llsAt h1
  have := some_inj2 e1 f1
  subst this
  have haq : a ≠ q := fun z => by rw [z, hq] at f4; cases f4
  have nq : ∀ b ∈ bs', b ≠ q := fun b m z => by
    have := (sf'.ownF i _ b h1 (by rw [f2]; exact List.mem_cons_of_mem _ m)).2.1
    rw [z] at this
    exact this hq
  have hl := pairedLen f5
  refine ⟨a, bs'.map V.ref, .ref q, rfl, rfl, by rw [upd_ne haq]; exact f4, by rw [List.length_map, hl]; exact hz, ?_⟩
  have eH : upd (upd H1 q (.lst vs)) a (.lst (bs'.map V.ref ++ [.ref q])) = upd (upd H1 q (.lst vs)) a (.lst ((bs' ++ [q]).map V.ref)) := by rw [List.map_append]; rfl
  rw [eH]
  refine p.nx _ F1 _ _ h (Sim.alter (f' := a :: (bs' ++ [q])) sf' h1 f1 (fun b m m' => ?_) (fun b m => ?_) ⟨bs' ++ [q], rfl, ?_, upd_same, ?_⟩ (fun b m => ?_)) q1
  · rw [f2] at m
    have z1 : b ≠ a := fun z => m (by simp [z])
    have z2 : b ≠ q := fun z => m' (by simp [z])
    rw [upd_ne z1, upd_ne z2]
  · by_cases z1 : b = a
    · rw [z1, upd_same]; simp
    · rw [upd_ne z1]
      by_cases z2 : b = q
      · rw [z2, upd_same]; simp
      · rw [upd_ne z2]; exact (sf'.ownF i _ b h1 m).2.1
  · have nd := f3
    have : (a :: (bs' ++ [q])) = (a :: bs') ++ [q] := rfl
    rw [this]
    refine List.nodup_append.mpr ⟨nd, by simp, fun b m c' m' => ?_⟩
    have : c' = q := by simpa using m'
    subst this
    rcases List.mem_cons.mp m with z | z
    · rw [z]; exact haq
    · exact nq b z
  · refine pairedApp (pairedMap f5 fun b ds' m ⟨ws, k1, k2⟩ => ⟨ws, ?_, k2⟩) (.cons ⟨vs, ?_, x⟩ .nil)
    · have z1 : b ≠ a := fun z => (List.nodup_cons.mp f3).1 (z ▸ m)
      rw [upd_ne z1, upd_ne (nq b m)]
      exact k1
    · rw [upd_ne (Ne.symm haq)]
      exact upd_same
  · rcases List.mem_cons.mp m with z | z
    · exact .inl (by rw [f2, z]; simp)
    · rcases List.mem_append.mp z with z | z
      · exact .inl (by rw [f2]; exact List.mem_cons_of_mem _ z)
      · have : b = q := by simpa using z
        subst this
        exact .inr ⟨hq, by rw [upd_ne (Ne.symm haq), upd_same]; simp⟩
theorem set_same {σ : L2.St} {i : Nat} {v : V} (h : σ[i]? = some (some v)) : σ.set i (some v) = σ := by
  apply List.ext_getElem?
  intro n
  by_cases z : n = i
  · subst z
    rw [List.getElem?_set_self (List.getElem?_eq_some_iff.mp h).1, h]
  · rw [List.getElem?_set_ne (Ne.symm z)]
/-- one own thing hidden: what is done then leaves it as it is -/
theorem SimF.hide {c : Cc} {F H : Hp} {σ : L2.St} {fp : Nat → List Addr} (s : SimF c F H σ ρ fp) (i : Nat) : SimF c F H σ (ρ.set i .no) fp := by
  have o' : ∀ (j : Nat) (w : Ow), (ρ.set i .no)[j]? = some (.own w) → j ≠ i ∧ ρ[j]? = some (.own w) := fun j w q => by
    by_cases z : j = i
    · subst z
      by_cases hl : j < ρ.length
      · rw [List.getElem?_set_self hl] at q; cases q
      · rw [List.getElem?_eq_none (by simpa using hl)] at q; cases q
    · rw [List.getElem?_set_ne (Ne.symm z)] at q; exact ⟨z, q⟩
  have d' : ∀ (j : Nat) (d : D), (ρ.set i .no)[j]? = some (.dat d) → ρ[j]? = some (.dat d) := fun j w q => by
    by_cases z : j = i
    · subst z
      by_cases hl : j < ρ.length
      · rw [List.getElem?_set_self hl] at q; cases q
      · rw [List.getElem?_eq_none (by simpa using hl)] at q; cases q
    · rw [List.getElem?_set_ne (Ne.symm z)] at q; exact q
  exact ⟨s.f0, s.fh, s.keep, s.dom, s.av, s.par, fun j d q => s.dat j d (d' j d q), fun j w q => s.own j w (o' j w q).2, fun j w b q => s.ownF j w b (o' j w q).2, fun j k w w' b q q' => s.sep j k w w' b (o' j w q).2 (o' k w' q').2, by simpa using s.len, fun j w b q => s.wp j w b (o' j w q).2, s.pb⟩
theorem hide_own {i j : Nat} {w : Ow} (q : (ρ.set i .no)[j]? = some (.own w)) : j ≠ i ∧ ρ[j]? = some (.own w) := by
  by_cases z : j = i
  · subst z
    by_cases hl : j < ρ.length
    · rw [List.getElem?_set_self hl] at q; cases q
    · rw [List.getElem?_eq_none (by simpa using hl)] at q; cases q
  · rw [List.getElem?_set_ne (Ne.symm z)] at q; exact ⟨z, q⟩
/-- x[e].append(e') -/
theorem sv_appAt {n : Int} {j : Nat} (h0 : ρ[i]? = some (.own (.lls dss0))) (hi : EvD g ti ρ (.int n) ρ1) (h1 : ρ1[i]? = some (.own (.lls dss))) (hj : ixN dss.length n = some j) (he : EvD g te (ρ1.set i .no) d ρ2) (hd : dss[j]? = some ds) (hz : ds.length < sizeLine)
    (h : P (.nx (ρ2.set i (.own (.lls (dss.set j (ds ++ [d]))))))) (hil : i < ρ2.length) (hp : i ∉ g.ps) : Sv g (tDrop (tBM g.K "list" rAppend (tOp (rIx g.K) (tVar i) ti) (tCons te tNil))) ρ P := fun c F H σ E kk s p => by
  obtain ⟨a, bs, fp, sf, e2, e3, e1, e4, e5⟩ := s.llsAt h0
  refine ⟨.ref a, e1, hi c F H σ kk.ok s _ fun v F1 H1 s1 q1 x => ?_⟩
  cases x
  obtain ⟨a', bs', fp', sf', f2, f3, f1, f4, f5⟩ := s1.llsAt h1
  have := some_inj2 e1 f1
  subst this
  obtain ⟨b, hb, ws, hw, hwd⟩ := pairedGet f5 hd
  have hl := pairedLen f5
  refine .inl ⟨a, bs'.map V.ref, n, .ref b, rfl, rfl, .inl (.inl f4), ?_, ?_⟩
  · unfold atI
    rw [List.length_map, hl, hj]
    show (bs'.map V.ref)[j]? = _
    rw [List.getElem?_map, hb]
    rfl
  · have sh := sf'.hide i
    refine ⟨.inl ⟨rfl, ws, .inl (.inl hw)⟩, he (c.re F1 H1 (ownW (ρ1.set i .no) fp')) F1 H1 σ kk.ok ⟨fp', sh.re⟩ _ fun v F2 H2 s2 q2 y => ?_⟩
    obtain ⟨fp2, sf2⟩ := s2
    have nW : ∀ z ∈ fp' i, ¬ ownW (ρ1.set i .no) fp' z := fun z m ⟨k, w, q, m'⟩ => by
      obtain ⟨ne, q'⟩ := hide_own q
      exact ne (sf'.sep k i w _ z q' h1 m' m)
    have same : ∀ z ∈ fp' i, H2 z = H1 z := fun z m => by
      cases q : H1 z with
      | none => exact absurd q (sf'.ownF i _ z h1 m).2.1
      | some o => exact sf2.keep z o q (nW z m)
    have fr : ∀ z ∈ fp' i, F2 z = none ∧ c.B z = none := fun z m => by
      obtain ⟨k1, k2, k3⟩ := sf'.ownF i _ z h1 m
      refine ⟨sf2.av z k2 k1, k3.resolve_right fun w => ?_⟩
      obtain ⟨j', hj'⟩ := kk.wp z w
      have := sf'.wp i _ z h1 m j' hj'
      subst this
      exact notP kk hp z hj'
    have no : ∀ (k : Nat) (w : Ow) z, ρ2[k]? = some (.own w) → z ∈ fp' i → z ∉ fp2 k := fun k w z q m m' => by
      rcases (sf2.ownF k w z q m').2.2 with e | e
      · exact (sf'.ownF i _ z h1 m).2.1 e
      · exact nW z m e
    have ma : a ∈ fp' i := by rw [f2]; simp
    have mbs : ∀ z ∈ bs', z ∈ fp' i := fun z m => by rw [f2]; exact List.mem_cons_of_mem _ m
    have mb : b ∈ fp' i := mbs b (List.mem_of_getElem? hb)
    have hba : b ≠ a := fun z => (List.nodup_cons.mp f3).1 (z ▸ List.mem_of_getElem? hb)
    refine ⟨b, ws, v, rfl, rfl, by rw [same b mb]; exact hw, by rw [dpAllLen hwd]; exact hz, ?_⟩
    have t2 := (sh.un sf2).other (o := .lst (ws ++ [v])) (fr b mb).1 (fr b mb).2 (fun k w q m => no k w b q mb m)
    have e12 : Same F1 F2 := sf2.f0
    have t3 := t2.setOwn (i := i) (a := a) (f := fp' i) (w := .lls (dss.set j (ds ++ [d]))) ?_ (fun z m => ⟨(fr z m).1, ?_, (fr z m).2⟩) (fun k w z q m => no k w z q m) hil (notP kk hp)
    · rw [set_same f1] at t3
      exact p.nx _ F2 _ _ h t3 (q1.trans e12)
    · rw [f2]
      refine ⟨bs', rfl, f3, by rw [upd_ne (Ne.symm hba), same a ma]; exact f4, ?_⟩
      refine pairedSet (pairedMap (S := fun b ds => ∃ vs, H2 b = some (.lst vs) ∧ DpAll c.K F2 vs ds) f5 fun z ds' m ⟨us, k1, k2⟩ => ⟨us, by rw [same z (mbs z m)]; exact k1, dpAllUp e12 k2⟩) hb (List.nodup_cons.mp f3).2 ⟨ws ++ [v], upd_same, dpAllApp (dpAllUp e12 hwd) (.cons y .nil)⟩ fun z ds' ne ⟨us, k1, k2⟩ => ⟨us, by rw [upd_ne ne]; exact k1, k2⟩
    · by_cases q : z = b
      · rw [q, upd_same]; simp
      · rw [upd_ne q, same z m]; exact (sf'.ownF i _ z h1 m).2.1
end
end DL

namespace DL
open PySem PySem.Spec PyProof.Rows L2
variable {K : PySem.W.Frag} {g : Gm} {X : Cx}
/-! ### own things lent as data for a look -/
def lentE : Ent → Ent
  | .dat d => .dat d
  | .own (.lst ds) => .dat (.list ds)
  | .own (.lls dss) => .dat (.list (dss.map .list))
  | _ => .no
theorem lendF {c : Cc} {F H : Hp} {σ : L2.St} {ρ : Rho} {fp : Nat → List Addr} (s : SimF c F H σ ρ fp) : ∃ F', Same F F' ∧ Sim (c.re F' H noW) F' H σ (ρ.map lentE) := by
  classical
  let own1 : Addr → Prop := fun a => ∃ (i : Nat) (w : Ow), ρ[i]? = some (.own w) ∧ a ∈ fp i
  let F' : Hp := fun a => if own1 a then H a else F a
  have e1 : Same F F' := fun a o q => by
    have : ¬ own1 a := fun ⟨i, w, e, m⟩ => by rw [(s.ownF i w a e m).1] at q; cases q
    simp only [F', if_neg this]
    exact q
  have e2 : Same F' H := fun a o q => by
    by_cases z : own1 a
    · simpa [F', if_pos z] using q
    · simp only [F', if_neg z] at q
      exact s.fh a o q
  have at1 : ∀ a, own1 a → F' a = H a := fun a z => by simp only [F', if_pos z]
  have own0 : ∀ (i : Nat) (w : Ow), (ρ.map lentE)[i]? ≠ some (.own w) := fun i w q => by
    rw [List.getElem?_map] at q
    cases e : ρ[i]? with
    | none => rw [e] at q; cases q
    | some en =>
      rw [e] at q
      cases en with
      | no => cases q
      | dat d => cases q
      | own w' => cases w' <;> cases q
  refine ⟨F', e1, fun _ => [], Same.refl _, e2, fun a o q _ => q, fun a q => q, fun a _ q => q, s.par, fun i d q => ?_, fun i w q => (own0 i w q).elim, fun i w b q => (own0 i w q).elim, fun i j w w' b q => (own0 i w q).elim, by rw [List.length_map]; exact s.len, fun i w b q => (own0 i w q).elim, fun j b m => s.dom b (s.pb j b m)⟩
  rw [List.getElem?_map] at q
  cases e : ρ[i]? with
  | none => rw [e] at q; cases q
  | some en =>
    rw [e] at q
    cases en with
    | no => cases q
    | dat d' =>
      cases q
      obtain ⟨v, h1, h2⟩ := s.dat i _ e
      exact ⟨v, h1, dpUp e1 h2⟩
    | own w =>
      obtain ⟨a, h1, h2⟩ := s.own i w e
      cases w with
      | lst ds =>
        cases q
        obtain ⟨e3, vs, h3, h4⟩ := h2
        exact ⟨_, h1, .lst (.inl (.inl (by rw [at1 a ⟨i, _, e, by rw [e3]; simp⟩]; exact h3))) (dpAllUp e1 h4)⟩
      | lls dss =>
        cases q
        obtain ⟨bs, e3, nd, h3, h4⟩ := h2
        refine ⟨_, h1, .lst (.inl (.inl (by rw [at1 a ⟨i, _, e, by rw [e3]; simp⟩]; exact h3))) ?_⟩
        have all : ∀ (bs' : List Addr) (dss' : List (List D)), (∀ b ∈ bs', b ∈ fp i) → Paired (fun b ds => ∃ vs, H b = some (.lst vs) ∧ DpAll c.K F vs ds) bs' dss' → DpAll c.K F' (bs'.map V.ref) (dss'.map .list) := by
          intro bs' dss' hm hp
          induction hp with
          | nil => exact .nil
          | cons r t ih =>
            obtain ⟨vs, k1, k2⟩ := r
            refine .cons (.lst (.inl (.inl ?_)) (dpAllUp e1 k2)) (ih fun b m => hm b (List.mem_cons_of_mem _ m))
            rw [at1 _ ⟨i, _, e, hm _ List.mem_cons_self⟩]
            exact k1
        exact all bs dss (fun b m => by rw [e3]; exact List.mem_cons_of_mem _ m) h4
      | dK kvs => cases q
/-- back: all stood as it was -/
theorem lendBack {c : Cc} {F H F' F2 H2 : Hp} {σ : L2.St} {ρ ρ' : Rho} {fp : Nat → List Addr} (s : SimF c F H σ ρ fp) (t : Sim (c.re F' H noW) F2 H2 σ ρ') : Sim c F H2 σ ρ := by
  obtain ⟨fp', t⟩ := t
  have k : ∀ a o, H a = some o → H2 a = some o := fun a o q => t.keep a o q id
  have ke : ∀ (i : Nat) (w : Ow) b, ρ[i]? = some (.own w) → b ∈ fp i → H2 b = H b := fun i w b q m => by
    cases z : H b with
    | none => exact absurd z (s.ownF i w b q m).2.1
    | some o => exact k b o z
  refine ⟨fp, s.f0, fun a o q => k a o (s.fh a o q), fun a o q w => k a o (s.keep a o q w), fun a q => t.dom a (s.dom a q), s.av, s.par, s.dat, fun i w q => ?_, fun i w b q m => ?_, s.sep, s.len, s.wp, s.pb⟩
  · obtain ⟨a, h1, h2⟩ := s.own i w q
    exact ⟨a, h1, h2.up (Same.refl _) fun b m => ke i w b q m⟩
  · obtain ⟨h1, h2, h3⟩ := s.ownF i w b q m
    exact ⟨h1, by rw [ke i w b q m]; exact h2, h3⟩
theorem et_lend {tt : TT} {ρ ρ' : Rho} {b : Bool} (h : EvT g tt (ρ.map lentE) b ρ') : EvT g tt ρ b ρ := fun c F H σ k s Q q => by
  obtain ⟨fp, sf⟩ := s
  obtain ⟨F', e, s'⟩ := lendF sf
  exact h (c.re F' H noW) F' H σ k s' Q fun F2 H2 s2 _ => q F H2 (lendBack sf s2) (Same.refl _)
theorem ed_lend {te : TE} {ρ ρ' : Rho} {d : D} (h : EvD g te (ρ.map lentE) d ρ') (ha : ∀ (K : PySem.W.Frag) (F F' : Hp) (v : V), Dp K F v d → Dp K F' v d) : EvD g te ρ d ρ := fun c F H σ k s Q q => by
  obtain ⟨fp, sf⟩ := s
  obtain ⟨F', e, s'⟩ := lendF sf
  exact h (c.re F' H noW) F' H σ k s' Q fun v F2 H2 s2 _ x => q v F H2 (lendBack sf s2) (Same.refl _) (ha _ _ _ _ x)
theorem atomI {i : Int} : ∀ (K : PySem.W.Frag) (F F' : Hp) (v : V), Dp K F v (.int i) → Dp K F' v (.int i) := fun K F F' v h => by cases h; exact .int i
theorem atomB {i : Bool} : ∀ (K : PySem.W.Frag) (F F' : Hp) (v : V), Dp K F v (.bool i) → Dp K F' v (.bool i) := fun K F F' v h => by cases h; exact .bl i
theorem atomS {i : Str} : ∀ (K : PySem.W.Frag) (F F' : Hp) (v : V), Dp K F v (.str i) → Dp K F' v (.str i) := fun K F F' v h => by cases h; exact .str i

/-! ### exceptions -/
inductive RetX where
  | ok (r : RetV)
  | exc (C : Addr)
def RxOk (K : PySem.W.Frag) (F H : Hp) (Q : VK) (E : XK) : RetX → Prop
  | .ok r => ∀ v F' H', Sim ⟨K, [], noW, F, H⟩ F' H' [] [] → RetOk ⟨K, [], noW, F, H⟩ F' H' v r → Q v H'
  | .exc C => ∀ F' H', Sim ⟨K, [], noW, F, H⟩ F' H' [] [] → E (.ref C) none H'
def spX (R : List D → RetX → Prop) (K : PySem.W.Frag) : Sp := fun vs H Q E => ∃ F ds r, Same F H ∧ DpAll K F vs ds ∧ R ds r ∧ RxOk K F H Q E r
/-- raise C('..') -/
def tRaiseO (C : Addr) (E : XK) : TS := fun _ _ H => E (.ref C) none H
theorem sv_raise {ρ : Rho} {C : Addr} {P : Out → Prop} (h : P (.ex C ρ)) : Sv g (tRaiseO C g.xe) ρ P := fun c F H σ E k s p => p.ex _ _ _ _ _ h s (Same.refl _)
def RetXP (r : RetX) : Out → Prop
  | .nx _ => r = .ok (.dat .none)
  | .rt _ r' => r = .ok r'
  | .ex C _ => r = .exc C
  | _ => False
theorem body_X {t : TS} {N : List Str} {vs : List V} {ds : List D} {F H : Hp} {r : RetX} {Q : VK} {E : XK} (e : Same F H) (h : DpAll K F vs ds) (hb : Sv ⟨K, [], E⟩ t (rho0 N (ds.map .dat)) (RetXP r))
    (q : RxOk K F H Q E r) : t { nx := fun _ H' => Q .non H', rt := Q } (L2.start N vs) H :=
  hb ⟨K, [], noW, F, H⟩ F H _ _ ⟨⟨rfl, rfl⟩, fun a z => z.elim⟩ (sim_start e h)
    ⟨fun ρ F' H' σ z s e => by
      have z : r = .ok (.dat .none) := z
      subst z
      exact q _ F' H' (s.cut rfl) Dp.non, fun ρ F' H' σ v r' z s e x => by
      have z : r = .ok r' := z
      subst z
      exact q v F' H' (s.cut rfl) x, fun _ _ _ _ z => z.elim, fun _ _ _ _ z => z.elim, fun ρ F' H' σ C z s e => by
      have z : r = .exc C := z
      subst z
      exact q F' H' (s.cut rfl)⟩
section
variable {P : Program} {w : World} {mg : Str → Option Value} {base : Heap} {x qual : Str} {st : Stmt} {f : Addr} {fd : FuncData} {N ps : List Str} {k : Nat}
theorem def_X {R : List D → RetX → Prop} (Fn : Fun K x qual st f fd) (S : FnScope N ps (defScope st)) (len : ∀ ds r, R ds r → ds.length = ps.length) {t : XK → TS}
    (ht : ∀ (cdv : Value) (A : Around) (outer : List PySem.Env) (s : Shared) (H : Hp) (E : XK), Room k (A.deeper (envOfC qual (defScope st) s.heap.objs.size f cdv)) → PSs (cxOf (L2.CX P w) P w K mg base N qual (defScope st) f cdv A outer s H E) (defBody st) (t E))
    (hv : ∀ ds r E, R ds r → Sv ⟨K, [], E⟩ (t E) (rho0 N (ds.map .dat)) (RetXP r)) : FnOk P w K mg base (L2.CX P w) (k + 1) f fd ps (spX R K) := by
  refine Fn.okX S (fun vs H Q E h => ?_) (fun cdv A outer s H vs Q E hr h => ?_)
  · obtain ⟨F, ds, r, _, h1, h2, _⟩ := h
    rw [dpAllLen h1]
    exact len ds r h2
  · obtain ⟨F, ds, r, e, h1, h2, q⟩ := h
    exact ⟨t E, ht cdv A outer s H E hr, body_X e h1 (hv ds r E h2) q⟩
end
/-- nothing is let out where it is not wished -/
theorem passX {P : Program} {w : World} (hP : X.prog = P) (hw : X.w = w) : Passes (L2.CX P w) X E0 := fun _ _ _ _ _ _ _ ⟨_, _, _, _, _, _, _, _, _, _, _, _, z⟩ => z.elim
section
variable {t : TA} {ρ ρ1 : Rho} {As : List Arg} {ds : List D} {d : D} {E : XK}
/-- a call that gives a value -/
theorem ed_callX {R : List D → RetX → Prop} (ha : EvA g t ρ As ρ1) (hR : R ds (.ok (.dat d))) (hd : datas As = some ds := by rfl) : EvD g (tCall (spX R g.K) [] E t) ρ d ρ1 := fun c F H σ k s Q q =>
  ha c F H σ k s _ fun vs F1 H1 s1 e1 h1 => by
    have kk : c.K = g.K := k.1
    obtain ⟨fp, sf⟩ := id s1
    rw [List.append_nil, ← kk]
    refine ⟨F1, ds, .ok (.dat d), s1.fh, h1.datas hd, hR, fun v F' H' t r => ?_⟩
    have t' := sf.after t
    exact q v F' H' ⟨fp, t'⟩ (e1.trans t.f0) r
/-- try: f(..) except C as e: suite -/
def tTryCall (R : List D → RetX → Prop) (K : PySem.W.Frag) (c : Value) (i : Nat) (ts : Addr → Value → Option Addr → TS) (t : TA) : TS := fun D σ H => tDrop (tCallS (spX R K) (WE (wAs K c i ts (fun _ _ _ _ => False) D)) t) D σ H
theorem sv_tryOk {R : List D → RetX → Prop} {cv : Value} {i : Nat} {ts : Addr → Value → Option Addr → TS} {P : Out → Prop} (ha : EvA g t ρ As ρ1) (hR : R ds (.ok (.dat d))) (hd : datas As = some ds) (h : P (.nx ρ1)) : Sv g (tTryCall R g.K cv i ts t) ρ P := fun c F H σ D k s p =>
  ha c F H σ k.ok s _ fun vs F1 H1 s1 e1 h1 => by
    have kk : c.K = g.K := k.ok.1
    obtain ⟨fp, sf⟩ := id s1
    rw [← kk]
    refine ⟨F1, ds, .ok (.dat d), s1.fh, h1.datas hd, hR, fun v F' H' t r => ?_⟩
    exact p.nx _ F' H' σ h ⟨fp, sf.after t⟩ (e1.trans t.f0)
/-- .. the suite gives a truth value back -/
theorem sv_tryEx {R : List D → RetX → Prop} {cv : Value} {i : Nat} {ts : Addr → Value → Option Addr → TS} {P : Out → Prop} {C : Addr} {b : Bool} (ha : EvA g t ρ As ρ1) (hR : R ds (.exc C)) (hd : datas As = some ds) (hc : PySem.W.exmOne g.K (.ref C) cv = some true)
    (hs : ∀ (a : Addr) (σ : L2.St) (H : Hp) (D : Ends), σ[i]? = some (some (.ref a)) → (∀ H', Same H H' → D.rt (.bl b) H') → ts a (.ref C) none D σ H) (hi : i < ρ1.length) (h : P (.rt ρ1 (.dat (.bool b)))) : Sv g (tTryCall R g.K cv i ts t) ρ P := fun c F H σ D k s p =>
  ha c F H σ k.ok s _ fun vs F1 H1 s1 e1 h1 => by
    have kk : c.K = g.K := k.ok.1
    obtain ⟨fp, sf⟩ := id s1
    rw [← kk] at hc ⊢
    refine ⟨F1, ds, .exc C, s1.fh, h1.datas hd, hR, fun F' H' t => ⟨true, hc, fun _ a na => ?_, fun z => nomatch z⟩⟩
    have t' := sf.after t
    refine hs a (σ.set i (some (.ref a))) H' _ (List.getElem?_set_self (by rw [t'.len]; exact hi)) fun H2 e2 => ?_
    have t3 : Sim c F' H2 σ ρ1 := by
      refine ⟨fp, t'.f0, t'.fh.trans e2, fun a o q w => e2 a o (t'.keep a o q w), fun a q => ?_, t'.av, t'.par, t'.dat, fun j w q => ?_, fun j w b q m => ?_, t'.sep, t'.len, t'.wp, t'.pb⟩
      · cases z : H' a with
        | none => exact absurd z (t'.dom a q)
        | some o => rw [e2 a o z]; simp
      · obtain ⟨a, k1, k2⟩ := t'.own j w q
        refine ⟨a, k1, k2.up (Same.refl _) fun b m => ?_⟩
        cases z : H' b with
        | none => exact absurd z (t'.ownF j w b q m).2.1
        | some o => rw [e2 b o z]
      · obtain ⟨k1, k2, k3⟩ := t'.ownF j w b q m
        refine ⟨k1, ?_, k3⟩
        cases z : H' b with
        | none => exact absurd z k2
        | some o => rw [e2 b o z]; simp
    exact p.rt _ F' H2 σ _ _ h t3 (e1.trans t.f0) (.bl b)
end

/-! ### isinstance of a caught exception -/
/-- of a class, of a tuple of classes -/
def rIsX (K : PySem.W.Frag) (a : Addr) (cls : Value) (d : Option Addr) : List V → Hp → VK → Prop := fun xs H Q => ∃ Da, cls = .ref Da ∧ d = none ∧ ExcC K Da ∧
  ((∃ (c : Addr) (b : Bool), xs = [.ref a, .ref c] ∧ PySem.W.kitOne K (.ref Da) (.ref c) = some b ∧ Q (.bl b) H) ∨
    ∃ (tp : Addr) (cs : List Addr) (b : Bool), xs = [.ref a, .ref tp] ∧ H tp = some (.tup (cs.map V.ref)) ∧ PySem.W.kitAny K (.ref Da) (cs.map Value.ref) = some b ∧ Q (.bl b) H)
theorem valsRefs : ∀ {cs : List Addr} {us : List Value}, Vals (cs.map V.ref) us → us = cs.map Value.ref
  | [], _, .nil => rfl
  | c :: cs, _, .cons r t => by
    cases r
    rw [valsRefs t]
    rfl
theorem cr_isX {a : Addr} {oe : Obj} {cls : Value} {d : Option Addr} {pn : List (Addr × Obj)} (hz : Zc cls d oe) (hf : ∃ vs, oe.data = .fields vs) : CallR (X.suite a ((a, oe) :: pn)) (.builtin "isinstance") (rIsX X.K a cls d) := by
  intro pins s σ H xs us Q I r h
  obtain ⟨Da, rfl, rfl, C, h⟩ := h
  rcases h with ⟨c, b, rfl, e, q⟩ | ⟨tp, cs, b, rfl, hT, e, q⟩
  · exact call_isE C hz hf pins s σ H _ us Q I r ⟨.ref c, .ref c, b, rfl, fun u z => z, e, q⟩
  · obtain ⟨u1, u2, rfl, r1, r2⟩ := vals2 r
    cases r1
    cases r2
    obtain ⟨hget, _⟩ := I.pin (a, oe) (List.mem_append.mpr (.inl List.mem_cons_self))
    obtain ⟨vs, hv⟩ := hf
    have J : PySem.W.InstAt s.heap a oe Da none := by
      obtain ⟨oc, od, oda, osl⟩ := oe
      obtain ⟨h1, h2⟩ := hz
      dsimp only at h1 h2 hv
      subst h1 h2 hv
      exact ⟨hget, rfl, rfl, trivial⟩
    obtain ⟨_, its, rv, o, h1, h2, n, h3⟩ := (show ObjOk X.prog X.w H s.heap tp (.tup (cs.map V.ref)) from I.hok tp _ hT)
    have e3 := valsRefs rv
    subst e3
    obtain ⟨oc, od, dt, sl⟩ := o
    simp only at h2 h3
    subst h2 h3
    exact PySem.W.kia_tup (PySem.W.handS_kitx_exc C.hg C.hk C.hs C.hd C.ha C.hn C.ht C.hm) I.kIn J h1 e (fun z => nomatch z) fun tk => ⟨.bl b, H, I.kept (t' := tk) fun _ _ z => z, rfl, q⟩
def tRefs : List Addr → TA
  | [] => tNil
  | c :: cs => tCons (tC (.ref c)) (tRefs cs)
theorem tRefs_ok : ∀ (cs : List Addr) (σ : L2.St) (H : Hp) (Q : List V → Hp → Prop), Q (cs.map V.ref) H → tRefs cs σ H Q
  | [], σ, H, Q, h => h
  | c :: cs, σ, H, Q, h => tRefs_ok cs σ H _ h
/-- return isinstance(e, S) and (not isinstance(e, (T, ..))) -/
def tSuite (K : PySem.W.Frag) (i : Nat) (S : Addr) (cs : List Addr) : Addr → Value → Option Addr → TS := fun a cls d =>
  tRet (tAndV (tCB (rIsX K a cls d) (tCons (tVar i) (tCons (tC (.ref S)) tNil))) (tNotV (tCB (rIsX K a cls d) (tCons (tVar i) (tCons (tTup (tRefs cs)) tNil)))))
theorem suite_ok {i : Nat} {S C : Addr} {cs : List Addr} (hC : ExcC K C) (h1 : PySem.W.kitOne K (.ref C) (.ref S) = some true) (h2 : PySem.W.kitAny K (.ref C) (cs.map Value.ref) = some false) (hz : cs.length ≤ sizeLine) (a : Addr) (σ : L2.St) (H : Hp) (D : Ends)
    (hσ : σ[i]? = some (some (.ref a))) (q : ∀ H', Same H H' → D.rt (.bl true) H') : tSuite K i S cs a (.ref C) none D σ H := by
  refine ⟨_, hσ, C, rfl, rfl, hC, .inl ⟨S, true, rfl, h1, true, rfl, ?_⟩⟩
  rw [if_pos rfl]
  refine ⟨_, hσ, tRefs_ok cs σ H _ ⟨by rw [List.length_map]; exact hz, fun p hp => ?_⟩⟩
  exact ⟨C, rfl, rfl, hC, .inr ⟨p, cs, false, rfl, upd_same, h2, false, rfl, q _ (sameNew hp)⟩⟩
end DL

namespace DL
open PySem PySem.Spec PyProof.Rows L2
variable {K : PySem.W.Frag} {g : Gm}
theorem kd_get {F : Hp} : ∀ {xs : List (Key × V)} {kvs : List (Key × D)} {i : Nat} {k : Key} {v : V}, KD K F xs kvs → xs[i]? = some (k, v) → ∃ d, kvs[i]? = some (k, d) ∧ Dp K F v d
  | _, _, _, _, _, .nil, e => by simp at e
  | _, _, 0, k, v, .cons (a := p) (b := q) r t, e => by
    have e' : p = (k, v) := by simpa using e
    subst e'
    obtain ⟨k', d⟩ := q
    obtain ⟨r1, r2⟩ := r
    dsimp only at r1 r2
    subst r1
    exact ⟨d, rfl, r2⟩
  | _, _, i + 1, k, v, .cons _ t, e => by
    obtain ⟨d, h1, h2⟩ := kd_get (i := i) t (by simpa using e)
    exact ⟨d, by simpa using h1, h2⟩
theorem kd_keys {F : Hp} : ∀ {xs : List (Key × V)} {kvs : List (Key × D)}, KD K F xs kvs → xs.map (·.1) = kvs.map (·.1)
  | _, _, .nil => rfl
  | _, _, .cons r t => by rw [List.map_cons, List.map_cons, r.1, kd_keys t]
theorem kd_take {F : Hp} : ∀ {xs : List (Key × V)} {kvs : List (Key × D)} (n : Nat), KD K F xs kvs → KD K F (xs.take n) (kvs.take n)
  | _, _, 0, _ => .nil
  | _, _, _ + 1, .nil => .nil
  | _, _, n + 1, .cons r t => .cons r (kd_take n t)
theorem kd_filter {F : Hp} (p : Key → Bool) : ∀ {xs : List (Key × V)} {kvs : List (Key × D)}, KD K F xs kvs → KD K F (xs.filter fun kv => p kv.1) (kvs.filter fun kv => p kv.1)
  | _, _, .nil => .nil
  | _, _, .cons (a := u) (b := w) r t => by
    rw [List.filter_cons, List.filter_cons, r.1]
    cases p w.1 with
    | true => exact .cons r (kd_filter p t)
    | false => exact kd_filter p t
theorem valV_at : ∀ {xs : List (Key × V)} {i : Nat} {k : Key} {v : V}, (xs.map (·.1)).Nodup → xs[i]? = some (k, v) → valV xs k = some v
  | [], _, _, _, _, e => by simp at e
  | p :: r, 0, k, v, nd, e => by
    have e' : p = (k, v) := by simpa using e
    subst e'
    exact valV_pos rfl
  | p :: r, i + 1, k, v, nd, e => by
    have e' : r[i]? = some (k, v) := by simpa using e
    rw [List.map_cons, List.nodup_cons] at nd
    have ne : ¬ p.1 = k := fun z => nd.1 (by rw [z]; exact List.mem_map.mpr ⟨(k, v), List.mem_of_getElem? e', rfl⟩)
    rw [valV_neg ne]
    exact valV_at nd.2 e'
theorem take_filter {α : Type} {l : List α} {i : Nat} {x : α} {p : α → Bool} (h : l[i]? = some x) : (l.take (i + 1)).filter p = (l.take i).filter p ++ (if p x = true then [x] else []) := by
  rw [List.take_add_one, h, List.filter_append]
  simp only [Option.toList, List.filter_cons, List.filter_nil]
theorem not_in_take {xs : List (Key × V)} {i : Nat} {k : Key} {v : V} {p : Key → Bool} (nd : (xs.map (·.1)).Nodup) (h : xs[i]? = some (k, v)) : (((xs.take i).filter fun kv => p kv.1).any fun kv => decide (kv.1 = k)) = false := by
  rw [Bool.eq_false_iff]
  intro z
  obtain ⟨kv, m, e⟩ := List.any_eq_true.mp z
  have e := of_decide_eq_true e
  have m := (List.mem_filter.mp m).1
  obtain ⟨j, hj, q⟩ := List.mem_take_iff_getElem.mp m
  have hi : i < xs.length := (List.getElem?_eq_some_iff.mp h).1
  have h1 : (xs.map (·.1))[j]'(by rw [List.length_map]; omega) = k := by rw [List.getElem_map, q]; exact e
  have h2 : (xs.map (·.1))[i]'(by rw [List.length_map]; omega) = k := by rw [List.getElem_map, (List.getElem?_eq_some_iff.mp h).2]
  have := (List.getElem_inj nd).mp (h1.trans h2.symm)
  omega
/-- x = {k: x[k] for k in x if test} -/
theorem sv_dictFilter {tt : TT} {ρ : Rho} {j o : Nat} {kvs : List (Key × D)} {P : Out → Prop} (p : Key → Bool) (he : ρ[j]? = some (.own (.dK kvs))) (hno : ∀ e : Ent, ρ[o]? = some e → e = .no) (hjo : j ≠ o) (hol : o < ρ.length) (nd : (kvs.map (·.1)).Nodup) (hz : kvs.length < sizeLine)
    (ht : ∀ k d, (k, d) ∈ kvs → EvT g tt ((ρ.set j .no).set o (.dat (keyOf k))) (p k) ((ρ.set j .no).set o (.dat (keyOf k)))) (h : P (.nx (ρ.set j (.own (.dK (kvs.filter fun kv => p kv.1)))))) (hp : j ∉ g.ps) (hpo : o ∉ g.ps) :
    Sv g (tAsg (tLockE (tDc (iKeys (tVar j)) (gName o) tt (tVar o) (tDGet (tVar j) (tVar o)) [o])) (gName j)) ρ P := fun c F H σ E kk s pp => by
  obtain ⟨fp, sf⟩ := id s
  obtain ⟨a, e1, e2, xs, e3, e4⟩ := sf.own j _ he
  have ma : a ∈ fp j := by rw [e2]; simp
  obtain ⟨Fa, Ha, Wa⟩ := sf.ownF j _ a he ma
  have Ba : c.B a = none := Wa.resolve_right fun w => by
    obtain ⟨j', hj'⟩ := kk.wp a w
    have := sf.wp j _ a he ma j' hj'
    subst this
    exact notP kk hp a hj'
  have noa : ∀ (k : Nat) (w : Ow), (ρ.set j .no)[k]? = some (.own w) → a ∉ fp k := fun k w q m => by
    obtain ⟨ne, q'⟩ := hide_own q
    exact ne (sf.sep k j w _ a q' he m ma)
  have hj : j < ρ.length := (List.getElem?_eq_some_iff.mp he).1
  have xnd : (xs.map (·.1)).Nodup := by rw [kd_keys e4]; exact nd
  have xlen := kd_len e4
  refine ⟨a, .dK xs, e3, trivial, fun od => ?_⟩
  have sl : SimF c F (upd H a (.frz od (.dK xs))) σ (ρ.set j .no) fp := (sf.hide j).other Fa Ba noa
  refine ⟨.ref a, e1, a, od, rfl, .inl ⟨xs, upd_same, fun Dl hD => ?_⟩⟩
  have hDa : Dl ≠ a := fun z => by rw [z, upd_same] at hD; cases hD
  have hDH : H Dl = none := by rw [upd_ne hDa] at hD; exact hD
  have BD : c.B Dl = none := by
    cases z : c.B Dl with
    | none => rfl
    | some u => exact absurd hDH (sf.dom Dl (by simp [z]))
  have noD : ∀ (k : Nat) (w : Ow), (ρ.set j .no)[k]? = some (.own w) → Dl ∉ fp k := fun k w q m => (sl.ownF k w Dl q m).2.1 hD
  let res : Nat → List (Key × V) := fun i => (xs.take i).filter fun kv => p kv.1
  let Iv : Nat → Hp → Prop := fun i H' => ∃ F' fp', Same F F' ∧ SimF c F' H' σ (ρ.set j .no) fp' ∧ H' a = some (.frz od (.dK xs)) ∧ H' Dl = some (.dK (res i)) ∧ F' a = none ∧ F' Dl = none ∧ (∀ (k : Nat) (w : Ow), (ρ.set j .no)[k]? = some (.own w) → a ∉ fp' k ∧ Dl ∉ fp' k)
  refine ⟨fun i m H' => m = xs.length - i ∧ i ≤ xs.length ∧ Iv i H', ⟨xs.length, by simp, Nat.zero_le _, F, fp, Same.refl _, sl.other (freeF sf.fh hDH) BD noD, by rw [upd_ne hDa.symm, upd_same], upd_same, Fa, freeF sf.fh hDH, fun k w q => ⟨noa k w q, noD k w q⟩⟩, ?_⟩
  rintro i m H2 ⟨rfl, hin, F2, fp2, f2, s2, ha2, hD2, Fa2, FD2, no2⟩
  by_cases hlt : i < xs.length
  · refine .inr ⟨⟨ha2, hlt⟩, Iv (i + 1), fun H' z => ⟨xs.length - (i + 1), by omega, rfl, by omega, z⟩, ?_⟩
    rintro x H3 ⟨rfl, k, v, hk, rfl⟩
    obtain ⟨d, hd, hvd⟩ := kd_get e4 hk
    have hol' : o < σ.length := by rw [sf.len]; exact hol
    have hσo : (wipe σ [o]).length = σ.length := wipe_length _ _
    -- the turn over the heap as it stands
    let ρh : Rho := ρ.set j .no
    have sr : SimF (c.re F2 H3 (ownW ρh fp2)) F2 H3 (wipe σ [o]) ρh fp2 := s2.re.slots [o] (fun q mq => wipe_at mq) (fun q mq e z => by
      have : q = o := by simpa using mq
      subst this
      have z' : (ρ.set j .no)[q]? = some e := z
      rw [List.getElem?_set_ne hjo] at z'
      exact hno e z') (fun _ _ => rfl) (fun q b mq mq' => by
      have : q = o := by simpa using mq'
      subst this
      exact notP kk hpo b mq) (by rw [hσo, sf.len]; simp [ρh])
    have dk : Dp c.K F2 (kV k) (keyOf k) := by
      cases k with
      | inl n => exact .int n
      | inr z => exact .str z
    have so : Sim (c.re F2 H3 (ownW ρh fp2)) F2 H3 ((wipe σ [o]).set o (some (kV k))) (ρh.set o (.dat (keyOf k))) := Sim.setDat ⟨fp2, sr⟩ dk (by simp [ρh]; exact hol) (fun b => notP kk hpo b)
    have wσ : wipe ((wipe σ [o]).set o (some (kV k))) [o] = wipe σ [o] := wipe_ext (by simp [hσo]) fun q mq => by
      have ne : q ≠ o := by simpa using mq
      rw [List.getElem?_set_ne (Ne.symm ne), wipe_at mq]
    refine ⟨wσ, ht k d (List.mem_of_getElem? hd) (c.re F2 H3 (ownW ρh fp2)) F2 H3 _ kk.ok so _ fun F4 H4 s4 e4' => ?_⟩
    obtain ⟨fp4, s4⟩ := s4
    have nW : ∀ z, (∀ (k : Nat) (w : Ow), ρh[k]? = some (.own w) → z ∉ fp2 k) → ¬ ownW ρh fp2 z := fun z hz ⟨q, w, q1, q2⟩ => hz q w q1 q2
    have kp : ∀ z u, H3 z = some u → (∀ (k : Nat) (w : Ow), ρh[k]? = some (.own w) → z ∉ fp2 k) → H4 z = some u := fun z u hz hn => s4.keep z u hz (nW z hn)
    have ha4 := kp a _ ha2 fun k w q => (no2 k w q).1
    have hD4 := kp Dl _ hD2 fun k w q => (no2 k w q).2
    have Fa4 : F4 a = none := s4.av a (by show H3 a ≠ none; rw [ha2]; simp) Fa2
    have FD4 : F4 Dl = none := s4.av Dl (by show H3 Dl ≠ none; rw [hD2]; simp) FD2
    have oo : ∀ (q : Nat) (w : Ow), ρh[q]? = some (.own w) → (ρh.set o (.dat (keyOf k)))[q]? = some (.own w) := fun q w z => by
      have ne : q ≠ o := fun y => by
        subst y
        have z' : (ρ.set j .no)[q]? = some (.own w) := z
        rw [List.getElem?_set_ne hjo] at z'
        cases hno _ z'
      rw [List.getElem?_set_ne (Ne.symm ne)]
      exact z
    have no4 : ∀ (q : Nat) (w : Ow), ρh[q]? = some (.own w) → a ∉ fp4 q ∧ Dl ∉ fp4 q := fun q w z => by
      have z4 := oo q w z
      refine ⟨fun m => ?_, fun m => ?_⟩
      · rcases (s4.ownF q w a z4 m).2.2 with y | y
        · rw [show (c.re F2 H3 (ownW ρh fp2)).B a = H3 a from rfl, ha2] at y; cases y
        · exact nW a (fun k w q => (no2 k w q).1) y
      · rcases (s4.ownF q w Dl z4 m).2.2 with y | y
        · rw [show (c.re F2 H3 (ownW ρh fp2)).B Dl = H3 Dl from rfl, hD2] at y; cases y
        · exact nW Dl (fun k w q => (no2 k w q).2) y
    have back : SimF c F4 H4 σ ρh fp4 := (s2.un (SimF.slots s4 [o] (σ' := σ) (ρ' := ρh) (fun q mq => by
      have ne : q ≠ o := by simpa using mq
      rw [List.getElem?_set_ne (Ne.symm ne), wipe_at mq]) (fun q mq e z => by
      have : q = o := by simpa using mq
      subst this
      have z' : (ρ.set j .no)[q]? = some e := z
      rw [List.getElem?_set_ne hjo] at z'
      exact hno e z') (fun q mq => by
      have ne : q ≠ o := by simpa using mq
      rw [List.getElem?_set_ne (Ne.symm ne)]) (fun q b mq mq' => by
      have : q = o := by simpa using mq'
      subst this
      exact notP kk hpo b mq) (by rw [sf.len]; simp [ρh])))
    have hres : res (i + 1) = res i ++ (if p k = true then [(k, v)] else []) := by
      have := take_filter (p := fun kv : Key × V => p kv.1) hk
      exact this
    cases hpk : p k with
    | true =>
      rw [if_pos rfl]
      refine ⟨kV k, by rw [List.getElem?_set_self (by rw [hσo]; exact hol')], ?_⟩
      have hσj : ((wipe σ [o]).set o (some (kV k)))[j]? = some (some (.ref a)) := by
        rw [List.getElem?_set_ne (Ne.symm hjo), wipe_at (by simpa using hjo)]
        exact e1
      refine ⟨.ref a, hσj, kV k, by rw [List.getElem?_set_self (by rw [hσo]; exact hol')], a, v, rfl, .inl ⟨xs, k, .inr ⟨od, ha4⟩, rfl, (valV_at xnd hk).symm⟩, res i, k, rfl, hD4, ?_, ?_⟩
      · have h1 := List.length_filter_le (fun kv : Key × V => p kv.1) (xs.take i)
        have h2 : (xs.take i).length ≤ xs.length := by rw [List.length_take]; omega
        have h3 : (res i).length ≤ xs.length := Nat.le_trans h1 h2
        omega
      · have hput : putK (res i) k v = res (i + 1) := by
          unfold putK
          rw [not_in_take xnd hk, hres, hpk]
          rfl
        rw [hput]
        exact ⟨F4, fp4, f2.trans e4', back.other FD4 BD (fun q w z => (no4 q w z).2), by rw [upd_ne hDa.symm]; exact ha4, upd_same, Fa4, FD4, no4⟩
    | false =>
      rw [if_neg (by decide)]
      rw [hpk, if_neg (by decide), List.append_nil] at hres
      exact ⟨F4, fp4, f2.trans e4', back, ha4, by rw [hres]; exact hD4, Fa4, FD4, no4⟩
  · have e : i = xs.length := by omega
    subst e
    refine .inl ⟨⟨ha2, Nat.le_refl _⟩, ha2, ?_⟩
    have rall : res xs.length = xs.filter fun kv => p kv.1 := by simp only [res, List.take_length]
    have s3 := s2.other (o := .dK xs) Fa2 Ba fun k w q => (no2 k w q).1
    have s5 := s3.setOwn (i := j) (a := Dl) (f := [Dl]) (w := .dK (kvs.filter fun kv => p kv.1)) ⟨rfl, _, by rw [upd_ne hDa, hD2, rall], kd_filter p (pairedMap e4 fun _ _ _ r => ⟨r.1, dpUp f2 r.2⟩)⟩ (fun b m => by
      have z : b = Dl := by simpa using m
      subst z
      exact ⟨FD2, by rw [upd_ne hDa, hD2]; simp, BD⟩) (fun k w b q m => by
      have z : b = Dl := by simpa using m
      subst z
      exact (no2 k w q).2) (by simpa using hj) (notP kk hp)
    rw [List.set_set] at s5
    exact pp.nx _ F2 _ _ h s5 f2
end DL

namespace DL
open PySem PySem.Spec PyProof.Rows L2
variable {X : Cx}
theorem pe_cI {x : Str} {n : Int} {pos : Pos} (hg : Gl X x) (hm : ∃ t, X.mg x = some (.int n t)) (hd : (x == ("__debug__" : Str)) = false := by decide) : PE X (.Name x pos) (tC (.int n)) := by
  obtain ⟨t, h⟩ := hm
  exact pe_glob hg h ⟨t, rfl⟩ hd
theorem pe_cS {x : Str} {n : Str} {pos : Pos} (hg : Gl X x) (hm : ∃ t, X.mg x = some (.str n t)) (hd : (x == ("__debug__" : Str)) = false := by decide) : PE X (.Name x pos) (tC (.str n)) := by
  obtain ⟨t, h⟩ := hm
  exact pe_glob hg h ⟨t, rfl⟩ hd
end DL

namespace DL
open PySem PySem.Spec PyProof.Rows L2
/-- rows that nobody else holds become data -/
theorem freezeAll {c : Cc} {H : Hp} {σ : L2.St} {ρ : Rho} {fp : Nat → List Addr} : ∀ (bs : List Addr) (dss : List (List D)) (F : Hp), bs.Nodup → (∀ b ∈ bs, F b = none ∧ c.B b = none ∧ ∀ (i : Nat) (w : Ow), ρ[i]? = some (.own w) → b ∉ fp i) →
    Paired (fun b ds => ∃ vs, H b = some (.lst vs) ∧ DpAll c.K F vs ds) bs dss → SimF c F H σ ρ fp → ∃ F', Same F F' ∧ SimF c F' H σ ρ fp ∧ (∀ x, x ∉ bs → F' x = F x) ∧ DpAll c.K F' (bs.map V.ref) (dss.map .list)
  | [], _, F, _, _, .nil, s => ⟨F, Same.refl _, s, fun _ _ => rfl, .nil⟩
  | b :: bs, ds :: dss, F, nd, h, .cons ⟨vs, h1, h2⟩ t, s => by
    obtain ⟨nb, nd'⟩ := List.nodup_cons.mp nd
    obtain ⟨k1, k2, k3⟩ := h b List.mem_cons_self
    have e1 : Same F (upd F b (.lst vs)) := sameNew k1
    have s1 := s.freeze h1 k2 k3 k1
    obtain ⟨F', e2, s2, o2, d2⟩ := freezeAll bs dss (upd F b (.lst vs)) nd' (fun b' m => by
      obtain ⟨j1, j2, j3⟩ := h b' (List.mem_cons_of_mem _ m)
      exact ⟨by rw [upd_ne (fun z => nb (by rw [← z]; exact m))]; exact j1, j2, j3⟩) (pairedMap t fun z y _ ⟨us, q1, q2⟩ => ⟨us, q1, dpAllUp e1 q2⟩) s1
    refine ⟨F', e1.trans e2, s2, fun x m => ?_, .cons (.lst (.inl (.inl ?_)) (dpAllUp (e1.trans e2) h2)) d2⟩
    · rw [o2 x (fun z => m (List.mem_cons_of_mem _ z)), upd_ne (fun z => m (by rw [z]; exact List.mem_cons_self))]
    · rw [o2 b nb]
      exact upd_same
/-- new rows become data -/
theorem ed_ofWl {g : Gm} {te : TE} {ρ ρ1 : Rho} {dss : List (List D)} (h : EvW g te ρ (.lls dss) ρ1) : EvD g te ρ (.list (dss.map .list)) ρ1 := fun c F H σ k s Q q => h c F H σ k s _ fun a F' H' ⟨f, fp, s', hr, hf, no⟩ e => by
  obtain ⟨bs, rfl, nd, h1, h2⟩ := hr
  obtain ⟨na, nd'⟩ := List.nodup_cons.mp nd
  obtain ⟨F2, e2, s2, o2, d2⟩ := freezeAll bs dss F' nd' (fun b m => by
    obtain ⟨j1, j2, j3⟩ := hf b (List.mem_cons_of_mem _ m)
    exact ⟨j1, j3, fun i w q z => no i w b q (List.mem_cons_of_mem _ m) z⟩) h2 s'
  obtain ⟨k1, k2, k3⟩ := hf a List.mem_cons_self
  have k1' : F2 a = none := by rw [o2 a na]; exact k1
  have e3 : Same F2 (upd F2 a (.lst (bs.map V.ref))) := sameNew k1'
  exact q _ _ H' ⟨fp, s2.freeze h1 k3 (fun i w z m => no i w a z List.mem_cons_self m) k1'⟩ (e.trans (e2.trans e3)) (.lst (.inl (.inl upd_same)) (dpAllUp e3 d2))
end DL

namespace K25
open PySem PySem.Spec PyProof.Rows L2 DL
def topS (i : Nat) : Stmt := PySem.Challenge.pw_scarp_k25_splits_and_classes.main.body.getD i (.Pass ⟨0, 0, 0, 0⟩)
structure Txt (K : PySem.W.Frag) (mg : Str → Option Value) (fA : Nat → Addr) (fD : Nat → FuncData) (cA : Nat → Addr) : Prop where
  F_check_split : Fun K "check_split" "check_split" (topS 9) (fA 9) (fD 9)
  g_check_split : mg "check_split" = some (.ref (fA 9))
  b_check_split : Binds K (fD 9) ["log", "split"] []
  F_height_of : Fun K "height_of" "height_of" (topS 10) (fA 10) (fD 10)
  g_height_of : mg "height_of" = some (.ref (fA 10))
  b_height_of : Binds K (fD 10) ["split"] []
  F_classes_of : Fun K "classes_of" "classes_of" (topS 11) (fA 11) (fD 11)
  g_classes_of : mg "classes_of" = some (.ref (fA 11))
  b_classes_of : Binds K (fD 11) ["split"] []
  F_l_stream : Fun K "_law_stream" "_law_stream" (topS 13) (fA 13) (fD 13)
  g_l_stream : mg "_law_stream" = some (.ref (fA 13))
  b_l_stream : Binds K (fD 13) ["script"] []
  F_l_next : Fun K "_law_next" "_law_next" (topS 14) (fA 14) (fD 14)
  g_l_next : mg "_law_next" = some (.ref (fA 14))
  b_l_next : Binds K (fD 14) ["state", "many"] []
  F_l_classes : Fun K "_law_classes" "_law_classes" (topS 15) (fA 15) (fD 15)
  g_l_classes : mg "_law_classes" = some (.ref (fA 15))
  b_l_classes : Binds K (fD 15) ["split"] []
  F_l_refused : Fun K "_law_refused" "_law_refused" (topS 16) (fA 16) (fD 16)
  g_l_refused : mg "_law_refused" = some (.ref (fA 16))
  b_l_refused : Binds K (fD 16) ["log", "split"] []
  F_l_levels : Fun K "_law_levels" "_law_levels" (topS 17) (fA 17) (fD 17)
  g_l_levels : mg "_law_levels" = some (.ref (fA 17))
  b_l_levels : Binds K (fD 17) ["state", "many"] []
  F_law : Fun K "law" "law" (topS 18) (fA 18) (fD 18)
  g_law : mg "law" = some (.ref (fA 18))
  b_law : Binds K (fD 18) ["script"] []
  n_abs : mg "abs" = none
  n_all : mg "all" = none
  n_bool : mg "bool" = none
  n_enumerate : mg "enumerate" = none
  n_int : mg "int" = none
  n_isinstance : mg "isinstance" = none
  n_len : mg "len" = none
  n_list : mg "list" = none
  n_max : mg "max" = none
  n_range : mg "range" = none
  n_tuple : mg "tuple" = none
  c_MAX_HEIGHT : ∃ t, mg "MAX_HEIGHT" = some (.int 4 t)
  c_MAX_LEVELS : ∃ t, mg "MAX_LEVELS" = some (.int 40 t)
  g_BadPaper : mg "BadPaper" = some (.ref (cA 5))
  g_Missing : mg "Missing" = some (.ref (cA 4))
  g_NotAllowed : mg "NotAllowed" = some (.ref (cA 2))
  g_ScarpError : mg "ScarpError" = some (.ref (cA 1))
  g_TooLarge : mg "TooLarge" = some (.ref (cA 3))
  x_NotAllowed : PySem.W.excIn K (cA 2) [.type "ValueError", .type "Exception", .type "BaseException", .type "object"] "ValueError.__new__" = true
  k_NotAllowed : PySem.W.keepIn K (.ref (cA 2)) = true
  s_NotAllowed : PySem.W.subIn K (.ref (cA 2)) (.type "BaseException") = some true
  t_NotAllowed : PySem.W.typeIn K (.ref (cA 2)) = some (.type "type")
  ex_NotAllowed : ExcC K (cA 2)
  te_NotAllowed : PySem.W.exmOne K (.ref (cA 2)) (.ref (cA 2)) = some true
  k1_NotAllowed : PySem.W.kitOne K (.ref (cA 2)) (.ref (cA 1)) = some true
  k2_NotAllowed : PySem.W.kitAny K (.ref (cA 2)) [.ref (cA 3), .ref (cA 4), .ref (cA 5)] = some false
def okSplit (log : List D) (sp : List Int) : Prop := sp.length = log.length + 1 ∧ ∀ x ∈ sp, 1 ≤ x ∧ x ≤ 40
instance (log : List D) (sp : List Int) : Decidable (okSplit log sp) := by unfold okSplit; exact inferInstance
def rcheck_split : Addr → List D → RetX → Prop := fun C ds r => ∃ (log : List D) (sp : List Int), ds = [.tuple log, .tuple (sp.map .int)] ∧ r = if okSplit log sp then .ok (.dat .none) else .exc C
def rheight_of : List D → RetV → Prop := fun ds r => ∃ (n : Int) (ns : List Int), ds = [.tuple ((n :: ns).map .int)] ∧ r = .dat (.int (ns.foldl max n))
/-- a class's places: from p on, as long as no level is lesser -/
def run (x : Int) : Nat → List Int → List Nat
  | _, [] => []
  | q, y :: r => if y < x then [] else if y = x then q :: run x (q + 1) r else run x (q + 1) r
def rowOf (sp : List Int) (p : Nat) : List Nat := run (sp.getD p 0) p (sp.drop p)
def isHead (sp : List Int) (p : Nat) : Bool := !(List.range p).any fun q => decide (p ∈ rowOf sp q)
def cls (sp : List Int) : List (List Nat) := ((List.range sp.length).filter (isHead sp)).map (rowOf sp)
def natD (p : Nat) : D := .int p
def rclasses_of : List D → RetV → Prop := fun ds r => ∃ sp : List Int, sp.length ≤ 1000 ∧ ds = [.tuple (sp.map .int)] ∧ r = .new (.lls ((cls sp).map fun row => row.map natD))
def rl_classes : List D → RetV → Prop := fun ds r => ∃ sp : List Int, sp.length ≤ 1000 ∧ ds = [.tuple (sp.map .int)] ∧ r = .new (.lst ((cls sp).map fun row => .list (row.map natD)))
def rl_refused : List D → RetV → Prop := fun ds r => ∃ (log : List D) (sp : List Int), ds = [.tuple log, .tuple (sp.map .int)] ∧ ¬ okSplit log sp ∧ r = .dat (.bool true)
def mostOf (i : Int) : Int := [1, 2, 3, 5, 40].getD i.toNat 0
def levOf (N : List Int) (k many : Int) : List Int := (List.range many.toNat).map fun i => 1 + nxt N (k + 1 + (i : Nat)) (mostOf (nxt N k 5))
def rl_levels : List D → List D → RetV → List D → Prop := fun st ds r st' => ∃ (N : List Int) (k many : Int), Good N ∧ 0 ≤ k ∧ k + 2000 ≤ KMax ∧ 0 ≤ many ∧ many ≤ 1000 ∧ st = stAt N k ∧ ds = [.int many] ∧ r = .dat (.tuple ((levOf N k many).map .int)) ∧ st' = stAt N (k + 1 + many)
section
variable {P : Program} {w : World} {K : PySem.W.Frag} {mg : Str → Option Value} {base : Heap} {fA : Nat → Addr} {fD : Nat → FuncData} {cA : Nat → Addr}
abbrev scheck_split : Stmt := topS 9
theorem sccheck_split : FnScope ["log", "split", "level"] ["log", "split"] (defScope scheck_split) := ⟨rfl, rfl, rfl, by decide +kernel, rfl, by decide +kernel, by decide +kernel⟩
def tmcheck_split (K : PySem.W.Frag) (cA : Nat → Addr) (E : XK) : TS :=
  tSeq (tIfS (tTest (tOp (rNeD K) (tCB (DL.rLen K) (tCons (tVar 1) (tNil))) (tOp (uAdd K) (tCB (DL.rLen K) (tCons (tVar 0) (tNil))) (tC (.int 1))))) (tRaiseO (cA 2) E) (tNext)) (tFor (uIter K (tVar 1)) (gName 2) (tIfS (tNot (tTest (tChain (rI0 fun i j => .bl (decide (i ≤ j))) (rI0 fun i j => .bl (decide (i ≤ j))) (tC (.int 1)) (tVar 2) (tC (.int 40))))) (tRaiseO (cA 2) E) (tNext)))
theorem htcheck_split (T : Txt K mg fA fD cA)  (cdv : Value) (A : Around) (outer : List PySem.Env) (s : Shared) (H : Hp) (E : XK) (hr : Room 0 (A.deeper (envOfC "check_split" (defScope scheck_split) s.heap.objs.size (fA 9) cdv))) :
    PSs (cxOf (L2.CX P w) P w K mg base ["log", "split", "level"] "check_split" (defScope scheck_split) (fA 9) cdv A outer s H E) (defBody scheck_split) (tmcheck_split K cA E) :=
  pss_cons (ps_if (pt_cmpR (op_neD hr.units) (pe_callB cr_len (by rfl) T.n_len PySem.boot_len (pa_cons (pv 1) (pa_nil))) (pe_op op_uAdd (pe_callB cr_len (by rfl) T.n_len PySem.boot_len (pa_cons (pv 0) (pa_nil))) (pe_int)) (nomark _)) (pss_one (ps_raise rfl (takes_of rfl rfl rfl rfl) (pmk_own PySem.F.excBase_ValueError T.x_NotAllowed T.g_NotAllowed T.k_NotAllowed (raises_own T.s_NotAllowed T.t_NotAllowed) (by rfl)))) (pss_nil))
    (pss_one (ps_for (passes_of rfl) rfl (pi_u (pv 1)) (pg_name (i := 2) sccheck_split.nd rfl (by first | exact Or.inl rfl | exact Or.inr rfl))
    (pss_one (ps_if (pt_not (pt_chain op_le op_le (pe_int) (pv 2) (pe_cI (by rfl) T.c_MAX_LEVELS))) (pss_one (ps_raise rfl (takes_of rfl rfl rfl rfl) (pmk_own PySem.F.excBase_ValueError T.x_NotAllowed T.g_NotAllowed T.k_NotAllowed (raises_own T.s_NotAllowed T.t_NotAllowed) (by rfl)))) (pss_nil)))))
abbrev sheight_of : Stmt := topS 10
theorem scheight_of : FnScope ["split"] ["split"] (defScope sheight_of) := ⟨rfl, rfl, rfl, by decide +kernel, rfl, by decide +kernel, by decide +kernel⟩
def tmheight_of (K : PySem.W.Frag) : TS :=
  tRet (tCB (uMax K) (tCons (tVar 0) (tNil)))
theorem htheight_of (T : Txt K mg fA fD cA)  (cdv : Value) (A : Around) (outer : List PySem.Env) (s : Shared) (H : Hp) (E : XK) (hr : Room 0 (A.deeper (envOfC "height_of" (defScope sheight_of) s.heap.objs.size (fA 10) cdv))) :
    PSs ((cxOf CX0 P w K mg base ["split"] "height_of" (defScope sheight_of) (fA 10) cdv A outer s H E).nox) (defBody sheight_of) (tmheight_of K) :=
  pss_one (ps_ret (pe_callB (cr_uMax rfl (units65 hr)) (by rfl) T.n_max (by decide +kernel) (pa_cons (pv 0) (pa_nil))))
abbrev sclasses_of : Stmt := topS 11
theorem scclasses_of : FnScope ["split", "classes", "joinable", "place", "level", "other"] ["split"] (defScope sclasses_of) := ⟨rfl, rfl, rfl, by decide +kernel, rfl, by decide +kernel, by decide +kernel⟩
def tmclasses_of (K : PySem.W.Frag) : TS :=
  tSeq (tAsg (tLst (tNil)) (gName 1)) (tSeq (tAsg (tDNewK) (gName 2)) (tSeq (tFor (iEnT K (tCons (tVar 0) tNil)) (gTup K 2 (gCons (gName 3) (gCons (gName 4) (gNil)))) (tSeq (tAsg (tLockE (tDc (iKeys (tVar 2)) (gName 5) (tTest (tOp (rI0 fun i j => .bl (decide (i ≤ j))) (tVar 5) (tVar 4))) (tVar 5) (tDGet (tVar 2) (tVar 5)) [5])) (gName 2)) (tSeq (tIfS (tB (tDNotIn (tVar 4) (tVar 2))) (tSeq (sDPut (tVar 2) (tVar 4) (tCB (DL.rLen K) (tCons (tVar 1) (tNil)))) (tDrop (tBM K "list" rAppend (tVar 1) (tCons (tLst (tNil)) (tNil))))) (tNext)) (tDrop (tBM K "list" rAppend (tOp (rIx K) (tVar 1) (tDGet (tVar 2) (tVar 4))) (tCons (tVar 3) (tNil))))))) (tRet (tVar 1))))
theorem htclasses_of (T : Txt K mg fA fD cA)  (cdv : Value) (A : Around) (outer : List PySem.Env) (s : Shared) (H : Hp) (E : XK) (hr : Room 0 (A.deeper (envOfC "classes_of" (defScope sclasses_of) s.heap.objs.size (fA 11) cdv))) :
    PSs ((cxOf CX0 P w K mg base ["split", "classes", "joinable", "place", "level", "other"] "classes_of" (defScope sclasses_of) (fA 11) cdv A outer s H E).nox) (defBody sclasses_of) (tmclasses_of K) :=
  pss_cons (ps_set (i := 1) scclasses_of.nd rfl (by first | exact Or.inl rfl | exact Or.inr rfl) (pe_lst (pa_nil)))
    (pss_cons (ps_set (i := 2) scclasses_of.nd rfl (by first | exact Or.inl rfl | exact Or.inr rfl) (pe_dnewK))
    (pss_cons (ps_for PassesOwn.never rfl (pi_enumT (by rfl) T.n_enumerate (pa_cons (pv 0) pa_nil)) (pg_tup rfl (pgs_cons (pg_name (i := 3) scclasses_of.nd rfl (by first | exact Or.inl rfl | exact Or.inr rfl)) (pgs_cons (pg_name (i := 4) scclasses_of.nd rfl (by first | exact Or.inl rfl | exact Or.inr rfl)) (pgs_nil))))
    (pss_cons (ps_set (i := 2) scclasses_of.nd rfl (by first | exact Or.inl rfl | exact Or.inr rfl) (pe_lock (pe_dc (own := [("other", 5)]) (g := gName 5) (tt := tTest (tOp (rI0 fun i j => .bl (decide (i ≤ j))) (tVar 5) (tVar 4))) rfl scclasses_of.nd (pi_keys (pv 2)) (blkOk_by (N := ["split", "classes", "joinable", "place", "level", "other"]) (sc := defScope sclasses_of) (by decide +kernel)) (fun _ _ _ _ _ => pg_name (i := 5) scclasses_of.nd rfl (Or.inl rfl)) (fun _ _ _ _ _ => pts_one (pt_cmpR op_le (pv 5) (pv 4) (nomark _))) (fun _ _ _ _ _ => pv 5) (fun _ _ _ _ _ => pe_dget (hu_of hr) (pv 2) (pv 5) (fun _ _ => rfl)))))
    (pss_cons (ps_if (pt_cmp (pc_dnotin (hu_of hr) (pv 4) (pv 2))) (pss_cons (ps_dput (hu_of hr) (pv 2) (pv 4) (pe_callB cr_len (by rfl) T.n_len PySem.boot_len (pa_cons (pv 1) (pa_nil))) rfl)
    (pss_one (ps_expr (pe_bm PySem.F.plainAttrs_list PySem.F.slot_list_append PySem.F.type_list_append mt_append (pv 1) (pa_cons (pe_lst (pa_nil)) (pa_nil)))))) (pss_nil))
    (pss_one (ps_expr (pe_bm PySem.F.plainAttrs_list PySem.F.slot_list_append PySem.F.type_list_append mt_append (pe_ix ix_seq (pv 1) (pe_dget (hu_of hr) (pv 2) (pv 4) (fun _ _ => rfl)) (fun _ _ => rfl)) (pa_cons (pv 3) (pa_nil))))))))
    (pss_one (ps_ret (pv 1)))))
abbrev sl_stream : Stmt := topS 13
theorem scl_stream : FnScope ["script", "numbers", "cell", "rest", "k", "mixed"] ["script"] (defScope sl_stream) := ⟨rfl, rfl, rfl, by decide +kernel, rfl, by decide +kernel, by decide +kernel⟩
def tml_stream (K : PySem.W.Frag) : TS :=
  tSeq (tAsg (tLst (tNil)) (gName 1)) (tSeq (tFor (uIter K (tSl (rSlL K) (tVar 0) (tNoPart) (tPart (tC (.int 63))))) (gName 2) (tSeq (tAsg (tCB (DL.rAbs) (tCons (tCB (DL.rInt1) (tCons (tVar 2) (tNil))) (tNil))) (gName 3)) (tIfS (tTest (tOp (rI0 fun i j => .bl (decide (j ≤ i))) (tVar 3) (tOp (rI CPow fun i j => .int (i ^ j.toNat)) (tC (.int 10)) (tC (.int 18))))) (tFor (iRng1 (tCons (tC (.int 60)) (tNil))) (gName 4) (tSeq (tDrop (tBM K "list" rAppend (tVar 1) (tCons (tOp (rI (fun _ j => 0 < j) fun i j => .int (i % j)) (tCB (DL.rInt1) (tCons (tVar 3) (tNil))) (tC (.int 1009))) (tNil)))) (tSeq (tAsg (tOp (rI CDiv fun i j => .int (i / j)) (tVar 3) (tC (.int 1009))) (gName 3)) (tIfS (tTest (tOp (rEqD K) (tVar 3) (tC (.int 0)))) (tBreak) (tNext))))) (tSeq (tAsg (tOp (rI (fun _ j => 0 < j) fun i j => .int (i % j)) (tCB (DL.rInt1) (tCons (tVar 3) (tNil))) (tC (.int 2147483647))) (gName 5)) (tFor (iRng1 (tCons (tC (.int 10)) (tNil))) (gName 4) (tSeq (tAsg (tOp (rI (fun _ j => 0 < j) fun i j => .int (i % j)) (tCB (DL.rInt1) (tCons (tOp (uAdd K) (tOp (uAdd K) (tOp (rI CMul fun i j => .int (i * j)) (tVar 5) (tC (.int 48271))) (tOp (rI CMul fun i j => .int (i * j)) (tC (.int 7)) (tVar 4))) (tC (.int 11))) (tNil))) (tC (.int 2147483647))) (gName 5)) (tDrop (tBM K "list" rAppend (tVar 1) (tCons (tOp (rI (fun _ j => 0 < j) fun i j => .int (i % j)) (tOp (rI (fun _ j => 0 < j) fun i j => .int (i % j)) (tCB (DL.rInt1) (tCons (tOp (uAdd K) (tOp (rI CMul fun i j => .int (i * j)) (tVar 5) (tC (.int 69621))) (tVar 4)) (tNil))) (tC (.int 2147483629))) (tC (.int 1009))) (tNil)))))))))) (tSeq (tIfS (tTest (tOp (rEqD K) (tCB (DL.rLen K) (tCons (tVar 1) (tNil))) (tC (.int 0)))) (tDrop (tBM K "list" rAppend (tVar 1) (tCons (tC (.int 0)) (tNil)))) (tNext)) (tRet (tVar 1))))
theorem htl_stream (T : Txt K mg fA fD cA)  (cdv : Value) (A : Around) (outer : List PySem.Env) (s : Shared) (H : Hp) (E : XK) (hr : Room 0 (A.deeper (envOfC "_law_stream" (defScope sl_stream) s.heap.objs.size (fA 13) cdv))) :
    PSs ((cxOf CX0 P w K mg base ["script", "numbers", "cell", "rest", "k", "mixed"] "_law_stream" (defScope sl_stream) (fA 13) cdv A outer s H E).nox) (defBody sl_stream) (tml_stream K) :=
  pss_cons (ps_set (i := 1) scl_stream.nd rfl (by first | exact Or.inl rfl | exact Or.inr rfl) (pe_lst (pa_nil)))
    (pss_cons (ps_for PassesOwn.never rfl (pi_u (pe_slice sl_list (pv 0) (po_none) (po_some (pe_int)))) (pg_name (i := 2) scl_stream.nd rfl (by first | exact Or.inl rfl | exact Or.inr rfl))
    (pss_cons (ps_set (i := 3) scl_stream.nd rfl (by first | exact Or.inl rfl | exact Or.inr rfl) (pe_callB cr_abs (by rfl) T.n_abs (by decide +kernel) (pa_cons (pe_callTy cr_int (by rfl) T.n_int (by decide +kernel) (pa_cons (pv 2) (pa_nil))) (pa_nil))))
    (pss_one (ps_if (pt_cmpR op_ge (pv 3) (pe_op op_pow (pe_int) (pe_int)) (nomark _)) (pss_one (ps_for PassesOwn.never rfl (pi_range1 (by rfl) T.n_range (pa_cons (pe_int) (pa_nil))) (pg_name (i := 4) scl_stream.nd rfl (by first | exact Or.inl rfl | exact Or.inr rfl))
    (pss_cons (ps_expr (pe_bm PySem.F.plainAttrs_list PySem.F.slot_list_append PySem.F.type_list_append mt_append (pv 1) (pa_cons (pe_op op_mod (pe_callTy cr_int (by rfl) T.n_int (by decide +kernel) (pa_cons (pv 3) (pa_nil))) (pe_int)) (pa_nil))))
    (pss_cons (ps_set (i := 3) scl_stream.nd rfl (by first | exact Or.inl rfl | exact Or.inr rfl) (pe_op op_fdiv (pv 3) (pe_int)))
    (pss_one (ps_if (pt_cmpR (op_eqD hr.units) (pv 3) (pe_int) (nomark _)) (pss_one (ps_break)) (pss_nil))))))) (pss_cons (ps_set (i := 5) scl_stream.nd rfl (by first | exact Or.inl rfl | exact Or.inr rfl) (pe_op op_mod (pe_callTy cr_int (by rfl) T.n_int (by decide +kernel) (pa_cons (pv 3) (pa_nil))) (pe_int)))
    (pss_one (ps_for PassesOwn.never rfl (pi_range1 (by rfl) T.n_range (pa_cons (pe_int) (pa_nil))) (pg_name (i := 4) scl_stream.nd rfl (by first | exact Or.inl rfl | exact Or.inr rfl))
    (pss_cons (ps_set (i := 5) scl_stream.nd rfl (by first | exact Or.inl rfl | exact Or.inr rfl) (pe_op op_mod (pe_callTy cr_int (by rfl) T.n_int (by decide +kernel) (pa_cons (pe_op op_uAdd (pe_op op_uAdd (pe_op op_mul (pv 5) (pe_int)) (pe_op op_mul (pe_int) (pv 4))) (pe_int)) (pa_nil))) (pe_int)))
    (pss_one (ps_expr (pe_bm PySem.F.plainAttrs_list PySem.F.slot_list_append PySem.F.type_list_append mt_append (pv 1) (pa_cons (pe_op op_mod (pe_op op_mod (pe_callTy cr_int (by rfl) T.n_int (by decide +kernel) (pa_cons (pe_op op_uAdd (pe_op op_mul (pv 5) (pe_int)) (pv 4)) (pa_nil))) (pe_int)) (pe_int)) (pa_nil)))))))))))))
    (pss_cons (ps_if (pt_cmpR (op_eqD hr.units) (pe_callB cr_len (by rfl) T.n_len PySem.boot_len (pa_cons (pv 1) (pa_nil))) (pe_int) (nomark _)) (pss_one (ps_expr (pe_bm PySem.F.plainAttrs_list PySem.F.slot_list_append PySem.F.type_list_append mt_append (pv 1) (pa_cons (pe_int) (pa_nil))))) (pss_nil))
    (pss_one (ps_ret (pv 1)))))
abbrev sl_next : Stmt := topS 14
theorem scl_next : FnScope ["state", "many", "turn"] ["state", "many"] (defScope sl_next) := ⟨rfl, rfl, rfl, by decide +kernel, rfl, by decide +kernel, by decide +kernel⟩
def tml_next (K : PySem.W.Frag) : TS :=
  tSeq (tAsg (tOp (uAdd K) (tOp (rIx K) (tVar 0) (tC (.int 1))) (tC (.int 1))) (gSub (tVar 0) (tC (.int 1)) rSetL)) (tSeq (tAsg (tOp (rI CDiv fun i j => .int (i / j)) (tOp (rIx K) (tVar 0) (tC (.int 1))) (tCB (DL.rLen K) (tCons (tOp (rIx K) (tVar 0) (tC (.int 0))) (tNil)))) (gName 2)) (tRet (tOp (rI (fun _ j => 0 < j) fun i j => .int (i % j)) (tCB (DL.rInt1) (tCons (tOp (uAdd K) (tOp (uAdd K) (tOp (rIx K) (tOp (rIx K) (tVar 0) (tC (.int 0))) (tOp (rI (fun _ j => 0 < j) fun i j => .int (i % j)) (tOp (rIx K) (tVar 0) (tC (.int 1))) (tCB (DL.rLen K) (tCons (tOp (rIx K) (tVar 0) (tC (.int 0))) (tNil))))) (tOp (rI CMul fun i j => .int (i * j)) (tVar 2) (tC (.int 389)))) (tOp (rI CMul fun i j => .int (i * j)) (tOp (rI CMul fun i j => .int (i * j)) (tOp (rIx K) (tVar 0) (tC (.int 1))) (tVar 2)) (tC (.int 17)))) (tNil))) (tVar 1))))
theorem htl_next (T : Txt K mg fA fD cA)  (cdv : Value) (A : Around) (outer : List PySem.Env) (s : Shared) (H : Hp) (E : XK) (hr : Room 0 (A.deeper (envOfC "_law_next" (defScope sl_next) s.heap.objs.size (fA 14) cdv))) :
    PSs ((cxOf CX0 P w K mg base ["state", "many", "turn"] "_law_next" (defScope sl_next) (fA 14) cdv A outer s H E).nox) (defBody sl_next) (tml_next K) :=
  pss_cons (ps_asg (pe_op op_uAdd (pe_ix ix_seq (pv 0) (pe_int) (fun _ _ => rfl)) (pe_int)) (pg_sub (pv 0) (pe_int) set_list))
    (pss_cons (ps_set (i := 2) scl_next.nd rfl (by first | exact Or.inl rfl | exact Or.inr rfl) (pe_op op_fdiv (pe_ix ix_seq (pv 0) (pe_int) (fun _ _ => rfl)) (pe_callB cr_len (by rfl) T.n_len PySem.boot_len (pa_cons (pe_ix ix_seq (pv 0) (pe_int) (fun _ _ => rfl)) (pa_nil)))))
    (pss_one (ps_ret (pe_op op_mod (pe_callTy cr_int (by rfl) T.n_int (by decide +kernel) (pa_cons (pe_op op_uAdd (pe_op op_uAdd (pe_ix ix_seq (pe_ix ix_seq (pv 0) (pe_int) (fun _ _ => rfl)) (pe_op op_mod (pe_ix ix_seq (pv 0) (pe_int) (fun _ _ => rfl)) (pe_callB cr_len (by rfl) T.n_len PySem.boot_len (pa_cons (pe_ix ix_seq (pv 0) (pe_int) (fun _ _ => rfl)) (pa_nil)))) (fun _ _ => rfl)) (pe_op op_mul (pv 2) (pe_int))) (pe_op op_mul (pe_op op_mul (pe_ix ix_seq (pv 0) (pe_int) (fun _ _ => rfl)) (pv 2)) (pe_int))) (pa_nil))) (pv 1)))))
abbrev sl_classes : Stmt := topS 15
theorem scl_classes : FnScope ["split", "found", "taken", "place", "row", "other"] ["split"] (defScope sl_classes) := ⟨rfl, rfl, rfl, by decide +kernel, rfl, by decide +kernel, by decide +kernel⟩
def tml_classes (K : PySem.W.Frag) : TS :=
  tSeq (tAsg (tLst (tNil)) (gName 1)) (tSeq (tAsg (tDNewK) (gName 2)) (tSeq (tFor (iRng1 (tCons (tCB (DL.rLen K) (tCons (tVar 0) (tNil))) (tNil))) (gName 3) (tIfS (tB (tDNotIn (tVar 3) (tVar 2))) (tSeq (tAsg (tLst (tNil)) (gName 4)) (tSeq (tFor (iRng2 (tCons (tVar 3) (tCons (tCB (DL.rLen K) (tCons (tVar 0) (tNil))) (tNil)))) (gName 5) (tSeq (tIfS (tTest (tOp (rI0 fun i j => .bl (decide (i < j))) (tOp (rIx K) (tVar 0) (tVar 5)) (tOp (rIx K) (tVar 0) (tVar 3)))) (tBreak) (tNext)) (tIfS (tTest (tOp (rEqD K) (tOp (rIx K) (tVar 0) (tVar 5)) (tOp (rIx K) (tVar 0) (tVar 3)))) (tSeq (tDrop (tBM K "list" rAppend (tVar 4) (tCons (tVar 5) (tNil)))) (sDPut (tVar 2) (tVar 5) (tC (.bl true)))) (tNext)))) (tDrop (tBM K "list" rAppend (tVar 1) (tCons (tVar 4) (tNil)))))) (tNext))) (tRet (tVar 1))))
theorem htl_classes (T : Txt K mg fA fD cA)  (cdv : Value) (A : Around) (outer : List PySem.Env) (s : Shared) (H : Hp) (E : XK) (hr : Room 0 (A.deeper (envOfC "_law_classes" (defScope sl_classes) s.heap.objs.size (fA 15) cdv))) :
    PSs ((cxOf CX0 P w K mg base ["split", "found", "taken", "place", "row", "other"] "_law_classes" (defScope sl_classes) (fA 15) cdv A outer s H E).nox) (defBody sl_classes) (tml_classes K) :=
  pss_cons (ps_set (i := 1) scl_classes.nd rfl (by first | exact Or.inl rfl | exact Or.inr rfl) (pe_lst (pa_nil)))
    (pss_cons (ps_set (i := 2) scl_classes.nd rfl (by first | exact Or.inl rfl | exact Or.inr rfl) (pe_dnewK))
    (pss_cons (ps_for PassesOwn.never rfl (pi_range1 (by rfl) T.n_range (pa_cons (pe_callB cr_len (by rfl) T.n_len PySem.boot_len (pa_cons (pv 0) (pa_nil))) (pa_nil))) (pg_name (i := 3) scl_classes.nd rfl (by first | exact Or.inl rfl | exact Or.inr rfl))
    (pss_one (ps_if (pt_cmp (pc_dnotin (hu_of hr) (pv 3) (pv 2))) (pss_cons (ps_set (i := 4) scl_classes.nd rfl (by first | exact Or.inl rfl | exact Or.inr rfl) (pe_lst (pa_nil)))
    (pss_cons (ps_for PassesOwn.never rfl (pi_range2 (by rfl) T.n_range (pa_cons (pv 3) (pa_cons (pe_callB cr_len (by rfl) T.n_len PySem.boot_len (pa_cons (pv 0) (pa_nil))) (pa_nil)))) (pg_name (i := 5) scl_classes.nd rfl (by first | exact Or.inl rfl | exact Or.inr rfl))
    (pss_cons (ps_if (pt_cmpR op_lt (pe_ix ix_seq (pv 0) (pv 5) (fun _ _ => rfl)) (pe_ix ix_seq (pv 0) (pv 3) (fun _ _ => rfl)) (nomark _)) (pss_one (ps_break)) (pss_nil))
    (pss_one (ps_if (pt_cmpR (op_eqD hr.units) (pe_ix ix_seq (pv 0) (pv 5) (fun _ _ => rfl)) (pe_ix ix_seq (pv 0) (pv 3) (fun _ _ => rfl)) (nomark _)) (pss_cons (ps_expr (pe_bm PySem.F.plainAttrs_list PySem.F.slot_list_append PySem.F.type_list_append mt_append (pv 4) (pa_cons (pv 5) (pa_nil))))
    (pss_one (ps_dput (hu_of hr) (pv 2) (pv 5) (pe_bl) rfl))) (pss_nil)))))
    (pss_one (ps_expr (pe_bm PySem.F.plainAttrs_list PySem.F.slot_list_append PySem.F.type_list_append mt_append (pv 1) (pa_cons (pv 4) (pa_nil))))))) (pss_nil))))
    (pss_one (ps_ret (pv 1)))))
abbrev sl_refused : Stmt := topS 16
theorem scl_refused : FnScope ["log", "split", "e"] ["log", "split"] (defScope sl_refused) := ⟨rfl, rfl, rfl, by decide +kernel, rfl, by decide +kernel, by decide +kernel⟩
def tml_refused (K : PySem.W.Frag) (cA : Nat → Addr) : TS :=
  tSeq (tTryCall (rcheck_split (cA 2)) K (.ref (cA 2)) 2 (tSuite K 2 (cA 1) [cA 3, cA 4, cA 5]) (tCons (tVar 0) (tCons (tVar 1) (tNil)))) (tRet (tC (.bl false)))
theorem htl_refused (T : Txt K mg fA fD cA) (G_check_split : FnOk P w K mg base (L2.CX P w) 1 (fA 9) (fD 9) ["log", "split"] (spX (rcheck_split (cA 2)) K)) (cdv : Value) (A : Around) (outer : List PySem.Env) (s : Shared) (H : Hp) (E : XK) (hr : Room 1 (A.deeper (envOfC "_law_refused" (defScope sl_refused) s.heap.objs.size (fA 16) cdv))) :
    PSs ((cxOf CX0 P w K mg base ["log", "split", "e"] "_law_refused" (defScope sl_refused) (fA 16) cdv A outer s H E).nox) (defBody sl_refused) (tml_refused K cA) :=
  pss_cons (ps_try_as (i := 2) (tb := fun W => tDrop (tCallS (spX (rcheck_split (cA 2)) K) (WE W) (tCons (tVar 0) (tCons (tVar 1) (tNil))))) (ts := tSuite K 2 (cA 1) [cA 3, cA 4, cA 5]) (Wout := fun _ _ _ _ => False) rfl rfl scl_refused.nd rfl rfl ⟨rfl, by decide, Or.inl T.g_NotAllowed⟩ takes0
      (fun W pn xe tk _ => pss_one (ps_expr (by exact (pe_callS G_check_split (hr.mono (by decide)) (by rfl) T.g_check_split T.F_check_split.kp T.b_check_split (fun σ => passAt tk σ) (by exact (pa_cons (pv 0) (pa_cons (pv 1) (pa_nil))))))))
      (fun a oe cls d pn hz hf => pss_one (ps_ret (by exact (pe_and (pe_callB (cr_isX hz hf) (by rfl) T.n_isinstance (by decide +kernel) (pa_cons (pv 2) (pa_cons (pe_glob (by rfl) T.g_ScarpError rfl) pa_nil))) (pe_one (pe_not (pe_callB (cr_isX hz hf) (by rfl) T.n_isinstance (by decide +kernel) (pa_cons (pv 2) (pa_cons (pe_tup (pa_cons (pe_glob (by rfl) T.g_TooLarge rfl) (pa_cons (pe_glob (by rfl) T.g_Missing rfl) (pa_cons (pe_glob (by rfl) T.g_BadPaper rfl) (pa_nil))))) pa_nil))))))))))
    (pss_one (ps_ret (pe_bl)))
abbrev sl_levels : Stmt := topS 17
theorem scl_levels : FnScope ["state", "many", "most", "k"] ["state", "many"] (defScope sl_levels) := ⟨rfl, rfl, rfl, by decide +kernel, rfl, by decide +kernel, by decide +kernel⟩
def tml_levels (K : PySem.W.Frag) : TS :=
  tSeq (tAsg (tOp (rIx K) (tLst (tCons (tC (.int 1)) (tCons (tC (.int 2)) (tCons (tC (.int 3)) (tCons (tC (.int 5)) (tCons (tC (.int 40)) (tNil))))))) (tCall (spS rl_next K) [] E0 (tCons (tVar 0) (tCons (tC (.int 5)) (tNil))))) (gName 2)) (tRet (tCB (DL.rTuple K) (tCons (tLc (iRng1 (tCons (tVar 1) (tNil))) (gName 3) (tYes) (tOp (uAdd K) (tC (.int 1)) (tCall (spS rl_next K) [] E0 (tCons (tVar 0) (tCons (tVar 2) (tNil))))) [3]) (tNil))))
theorem htl_levels (T : Txt K mg fA fD cA) (G_l_next : FnOk P w K mg base CX0 1 (fA 14) (fD 14) ["state", "many"] (spS rl_next K)) (cdv : Value) (A : Around) (outer : List PySem.Env) (s : Shared) (H : Hp) (E : XK) (hr : Room 1 (A.deeper (envOfC "_law_levels" (defScope sl_levels) s.heap.objs.size (fA 17) cdv))) :
    PSs ((cxOf CX0 P w K mg base ["state", "many", "most", "k"] "_law_levels" (defScope sl_levels) (fA 17) cdv A outer s H E).nox) (defBody sl_levels) (tml_levels K) :=
  pss_cons (ps_set (i := 2) scl_levels.nd rfl (by first | exact Or.inl rfl | exact Or.inr rfl) (pe_ix ix_seq (pe_lst (pa_cons (pe_int) (pa_cons (pe_int) (pa_cons (pe_int) (pa_cons (pe_int) (pa_cons (pe_int) (pa_nil))))))) (pe_call G_l_next (hr.mono (by decide)) (by rfl) T.g_l_next T.F_l_next.kp T.b_l_next .nil pass0 (pa_cons (pv 0) (pa_cons (pe_int) (pa_nil)))) (fun _ _ => rfl)))
    (pss_one (ps_ret (pe_callTy cr_tuple (by rfl) T.n_tuple (by decide +kernel) (pa_cons (pe_lc (own := [("k", 3)]) (g := gName 3) (tt := tYes) rfl scl_levels.nd (pi_range1 (by rfl) T.n_range (pa_cons (pv 1) (pa_nil))) (blkOk_by (N := ["state", "many", "most", "k"]) (sc := defScope sl_levels) (by decide +kernel)) (fun _ _ _ _ _ => pg_name (i := 3) scl_levels.nd rfl (Or.inl rfl)) (fun _ _ _ _ _ => pts_nil) (fun _ _ _ _ _ => pe_op op_uAdd (pe_int) (pe_call G_l_next (hr.mono (by decide)) (by rfl) T.g_l_next T.F_l_next.kp T.b_l_next .nil pass0 (pa_cons (pv 0) (pa_cons (pv 2) (pa_nil)))))) (pa_nil)))))
abbrev slaw : Stmt := topS 18
theorem sclaw : FnScope ["script", "state", "turn", "many", "log", "split", "height", "due", "told", "at", "bad", "other", "k", "row"] ["script"] (defScope slaw) := ⟨rfl, rfl, rfl, by decide +kernel, rfl, by decide +kernel, by decide +kernel⟩
def tmlaw (K : PySem.W.Frag) (cA : Nat → Addr) : TS :=
  tSeq (tAsg (tLst (tCons (tCall (spD rl_stream K) [] E0 (tCons (tVar 0) (tNil))) (tCons (tC (.int 0)) (tNil)))) (gName 1)) (tSeq (tFor (iRng1 (tCons (tC (.int 3)) (tNil))) (gName 2) (tSeq (tAsg (tOp (rIx K) (tLst (tCons (tCall (spS rl_next K) [] E0 (tCons (tVar 1) (tCons (tC (.int 8)) (tNil)))) (tCons (tCall (spS rl_next K) [] E0 (tCons (tVar 1) (tCons (tC (.int 41)) (tNil)))) (tCons (tOp (uAdd K) (tC (.int 398)) (tCall (spS rl_next K) [] E0 (tCons (tVar 1) (tCons (tC (.int 3)) (tNil))))) (tCons (tOp (uAdd K) (tC (.int 41)) (tCall (spS rl_next K) [] E0 (tCons (tVar 1) (tCons (tC (.int 357)) (tNil))))) (tNil)))))) (tOp (rIx K) (tLst (tCons (tC (.int 0)) (tCons (tC (.int 1)) (tCons (tC (.int 0)) (tCons (tC (.int 1)) (tCons (tC (.int 0)) (tCons (tC (.int 1)) (tCons (tC (.int 2)) (tCons (tC (.int 3)) (tNil)))))))))) (tCall (spS rl_next K) [] E0 (tCons (tVar 1) (tCons (tC (.int 8)) (tNil)))))) (gName 3)) (tSeq (tAsg (tCB (DL.rTuple K) (tCons (tLc (iRng1 (tCons (tVar 3) (tNil))) (gName 12) (tYes) (tOp (rIx K) (tLst (tCons (tC (.str "a")) (tCons (tC (.str "bb")) (tNil)))) (tCall (spS rl_next K) [] E0 (tCons (tVar 1) (tCons (tC (.int 2)) (tNil))))) [12]) (tNil))) (gName 4)) (tSeq (tAsg (tCall (spS rl_levels K) [] E0 (tCons (tVar 1) (tCons (tOp (uAdd K) (tVar 3) (tC (.int 1))) (tNil)))) (gName 5)) (tSeq (tAsg (tCall (spD rheight_of K) [] E0 (tCons (tVar 5) (tNil))) (gName 6)) (tSeq (tIfS (tOr (tB (tNotN (tCall (spX (rcheck_split (cA 2)) K) [] E0 (tCons (tVar 4) (tCons (tVar 5) (tNil)))))) (tOr (tNot (tB (tCB (rIsaB K) (tCons (tVar 6) (tCons (tC (.ty "int")) tNil))))) (tOr (tB (tCB (rIsaB K) (tCons (tVar 6) (tCons (tC (.ty "bool")) tNil)))) (tTest (tOp (rNeD K) (tVar 6) (tCB (uMax K) (tCons (tVar 5) (tNil)))))))) (tRet (tC (.bl false))) (tNext)) (tSeq (tAsg (tCall (spD rl_classes K) [] E0 (tCons (tVar 5) (tNil))) (gName 7)) (tSeq (tAsg (tCall (spD rclasses_of K) [] E0 (tCons (tVar 5) (tNil))) (gName 8)) (tSeq (tIfS (tOr (tNot (tB (tCB (rIsaB K) (tCons (tVar 8) (tCons (tC (.ty "list")) tNil))))) (tOr (tNot (tB (tCB (rAll K) (tCons (tLc (uIter K (tVar 8)) (gName 13) (tYes) (tCB (rIsaB K) (tCons (tVar 13) (tCons (tC (.ty "list")) tNil))) [13]) (tNil))))) (tTest (tOp (rNeD K) (tVar 8) (tVar 7))))) (tRet (tC (.bl false))) (tNext)) (tSeq (tDrop (tBM K "list" rAppend (tOp (rIx K) (tVar 8) (tC (.int 0))) (tCons (tC (.int 7)) (tNil)))) (tSeq (tDrop (tBM K "list" rAppend (tVar 8) (tCons (tLst (tCons (tC (.int 8)) (tNil))) (tNil)))) (tSeq (tIfS (tTest (tOp (rNeD K) (tCall (spD rclasses_of K) [] E0 (tCons (tVar 5) (tNil))) (tVar 7))) (tRet (tC (.bl false))) (tNext)) (tSeq (tAsg (tCall (spS rl_next K) [] E0 (tCons (tVar 1) (tCons (tCB (DL.rLen K) (tCons (tVar 5) (tNil))) (tNil)))) (gName 9)) (tSeq (tAsg (tOp (rIx K) (tLst (tCons (tC (.int 0)) (tCons (tC (.int 41)) (tCons (tUn (rU fun i => .int (-i)) (tC (.int 1))) (tCons (tOp (uAdd K) (tOp (uAdd K) (tC (.int 40)) (tCall (spS rl_next K) [] E0 (tCons (tVar 1) (tCons (tC (.int 1000)) (tNil))))) (tC (.int 1))) (tNil)))))) (tCall (spS rl_next K) [] E0 (tCons (tVar 1) (tCons (tC (.int 4)) (tNil))))) (gName 10)) (tFor (iList K (tLst (tCons (tSl (rSlA K) (tVar 5) (tPart (tC (.int 1))) (tNoPart)) (tCons (tOp (uAdd K) (tVar 5) (tTup (tCons (tC (.int 1)) (tNil)))) (tCons (tOp (uAdd K) (tOp (uAdd K) (tSl (rSlA K) (tVar 5) (tNoPart) (tPart (tVar 9))) (tTup (tCons (tVar 10) (tNil)))) (tSl (rSlA K) (tVar 5) (tPart (tOp (uAdd K) (tVar 9) (tC (.int 1)))) (tNoPart))) (tCons (tTup (tNil)) (tNil))))))) (gName 11) (tIfS (tNot (tB (tCall (spD rl_refused K) [] E0 (tCons (tVar 4) (tCons (tVar 11) (tNil)))))) (tRet (tC (.bl false))) (tNext))))))))))))))))) (tRet (tOp (rEqD K) (tTup (tCons (tC (.int 40)) (tCons (tC (.int 4)) (tNil)))) (tTup (tCons (tC (.int 40)) (tCons (tC (.int 4)) (tNil)))))))
theorem htlaw (T : Txt K mg fA fD cA) (G_l_refused : FnOk P w K mg base CX0 2 (fA 16) (fD 16) ["log", "split"] (spD rl_refused K)) (G_l_next : FnOk P w K mg base CX0 1 (fA 14) (fD 14) ["state", "many"] (spS rl_next K)) (G_classes_of : FnOk P w K mg base CX0 1 (fA 11) (fD 11) ["split"] (spD rclasses_of K)) (G_l_classes : FnOk P w K mg base CX0 1 (fA 15) (fD 15) ["split"] (spD rl_classes K)) (G_check_split : FnOk P w K mg base (L2.CX P w) 1 (fA 9) (fD 9) ["log", "split"] (spX (rcheck_split (cA 2)) K)) (G_height_of : FnOk P w K mg base CX0 1 (fA 10) (fD 10) ["split"] (spD rheight_of K)) (G_l_levels : FnOk P w K mg base CX0 2 (fA 17) (fD 17) ["state", "many"] (spS rl_levels K)) (G_l_stream : FnOk P w K mg base CX0 1 (fA 13) (fD 13) ["script"] (spD rl_stream K)) (cdv : Value) (A : Around) (outer : List PySem.Env) (s : Shared) (H : Hp) (E : XK) (hr : Room 2 (A.deeper (envOfC "law" (defScope slaw) s.heap.objs.size (fA 18) cdv))) :
    PSs ((cxOf CX0 P w K mg base ["script", "state", "turn", "many", "log", "split", "height", "due", "told", "at", "bad", "other", "k", "row"] "law" (defScope slaw) (fA 18) cdv A outer s H E).nox) (defBody slaw) (tmlaw K cA) :=
  pss_cons (ps_set (i := 1) sclaw.nd rfl (by first | exact Or.inl rfl | exact Or.inr rfl) (pe_lst (pa_cons (pe_call G_l_stream (hr.mono (by decide)) (by rfl) T.g_l_stream T.F_l_stream.kp T.b_l_stream .nil pass0 (pa_cons (pv 0) (pa_nil))) (pa_cons (pe_int) (pa_nil)))))
    (pss_cons (ps_for PassesOwn.never rfl (pi_range1 (by rfl) T.n_range (pa_cons (pe_int) (pa_nil))) (pg_name (i := 2) sclaw.nd rfl (by first | exact Or.inl rfl | exact Or.inr rfl))
    (pss_cons (ps_set (i := 3) sclaw.nd rfl (by first | exact Or.inl rfl | exact Or.inr rfl) (pe_ix ix_seq (pe_lst (pa_cons (pe_call G_l_next (hr.mono (by decide)) (by rfl) T.g_l_next T.F_l_next.kp T.b_l_next .nil pass0 (pa_cons (pv 1) (pa_cons (pe_int) (pa_nil)))) (pa_cons (pe_call G_l_next (hr.mono (by decide)) (by rfl) T.g_l_next T.F_l_next.kp T.b_l_next .nil pass0 (pa_cons (pv 1) (pa_cons (pe_int) (pa_nil)))) (pa_cons (pe_op op_uAdd (pe_int) (pe_call G_l_next (hr.mono (by decide)) (by rfl) T.g_l_next T.F_l_next.kp T.b_l_next .nil pass0 (pa_cons (pv 1) (pa_cons (pe_int) (pa_nil))))) (pa_cons (pe_op op_uAdd (pe_int) (pe_call G_l_next (hr.mono (by decide)) (by rfl) T.g_l_next T.F_l_next.kp T.b_l_next .nil pass0 (pa_cons (pv 1) (pa_cons (pe_int) (pa_nil))))) (pa_nil)))))) (pe_ix ix_seq (pe_lst (pa_cons (pe_int) (pa_cons (pe_int) (pa_cons (pe_int) (pa_cons (pe_int) (pa_cons (pe_int) (pa_cons (pe_int) (pa_cons (pe_int) (pa_cons (pe_int) (pa_nil)))))))))) (pe_call G_l_next (hr.mono (by decide)) (by rfl) T.g_l_next T.F_l_next.kp T.b_l_next .nil pass0 (pa_cons (pv 1) (pa_cons (pe_int) (pa_nil)))) (fun _ _ => rfl)) (fun _ _ => rfl)))
    (pss_cons (ps_set (i := 4) sclaw.nd rfl (by first | exact Or.inl rfl | exact Or.inr rfl) (pe_callTy cr_tuple (by rfl) T.n_tuple (by decide +kernel) (pa_cons (pe_lc (own := [("k", 12)]) (g := gName 12) (tt := tYes) rfl sclaw.nd (pi_range1 (by rfl) T.n_range (pa_cons (pv 3) (pa_nil))) (blkOk_by (N := ["script", "state", "turn", "many", "log", "split", "height", "due", "told", "at", "bad", "other", "k", "row"]) (sc := defScope slaw) (by decide +kernel)) (fun _ _ _ _ _ => pg_name (i := 12) sclaw.nd rfl (Or.inl rfl)) (fun _ _ _ _ _ => pts_nil) (fun _ _ _ _ _ => pe_ix ix_seq (pe_lst (pa_cons (pe_str) (pa_cons (pe_str) (pa_nil)))) (pe_call G_l_next (hr.mono (by decide)) (by rfl) T.g_l_next T.F_l_next.kp T.b_l_next .nil pass0 (pa_cons (pv 1) (pa_cons (pe_int) (pa_nil)))) (fun _ _ => rfl))) (pa_nil))))
    (pss_cons (ps_set (i := 5) sclaw.nd rfl (by first | exact Or.inl rfl | exact Or.inr rfl) (pe_call G_l_levels (hr.mono (by decide)) (by rfl) T.g_l_levels T.F_l_levels.kp T.b_l_levels .nil pass0 (pa_cons (pv 1) (pa_cons (pe_op op_uAdd (pv 3) (pe_int)) (pa_nil)))))
    (pss_cons (ps_set (i := 6) sclaw.nd rfl (by first | exact Or.inl rfl | exact Or.inr rfl) (pe_call G_height_of (hr.mono (by decide)) (by rfl) T.g_height_of T.F_height_of.kp T.b_height_of .nil pass0 (pa_cons (pv 5) (pa_nil))))
    (pss_cons (ps_if ((pw_or (pt_cmp (pc_notN (pe_call G_check_split (hr.mono (by decide)) (by rfl) T.g_check_split T.F_check_split.kp T.b_check_split .nil (passX rfl rfl) (pa_cons (pv 4) (pa_cons (pv 5) (pa_nil)))))) (pw_or (pt_not (pt_val (pe_callB cr_isaB (by rfl) T.n_isinstance (by decide +kernel) (pa_cons (pv 6) (pa_cons (pe_bltn (v := .ty "int") (u := .type "int") (by rfl) T.n_int (by decide +kernel) rfl) pa_nil))))) (pw_or (pt_val (pe_callB cr_isaB (by rfl) T.n_isinstance (by decide +kernel) (pa_cons (pv 6) (pa_cons (pe_bltn (v := .ty "bool") (u := .type "bool") (by rfl) T.n_bool (by decide +kernel) rfl) pa_nil)))) (pw_or1 (pt_cmpR (op_neD hr.units) (pv 6) (pe_callB (cr_uMax rfl (units65 hr)) (by rfl) T.n_max (by decide +kernel) (pa_cons (pv 5) (pa_nil))) (nomark _)))))).pt) (pss_one (ps_ret (pe_bl))) (pss_nil))
    (pss_cons (ps_set (i := 7) sclaw.nd rfl (by first | exact Or.inl rfl | exact Or.inr rfl) (pe_call G_l_classes (hr.mono (by decide)) (by rfl) T.g_l_classes T.F_l_classes.kp T.b_l_classes .nil pass0 (pa_cons (pv 5) (pa_nil))))
    (pss_cons (ps_set (i := 8) sclaw.nd rfl (by first | exact Or.inl rfl | exact Or.inr rfl) (pe_call G_classes_of (hr.mono (by decide)) (by rfl) T.g_classes_of T.F_classes_of.kp T.b_classes_of .nil pass0 (pa_cons (pv 5) (pa_nil))))
    (pss_cons (ps_if ((pw_or (pt_not (pt_val (pe_callB cr_isaB (by rfl) T.n_isinstance (by decide +kernel) (pa_cons (pv 8) (pa_cons (pe_bltn (v := .ty "list") (u := .type "list") (by rfl) T.n_list (by decide +kernel) rfl) pa_nil))))) (pw_or (pt_not (pt_val (pe_callB (cr_all rfl) (by rfl) T.n_all (by decide +kernel) (pa_cons (pe_lc (own := [("row", 13)]) (g := gName 13) (tt := tYes) rfl sclaw.nd (pi_u (pv 8)) (blkOk_by (N := ["script", "state", "turn", "many", "log", "split", "height", "due", "told", "at", "bad", "other", "k", "row"]) (sc := defScope slaw) (by decide +kernel)) (fun _ _ _ _ _ => pg_name (i := 13) sclaw.nd rfl (Or.inl rfl)) (fun _ _ _ _ _ => pts_nil) (fun _ _ _ _ _ => pe_callB cr_isaB (by rfl) T.n_isinstance (by decide +kernel) (pa_cons (pv 13) (pa_cons (pe_bltn (v := .ty "list") (u := .type "list") (by rfl) T.n_list (by decide +kernel) rfl) pa_nil)))) (pa_nil))))) (pw_or1 (pt_cmpR (op_neD hr.units) (pv 8) (pv 7) (nomark _))))).pt) (pss_one (ps_ret (pe_bl))) (pss_nil))
    (pss_cons (ps_expr (pe_bm PySem.F.plainAttrs_list PySem.F.slot_list_append PySem.F.type_list_append mt_append (pe_ix ix_seq (pv 8) (pe_int) (fun _ _ => rfl)) (pa_cons (pe_int) (pa_nil))))
    (pss_cons (ps_expr (pe_bm PySem.F.plainAttrs_list PySem.F.slot_list_append PySem.F.type_list_append mt_append (pv 8) (pa_cons (pe_lst (pa_cons (pe_int) (pa_nil))) (pa_nil))))
    (pss_cons (ps_if (pt_cmpR (op_neD hr.units) (pe_call G_classes_of (hr.mono (by decide)) (by rfl) T.g_classes_of T.F_classes_of.kp T.b_classes_of .nil pass0 (pa_cons (pv 5) (pa_nil))) (pv 7) (nomark _)) (pss_one (ps_ret (pe_bl))) (pss_nil))
    (pss_cons (ps_set (i := 9) sclaw.nd rfl (by first | exact Or.inl rfl | exact Or.inr rfl) (pe_call G_l_next (hr.mono (by decide)) (by rfl) T.g_l_next T.F_l_next.kp T.b_l_next .nil pass0 (pa_cons (pv 1) (pa_cons (pe_callB cr_len (by rfl) T.n_len PySem.boot_len (pa_cons (pv 5) (pa_nil))) (pa_nil)))))
    (pss_cons (ps_set (i := 10) sclaw.nd rfl (by first | exact Or.inl rfl | exact Or.inr rfl) (pe_ix ix_seq (pe_lst (pa_cons (pe_int) (pa_cons (pe_int) (pa_cons (pe_un un_neg (pe_int)) (pa_cons (pe_op op_uAdd (pe_op op_uAdd (pe_int) (pe_call G_l_next (hr.mono (by decide)) (by rfl) T.g_l_next T.F_l_next.kp T.b_l_next .nil pass0 (pa_cons (pv 1) (pa_cons (pe_int) (pa_nil))))) (pe_int)) (pa_nil)))))) (pe_call G_l_next (hr.mono (by decide)) (by rfl) T.g_l_next T.F_l_next.kp T.b_l_next .nil pass0 (pa_cons (pv 1) (pa_cons (pe_int) (pa_nil)))) (fun _ _ => rfl)))
    (pss_one (ps_for PassesOwn.never rfl (pi_list (pe_lst (pa_cons (pe_slice sl_tupA (pv 5) (po_some (pe_int)) (po_none)) (pa_cons (pe_op op_uAdd (pv 5) (pe_tup (pa_cons (pe_int) (pa_nil)))) (pa_cons (pe_op op_uAdd (pe_op op_uAdd (pe_slice sl_tupA (pv 5) (po_none) (po_some (pv 9))) (pe_tup (pa_cons (pv 10) (pa_nil)))) (pe_slice sl_tupA (pv 5) (po_some (pe_op op_uAdd (pv 9) (pe_int))) (po_none))) (pa_cons (pe_tup (pa_nil)) (pa_nil))))))) (pg_name (i := 11) sclaw.nd rfl (by first | exact Or.inl rfl | exact Or.inr rfl))
    (pss_one (ps_if (pt_not (pt_val (pe_call G_l_refused (hr.mono (by decide)) (by rfl) T.g_l_refused T.F_l_refused.kp T.b_l_refused .nil pass0 (pa_cons (pv 4) (pa_cons (pv 11) (pa_nil)))))) (pss_one (ps_ret (pe_bl))) (pss_nil)))))))))))))))))))
    (pss_one (ps_ret (pe_cmpR (op_eqD hr.units) (pe_tup (pa_cons (pe_cI (by rfl) T.c_MAX_LEVELS) (pa_cons (pe_cI (by rfl) T.c_MAX_HEIGHT) (pa_nil)))) (pe_tup (pa_cons (pe_int) (pa_cons (pe_int) (pa_nil)))) (nomark _)))))
end
end K25

namespace K25
open DL
theorem run_app (x y : Int) : ∀ (r : List Int) (q : Nat), run x q (r ++ [y]) = run x q r ++ (if (∀ z ∈ r, x ≤ z) ∧ y = x then [q + r.length] else [])
  | [], q => by
    by_cases h : y < x
    · have h2 : ¬ y = x := by omega
      simp [run, h, h2]
    · by_cases h2 : y = x
      · simp [run, h2]
      · simp [run, h, h2]
  | z :: r, q => by
    have ih := run_app x y r (q + 1)
    show run x q (z :: (r ++ [y])) = _
    by_cases h : z < x
    · have hn : ¬ ((∀ a ∈ z :: r, x ≤ a) ∧ y = x) := fun w => by
        have := w.1 z List.mem_cons_self
        omega
      simp only [run, if_pos h, if_neg hn, List.append_nil]
    · have e : (∀ a ∈ z :: r, x ≤ a) ↔ ∀ a ∈ r, x ≤ a := by
        constructor
        · intro w a m
          exact w a (List.mem_cons_of_mem _ m)
        · intro w a m
          rcases List.mem_cons.mp m with m | m
          · rw [m]; omega
          · exact w a m
      have el : q + 1 + r.length = q + (z :: r).length := by simp only [List.length_cons]; omega
      by_cases h2 : z = x
      · simp only [run, if_neg h, if_pos h2, ih, e, el, List.cons_append]
      · simp only [run, if_neg h, if_neg h2, ih, e, el]
/-- what is in a run -/
theorem mem_run (x : Int) : ∀ (r : List Int) (q p : Nat), p ∈ run x q r ↔ ∃ i, p = q + i ∧ r[i]? = some x ∧ ∀ j, j < i → ∃ z, r[j]? = some z ∧ x ≤ z
  | [], q, p => by simp [run]
  | y :: r, q, p => by
    have ih := mem_run x r (q + 1) p
    by_cases h : y < x
    · simp only [run, if_pos h]
      constructor
      · intro m; cases m
      · rintro ⟨i, rfl, h1, h2⟩
        cases i with
        | zero => simp at h1; omega
        | succ i =>
          obtain ⟨z, h3, h4⟩ := h2 0 (by omega)
          simp at h3
          omega
    · have step : (p ∈ run x (q + 1) r) ↔ ∃ i, p = q + (i + 1) ∧ (y :: r)[i + 1]? = some x ∧ ∀ j, j < i + 1 → ∃ z, (y :: r)[j]? = some z ∧ x ≤ z := by
        rw [ih]
        constructor
        · rintro ⟨i, e, h1, h2⟩
          refine ⟨i, by omega, by simpa using h1, fun j hj => ?_⟩
          cases j with
          | zero => exact ⟨y, rfl, by omega⟩
          | succ j =>
            obtain ⟨z, h3, h4⟩ := h2 j (by omega)
            exact ⟨z, by simpa using h3, h4⟩
        · rintro ⟨i, e, h1, h2⟩
          refine ⟨i, by omega, by simpa using h1, fun j hj => ?_⟩
          obtain ⟨z, h3, h4⟩ := h2 (j + 1) (by omega)
          exact ⟨z, by simpa using h3, h4⟩
      by_cases h2 : y = x
      · simp only [run, if_neg h, if_pos h2, List.mem_cons]
        rw [step]
        constructor
        · rintro (rfl | ⟨i, h⟩)
          · exact ⟨0, rfl, by simp [h2], fun j hj => by omega⟩
          · exact ⟨i + 1, h⟩
        · rintro ⟨i, h⟩
          cases i with
          | zero => exact .inl h.1
          | succ i => exact .inr ⟨i, h⟩
      · simp only [run, if_neg h, if_neg h2]
        rw [step]
        constructor
        · rintro ⟨i, h⟩
          exact ⟨i + 1, h⟩
        · rintro ⟨i, h3, h4, h5⟩
          cases i with
          | zero => simp at h4; exact absurd h4 h2
          | succ i => exact ⟨i, h3, h4, h5⟩
/-- q is in the row of p: p is at most q, the levels are the same, none between is lesser -/
theorem mem_row {s : List Int} {p q : Nat} (hp : p < s.length) : q ∈ rowOf s p ↔ p ≤ q ∧ s[q]? = s[p]? ∧ ∀ j, p ≤ j → j ≤ q → ∃ z, s[j]? = some z ∧ s.getD p 0 ≤ z := by
  unfold rowOf
  have hx : s[p]? = some (s.getD p 0) := by rw [List.getD_eq_getElem?_getD, List.getElem?_eq_getElem hp]; rfl
  rw [mem_run]
  constructor
  · rintro ⟨i, rfl, h1, h2⟩
    rw [List.getElem?_drop] at h1
    refine ⟨by omega, by rw [h1, hx], fun j h3 h4 => ?_⟩
    by_cases e : j = p + i
    · rw [e, h1]
      exact ⟨_, rfl, Int.le_refl _⟩
    · obtain ⟨z, h5, h6⟩ := h2 (j - p) (by omega)
      rw [List.getElem?_drop, show p + (j - p) = j by omega] at h5
      exact ⟨z, h5, h6⟩
  · rintro ⟨h1, h2, h3⟩
    refine ⟨q - p, by omega, ?_, fun j hj => ?_⟩
    · rw [List.getElem?_drop, show p + (q - p) = q by omega, h2, hx]
    · obtain ⟨z, h4, h5⟩ := h3 (p + j) (by omega) (by omega)
      rw [List.getElem?_drop]
      exact ⟨z, h4, h5⟩
theorem row_lt {s : List Int} {p q : Nat} (hp : p < s.length) (h : q ∈ rowOf s p) : q < s.length := by
  obtain ⟨h1, h2, h3⟩ := (mem_row hp).mp h
  obtain ⟨z, h4, _⟩ := h3 q h1 (Nat.le_refl _)
  exact (List.getElem?_eq_some_iff.mp h4).1
theorem row_self {s : List Int} {p : Nat} (hp : p < s.length) : p ∈ rowOf s p :=
  (mem_row hp).mpr ⟨Nat.le_refl _, rfl, fun j h1 h2 => by
    have : j = p := by omega
    subst this
    exact ⟨s.getD j 0, by rw [List.getD_eq_getElem?_getD, List.getElem?_eq_getElem hp]; rfl, Int.le_refl _⟩⟩
theorem getD_of {s : List Int} {p q : Nat} (h : s[q]? = s[p]?) : s.getD q 0 = s.getD p 0 := by
  rw [List.getD_eq_getElem?_getD, List.getD_eq_getElem?_getD, h]
theorem row_trans {s : List Int} {p q r : Nat} (hp : p < s.length) (h1 : q ∈ rowOf s p) (h2 : r ∈ rowOf s q) : r ∈ rowOf s p := by
  have hq := row_lt hp h1
  obtain ⟨a1, a2, a3⟩ := (mem_row hp).mp h1
  obtain ⟨b1, b2, b3⟩ := (mem_row hq).mp h2
  refine (mem_row hp).mpr ⟨by omega, b2.trans a2, fun j h3 h4 => ?_⟩
  by_cases e : j ≤ q
  · exact a3 j h3 e
  · obtain ⟨z, h5, h6⟩ := b3 j (by omega) h4
    exact ⟨z, h5, by rw [← getD_of a2]; exact h6⟩
theorem head_iff {s : List Int} {p : Nat} : isHead s p = true ↔ ∀ q, q < p → p ∉ rowOf s q := by
  unfold isHead
  rw [Bool.not_eq_true', ← Bool.not_eq_true, List.any_eq_true]
  constructor
  · intro h q hq m
    exact h ⟨q, List.mem_range.mpr hq, decide_eq_true m⟩
  · rintro h ⟨q, hq, m⟩
    exact h q (List.mem_range.mp hq) (of_decide_eq_true m)
/-- each place is in the row of a head -/
theorem has_head {s : List Int} : ∀ (p : Nat), p < s.length → ∃ h, h ≤ p ∧ isHead s h = true ∧ p ∈ rowOf s h := by
  intro p
  induction p using Nat.strongRecOn with
  | ind p ih =>
    intro hp
    by_cases e : isHead s p = true
    · exact ⟨p, Nat.le_refl _, e, row_self hp⟩
    · have : ¬ ∀ q, q < p → p ∉ rowOf s q := fun w => e (head_iff.mpr w)
      have ⟨q, hq⟩ : ∃ q, q < p ∧ p ∈ rowOf s q := by
        apply Classical.byContradiction
        intro w
        exact this fun q hq m => w ⟨q, hq, m⟩
      obtain ⟨h, h1, h2, h3⟩ := ih q hq.1 (by omega)
      exact ⟨h, by omega, h2, row_trans (by omega) h3 hq.2⟩
/-! ### one place more -/
def opn (t : List Int) (p : Nat) : Prop := ∀ z ∈ t.drop p, t.getD p 0 ≤ z
theorem getD_app {t : List Int} {x : Int} {p : Nat} (h : p < t.length) : (t ++ [x]).getD p 0 = t.getD p 0 := by
  rw [List.getD_eq_getElem?_getD, List.getD_eq_getElem?_getD, List.getElem?_append_left h]
theorem getD_last {t : List Int} {x : Int} : (t ++ [x]).getD t.length 0 = x := by
  rw [List.getD_eq_getElem?_getD, List.getElem?_append_right (Nat.le_refl _)]
  simp
theorem row_app {t : List Int} {x : Int} {p : Nat} (h : p < t.length) : rowOf (t ++ [x]) p = rowOf t p ++ (if (∀ z ∈ t.drop p, t.getD p 0 ≤ z) ∧ x = t.getD p 0 then [t.length] else []) := by
  unfold rowOf
  rw [getD_app h, List.drop_append_of_le_length (by omega), run_app]
  have : p + (t.drop p).length = t.length := by rw [List.length_drop]; omega
  rw [this]
theorem row_last {t : List Int} {x : Int} : rowOf (t ++ [x]) t.length = [t.length] := by
  unfold rowOf
  rw [getD_last, List.drop_left]
  simp [run]
theorem head_app {t : List Int} {x : Int} {p : Nat} (h : p < t.length) : isHead (t ++ [x]) p = isHead t p := by
  rw [Bool.eq_iff_iff, head_iff, head_iff]
  have : ∀ q, q < p → (p ∈ rowOf (t ++ [x]) q ↔ p ∈ rowOf t q) := fun q hq => by
    rw [row_app (by omega), List.mem_append]
    constructor
    · rintro (m | m)
      · exact m
      · split at m
        · simp at m; omega
        · cases m
    · exact .inl
  constructor
  · intro w q hq m
    exact w q hq ((this q hq).mpr m)
  · intro w q hq m
    exact w q hq ((this q hq).mp m)
def heads (t : List Int) : List Nat := (List.range t.length).filter (isHead t)
theorem mem_heads {t : List Int} {p : Nat} : p ∈ heads t ↔ p < t.length ∧ isHead t p = true := by
  unfold heads
  rw [List.mem_filter, List.mem_range]
theorem heads_nodup (t : List Int) : (heads t).Nodup := List.Nodup.sublist List.filter_sublist List.nodup_range
theorem heads_app {t : List Int} {x : Int} : heads (t ++ [x]) = heads t ++ (if isHead (t ++ [x]) t.length = true then [t.length] else []) := by
  unfold heads
  rw [List.length_append, List.length_singleton, List.range_succ, List.filter_append]
  congr 1
  · apply List.filter_congr
    intro p hp
    exact head_app (List.mem_range.mp hp)
  · rw [List.filter_cons]
    split <;> rfl
theorem new_iff {t : List Int} {x : Int} : isHead (t ++ [x]) t.length = true ↔ ¬ ∃ p, p ∈ heads t ∧ opn t p ∧ t.getD p 0 = x := by
  rw [head_iff]
  constructor
  · rintro w ⟨p, h1, h2, h3⟩
    obtain ⟨hp, _⟩ := mem_heads.mp h1
    refine w p hp ?_
    rw [row_app hp, if_pos ⟨h2, h3.symm⟩]
    simp
  · intro w q hq m
    rw [row_app hq, List.mem_append] at m
    rcases m with m | m
    · have := row_lt hq m
      omega
    · split at m
      · rename_i hc
        obtain ⟨h, h1, h2, h3⟩ := has_head q hq
        have hh : h < t.length := by omega
        obtain ⟨a1, a2, a3⟩ := (mem_row hh).mp h3
        have ee : t.getD q 0 = t.getD h 0 := getD_of a2
        refine w ⟨h, mem_heads.mpr ⟨hh, h2⟩, fun z m => ?_, by rw [← ee]; exact hc.2.symm⟩
        obtain ⟨i, hi⟩ := List.mem_iff_getElem?.mp m
        rw [List.getElem?_drop] at hi
        by_cases e : h + i ≤ q
        · obtain ⟨z', h5, h6⟩ := a3 (h + i) (by omega) e
          rw [hi] at h5
          cases h5
          exact h6
        · rw [← ee]
          refine hc.1 z (List.mem_iff_getElem?.mpr ⟨h + i - q, ?_⟩)
          rw [List.getElem?_drop, show q + (h + i - q) = h + i by omega]
          exact hi
      · cases m
/-- of one level only one head is open -/
theorem opn_one {t : List Int} {p q : Nat} (hp : p ∈ heads t) (hq : q ∈ heads t) (op : opn t p) (oq : opn t q) (e : t.getD p 0 = t.getD q 0) : p = q := by
  have key : ∀ {p q : Nat}, p ∈ heads t → q ∈ heads t → opn t p → t.getD p 0 = t.getD q 0 → ¬ p < q := fun {p q} hp hq op e lt => by
    obtain ⟨lp, _⟩ := mem_heads.mp hp
    obtain ⟨lq, hh⟩ := mem_heads.mp hq
    refine head_iff.mp hh p lt ((mem_row lp).mpr ⟨by omega, ?_, fun j h1 h2 => ?_⟩)
    · rw [List.getD_eq_getElem?_getD, List.getD_eq_getElem?_getD, List.getElem?_eq_getElem lp, List.getElem?_eq_getElem lq] at e
      rw [List.getElem?_eq_getElem lp, List.getElem?_eq_getElem lq]
      have e' : t[p] = t[q] := e
      rw [e']
    · have hj : j < t.length := by omega
      refine ⟨t[j], List.getElem?_eq_getElem hj, op _ (List.mem_iff_getElem?.mpr ⟨j - p, ?_⟩)⟩
      rw [List.getElem?_drop, show p + (j - p) = j by omega, List.getElem?_eq_getElem hj]
  have h1 := key hp hq op e
  have h2 := key hq hp oq e.symm
  omega
theorem cls_eq (t : List Int) : cls t = (heads t).map (rowOf t) := rfl
theorem cls_new {t : List Int} {x : Int} (h : isHead (t ++ [x]) t.length = true) : cls (t ++ [x]) = cls t ++ [[t.length]] := by
  rw [cls_eq, cls_eq, heads_app, if_pos h, List.map_append]
  congr 1
  · apply List.map_congr_left
    intro p hp
    obtain ⟨lp, _⟩ := mem_heads.mp hp
    rw [row_app lp, if_neg, List.append_nil]
    rintro ⟨h1, h2⟩
    exact new_iff.mp h ⟨p, hp, h1, h2.symm⟩
  · simp only [List.map_cons, List.map_nil, row_last]
theorem cls_old {t : List Int} {x : Int} {i p : Nat} (hi : (heads t)[i]? = some p) (op : opn t p) (e : t.getD p 0 = x) : cls (t ++ [x]) = (cls t).set i (rowOf t p ++ [t.length]) := by
  have hp : p ∈ heads t := List.mem_of_getElem? hi
  have hn : ¬ isHead (t ++ [x]) t.length = true := fun w => new_iff.mp w ⟨p, hp, op, e⟩
  rw [cls_eq, cls_eq, heads_app, if_neg hn, List.append_nil]
  apply List.ext_getElem?
  intro j
  rw [List.getElem?_map]
  by_cases hj : j = i
  · subst hj
    have hl : j < ((heads t).map (rowOf t)).length := by rw [List.length_map]; exact (List.getElem?_eq_some_iff.mp hi).1
    rw [List.getElem?_set_self hl, hi]
    show some (rowOf (t ++ [x]) p) = _
    rw [row_app (mem_heads.mp hp).1, if_pos ⟨op, e.symm⟩]
  · rw [List.getElem?_set_ne (Ne.symm hj), List.getElem?_map]
    cases hq : (heads t)[j]? with
    | none => rfl
    | some q =>
      have mq : q ∈ heads t := List.mem_of_getElem? hq
      show some (rowOf (t ++ [x]) q) = some (rowOf t q)
      rw [row_app (mem_heads.mp mq).1, if_neg, List.append_nil]
      rintro ⟨h1, h2⟩
      have : q = p := opn_one mq hp h1 op (by rw [e]; exact h2.symm)
      subst this
      have l1 := (List.getElem?_eq_some_iff.mp hi)
      have l2 := (List.getElem?_eq_some_iff.mp hq)
      exact hj ((List.getElem_inj (heads_nodup t)).mp (l2.2.trans l1.2.symm))
theorem opn_app {t : List Int} {x : Int} {p : Nat} (h : p < t.length) : opn (t ++ [x]) p ↔ opn t p ∧ t.getD p 0 ≤ x := by
  unfold opn
  rw [getD_app h, List.drop_append_of_le_length (by omega)]
  constructor
  · intro w
    exact ⟨fun z m => w z (List.mem_append_left _ m), w x (by simp)⟩
  · rintro ⟨w1, w2⟩ z m
    rcases List.mem_append.mp m with m | m
    · exact w1 z m
    · rw [List.mem_singleton.mp m]; exact w2
theorem opn_last {t : List Int} {x : Int} : opn (t ++ [x]) t.length := by
  unfold opn
  rw [getD_last, List.drop_left]
  intro z m
  rw [List.mem_singleton.mp m]
  exact Int.le_refl _
/-! ### what can still be joined -/
structure Joins (t : List Int) (js : List (Int × Nat)) : Prop where
  nd : (js.map (·.1)).Nodup
  has : ∀ l i, (l, i) ∈ js ↔ ∃ p, (heads t)[i]? = some p ∧ opn t p ∧ t.getD p 0 = l
theorem joins_nil : Joins [] [] := ⟨by simp, fun l i => by simp [heads]⟩
theorem nodup_filter_map {js : List (Int × Nat)} (nd : (js.map (·.1)).Nodup) (f : Int × Nat → Bool) : ((js.filter f).map (·.1)).Nodup :=
  List.Nodup.sublist (List.Sublist.map _ (List.filter_sublist)) nd
theorem joins_old {t : List Int} {js : List (Int × Nat)} {x : Int} {i : Nat} (J : Joins t js) (m : (x, i) ∈ js) : Joins (t ++ [x]) (js.filter fun j => decide (j.1 ≤ x)) := by
  obtain ⟨p, hp, op, e⟩ := (J.has x i).mp m
  have mp : p ∈ heads t := List.mem_of_getElem? hp
  have hn : ¬ isHead (t ++ [x]) t.length = true := fun w => new_iff.mp w ⟨p, mp, op, e⟩
  have hh : heads (t ++ [x]) = heads t := by rw [heads_app, if_neg hn, List.append_nil]
  refine ⟨nodup_filter_map J.nd _, fun l k => ?_⟩
  rw [List.mem_filter, J.has, hh]
  constructor
  · rintro ⟨⟨q, h1, h2, h3⟩, h4⟩
    have h4 : l ≤ x := of_decide_eq_true h4
    have lq := (mem_heads.mp (List.mem_of_getElem? h1)).1
    exact ⟨q, h1, (opn_app lq).mpr ⟨h2, by rw [h3]; exact h4⟩, by rw [getD_app lq]; exact h3⟩
  · rintro ⟨q, h1, h2, h3⟩
    have lq := (mem_heads.mp (List.mem_of_getElem? h1)).1
    obtain ⟨h4, h5⟩ := (opn_app lq).mp h2
    rw [getD_app lq] at h3
    exact ⟨⟨q, h1, h4, h3⟩, decide_eq_true (by rw [← h3]; exact h5)⟩
theorem joins_new {t : List Int} {js : List (Int × Nat)} {x : Int} (J : Joins t js) (no : ∀ i, (x, i) ∉ js) : Joins (t ++ [x]) (js.filter (fun j => decide (j.1 ≤ x)) ++ [(x, (heads t).length)]) ∧ isHead (t ++ [x]) t.length = true := by
  have hn : isHead (t ++ [x]) t.length = true := new_iff.mpr fun ⟨p, h1, h2, h3⟩ => by
    obtain ⟨i, hi⟩ := List.mem_iff_getElem?.mp h1
    exact no i ((J.has x i).mpr ⟨p, hi, h2, h3⟩)
  have hh : heads (t ++ [x]) = heads t ++ [t.length] := by rw [heads_app, if_pos hn]
  refine ⟨⟨?_, fun l k => ?_⟩, hn⟩
  · rw [List.map_append]
    refine List.nodup_append.mpr ⟨nodup_filter_map J.nd _, by simp, fun a ha b hb => ?_⟩
    have hb : b = x := by simpa using hb
    subst hb
    rintro rfl
    obtain ⟨⟨l, i⟩, h1, h2⟩ := List.mem_map.mp ha
    have h2 : l = a := h2
    subst h2
    exact no i (List.mem_filter.mp h1).1
  · rw [List.mem_append, List.mem_filter, J.has, hh]
    constructor
    · rintro (⟨⟨q, h1, h2, h3⟩, h4⟩ | m)
      · have h4 : l ≤ x := of_decide_eq_true h4
        have lq := (mem_heads.mp (List.mem_of_getElem? h1)).1
        have lk := (List.getElem?_eq_some_iff.mp h1).1
        exact ⟨q, by rw [List.getElem?_append_left lk]; exact h1, (opn_app lq).mpr ⟨h2, by rw [h3]; exact h4⟩, by rw [getD_app lq]; exact h3⟩
      · have m : (l, k) = (x, (heads t).length) := by simpa using m
        cases m
        exact ⟨t.length, by rw [List.getElem?_append_right (Nat.le_refl _)]; simp, opn_last, getD_last⟩
    · rintro ⟨q, h1, h2, h3⟩
      by_cases lk : k < (heads t).length
      · rw [List.getElem?_append_left lk] at h1
        have lq := (mem_heads.mp (List.mem_of_getElem? h1)).1
        obtain ⟨h4, h5⟩ := (opn_app lq).mp h2
        rw [getD_app lq] at h3
        exact .inl ⟨⟨q, h1, h4, h3⟩, decide_eq_true (by rw [← h3]; exact h5)⟩
      · rw [List.getElem?_append_right (by omega)] at h1
        have : k - (heads t).length = 0 := by
          cases e : k - (heads t).length with
          | zero => rfl
          | succ n => rw [e] at h1; simp at h1
        rw [this] at h1
        have h1 : t.length = q := by simpa using h1
        subst h1
        rw [getD_last] at h3
        have : k = (heads t).length := by omega
        exact .inr (by rw [h3, this]; simp)
theorem run_len (x : Int) : ∀ (r : List Int) (q : Nat), (run x q r).length ≤ r.length
  | [], q => by simp [run]
  | y :: r, q => by
    have := run_len x r (q + 1)
    unfold run
    split
    · simp
    · split
      · simp only [List.length_cons]; omega
      · simp only [List.length_cons]; omega
theorem row_len (s : List Int) (p : Nat) : (rowOf s p).length ≤ s.length := by
  have := run_len (s.getD p 0) (s.drop p) p
  unfold rowOf
  rw [List.length_drop] at this
  omega
theorem cls_len (s : List Int) : (cls s).length ≤ s.length := by
  unfold cls
  rw [List.length_map]
  have := List.length_filter_le (isHead s) (List.range s.length)
  rw [List.length_range] at this
  exact this
end K25

/-! ### the walk over data -/
local macro_rules | `(tactic| walk_at "side") => `(tactic| first | omega | (with_reducible assumption) | (simp only [List.length_map, List.length_append, List.length_cons, List.length_nil, List.length_set, List.length_range, PySem.sizeLine_eq]; omega) | (simp; done) | (simp; omega) | decide)
local macro_rules | `(tactic| walk_at "size") => `(tactic| first | decide | (simp; done) | (simp; decide))
local macro_rules | `(tactic| walk_at "cond") => `(tactic| first
  | ((with_reducible show L2.CDiv _ _); (refine And.intro ?c1 ?c2); (case c1 => walk_at "side"); (case c2 => walk_at "side"))
  | ((with_reducible show L2.CMul _ _); first
    | (refine Or.inr (And.intro ?c1 ?c2); (case c1 => walk_at "side"); (case c2 => walk_at "side"))
    | (refine Or.inl (And.intro ?c1 ?c2); (case c1 => walk_at "side"); (case c2 => walk_at "side")))
  | ((with_reducible show L2.CPow _ _); (refine And.intro ?c1 (And.intro ?c2 ?c3)); (case c1 => walk_at "side"); (case c2 => walk_at "side"); (case c3 => walk_at "side"))
  | ((with_reducible show (0 : Int) < _); walk_at "side"))
local macro_rules | `(tactic| walk_at "ix") => `(tactic| first
  | rfl
  | exact DL.atI_ints (by walk_at "side") (by walk_at "side")
  | exact DL.atI_own (by walk_at "side") (by walk_at "side"))
local macro_rules | `(tactic| walk_at "r2") => `(tactic| first
  | (with_reducible exact DL.ra_int) | (with_reducible exact DL.r2_int) | (with_reducible exact DL.r2_bl)
  | ((with_reducible refine' DL.ra_str ?hh); (case hh => walk_at "side")) | ((with_reducible refine' DL.ra_tup ?hh); (case hh => walk_at "side"))
  | ((with_reducible refine' DL.r2_intC ?hh); (case hh => walk_at "cond"))
  | ((with_reducible refine' DL.rx_L ?hh); (case hh => walk_at "ix")) | ((with_reducible refine' DL.rx_T ?hh); (case hh => walk_at "ix"))
  | exact DL.r2_eqD rfl rfl | exact DL.r2_neD rfl rfl
  | ((with_reducible refine' DL.r2_eqD ?h1 ?h2); (case h1 => walk_at "side"); (case h2 => walk_at "side")) | ((with_reducible refine' DL.r2_neD ?h1 ?h2); (case h1 => walk_at "side"); (case h2 => walk_at "side")))
local macro_rules | `(tactic| walk_at "rc") => `(tactic| first
  | (with_reducible exact DL.rc_lenL) | (with_reducible exact DL.rc_lenT) | (with_reducible exact DL.rc_abs) | (with_reducible exact DL.rc_int) | (with_reducible exact DL.rc_intB) | (with_reducible exact DL.rc_tupL) | (with_reducible exact DL.rc_all) | (with_reducible exact DL.rc_any) | (exact DL.rc_maxT) | (exact DL.rc_maxL))
local macro_rules | `(tactic| walk_at "rcn") => `(tactic| first | (with_reducible exact DL.rc_listL) | (with_reducible exact DL.rc_listT))
local macro_rules | `(tactic| walk_at "eo") => `(tactic| first | ((with_reducible show DL.EvO _ (L2.tVar _) _ _ _); exact DL.eo_own rfl) | ((with_reducible refine' DL.eo_of ?hh); (case hh => walk_at "ed")))
local macro_rules | `(tactic| walk_at "ea") => `(tactic| first | (with_reducible exact DL.ea_nil) | ((with_reducible refine' DL.ea_cons ?ea1 ?ea2); (case ea1 => walk_at "eo"); (case ea2 => walk_at "ea")))
local macro_rules | `(tactic| walk_at "ep") => `(tactic| first | (with_reducible exact DL.ep_no) | ((with_reducible refine' DL.ep_some ?hh); (case hh => walk_at "ed")))
local macro_rules | `(tactic| walk_at "en") => `(tactic| first
  | ((with_reducible refine' DL.en_lst (hd := ?n2) (hz := ?n3) ?n1); (case n1 => walk_at "ea"); (case n2 => rfl); (case n3 => walk_at "size"))
  | ((with_reducible refine' DL.en_sl (dA := ?n4) ?n1 ?n2 ?n3 ?n5); (case n1 => walk_at "eo"); (case n2 => walk_at "ep"); (case n3 => walk_at "ep"); (case n4 => rfl); (case n5 => (with_reducible exact DL.rs_list)))
  | ((with_reducible refine' DL.en_cb (dA := ?n2) ?n1 ?n3); (case n1 => walk_at "ea"); (case n2 => rfl); (case n3 => walk_at "rcn")))
local macro_rules | `(tactic| walk_at "et") => `(tactic| first
  | ((with_reducible refine' DL.et_test ?hh); (case hh => walk_at "ed")) | ((with_reducible refine' DL.et_B ?hh); (case hh => walk_at "ed"))
  | ((with_reducible refine' DL.et_not ?hh); (case hh => walk_at "et"))
  | ((with_reducible refine' DL.et_and ?t1 ?t2); (case t1 => walk_at "et"); (case t2 => intro _; walk_at "et"))
  | ((with_reducible refine' DL.et_or ?t1 ?t2); (case t1 => walk_at "et"); (case t2 => intro _; walk_at "et")))
local macro_rules | `(tactic| walk_at "ed") => `(tactic| first
  | (with_reducible exact DL.ed_int) | (with_reducible exact DL.ed_bl) | (with_reducible exact DL.ed_str) | (with_reducible exact DL.ed_non)
  | ((with_reducible show DL.EvD _ (L2.tVar _) _ _ _); exact DL.ed_var rfl)
  | ((with_reducible refine' DL.ed_op (dA := ?d3) (dB := ?d4) ?d1 ?d2 ?d5); (case d1 => walk_at "eo"); (case d2 => walk_at "eo"); (case d3 => rfl); (case d4 => rfl); (case d5 => walk_at "r2"))
  | ((with_reducible refine' DL.ed_cb (dA := ?d2) ?d1 ?d3); (case d1 => walk_at "ea"); (case d2 => rfl); (case d3 => walk_at "rc"))
  | ((with_reducible refine' DL.ed_un (dA := ?d2) ?d1 ?d3); (case d1 => walk_at "eo"); (case d2 => rfl); (case d3 => (with_reducible exact DL.ru_neg)))
  | ((with_reducible refine' DL.ed_tup (hd := ?d2) (hz := ?d3) ?d1); (case d1 => walk_at "ea"); (case d2 => rfl); (case d3 => walk_at "size"))
  | ((with_reducible refine' DL.ed_sl (dA := ?d4) ?d1 ?d2 ?d3 ?d5); (case d1 => walk_at "eo"); (case d2 => walk_at "ep"); (case d3 => walk_at "ep"); (case d4 => rfl); (case d5 => (with_reducible exact DL.rs_tup)))
  | ((with_reducible refine' DL.ed_and ?d1 ?d2); (case d1 => walk_at "ed"); (case d2 => intro _; walk_at "ed"))
  | ((with_reducible refine' DL.ed_or ?d1 ?d2); (case d1 => walk_at "ed"); (case d2 => intro _; walk_at "ed"))
  | ((with_reducible refine' DL.ed_chain (dA := ?d3) (dB := ?d4) (dC := ?d5) ?d1 ?d2 ?d6 ?d7 ?d8); (case d1 => walk_at "eo"); (case d2 => walk_at "eo"); (case d7 => (intro _; walk_at "eo")); (case d3 => rfl); (case d4 => rfl); (case d5 => rfl); (case d6 => walk_at "r2"); (case d8 => (intro _; walk_at "r2")))
  | ((with_reducible refine' DL.ed_not ?hh); (case hh => walk_at "ed"))
  | ((with_reducible refine' DL.ed_isN ?hh); (case hh => walk_at "ed")) | ((with_reducible refine' DL.ed_notN ?hh); (case hh => walk_at "ed"))
  | ((with_reducible refine' DL.ed_ofN ?hh); (case hh => walk_at "en")))
local macro_rules | `(tactic| walk_at "nx") => `(tactic| dsimp only [DL.Sq, List.set_cons_zero, List.set_cons_succ])
local macro_rules | `(tactic| walk_at "set") => `(tactic| ((with_reducible refine' DL.sv_set (hi := ?s3) (hp := ?s4) ?s1 ?s2); (case s1 => walk_at "ed"); (case s3 => simp); (case s4 => simp); walk_at "nx"))
local macro_rules | `(tactic| walk_at "seq") => `(tactic| apply DL.sv_seq)
local macro_rules | `(tactic| walk_at "setitem") => `(tactic| ((with_reducible refine' DL.sv_setItem ?s1 ?s2 ?s3 ?s4 ?s5 ?s6); (case s1 => walk_at "ed"); (case s2 => walk_at "ed"); (case s3 => rfl); (case s4 => rfl); (case s5 => first | rfl | walk_at "side"); walk_at "nx"))
local macro_rules | `(tactic| walk_at "append") => `(tactic| ((with_reducible refine' DL.sv_append (h0 := ?s1) (he := ?s2) (h1 := ?s3) (hz := ?s4) ?s5); (case s1 => rfl); (case s2 => walk_at "ed"); (case s3 => rfl); (case s4 => walk_at "side"); walk_at "nx"))
local macro_rules | `(tactic| walk_at "ret") => `(tactic| ((with_reducible refine' DL.sv_ret ?s1 ?s2); (case s1 => walk_at "ed")))
local macro_rules | `(tactic| walk_at "weq") => `(tactic| first | (with_reducible rfl) | (with_reducible assumption) | rfl | assumption)
local macro_rules | `(tactic| walk_at "wk") => `(tactic| first | exact DL.Wk.nil | ((with_reducible refine' DL.Wk.eq ?q); (case q => walk_at "wk")) | ((with_reducible refine' DL.Wk.no ?q); (case q => walk_at "wk")) | ((with_reducible refine' DL.Wk.eq' ?q1 ?q2); (case q1 => walk_at "weq"); (case q2 => walk_at "wk")) | (dsimp only [DL.TurnW, DL.Turn]; walk_at "wk") | (dsimp only; walk_at "wk"))
local macro_rules | `(tactic| walk_at "drop") => `(tactic| (refine' DL.sv_drop ?s1 ?s2; (case s1 => walk_at "ed"); walk_at "nx"))
local macro_rules | `(tactic| walk_at "if") => `(tactic| (refine' DL.sv_if ?s1 ?s2 ?s3; (case s1 => walk_at "et")))
local macro_rules | `(tactic| walk_at "setn") => `(tactic| (refine' DL.sv_setN (hi := ?s3) (hp := ?s4) ?s1 ?s2; (case s1 => walk_at "en"); (case s3 => simp); (case s4 => simp); walk_at "nx"))
local macro_rules | `(tactic| walk_at "ei") => `(tactic| first
  | (refine' DL.ei_rng1 (hA := ?h2) (hb := ?h3) ?h1; (case h1 => walk_at "ea"); (case h2 => rfl); (case h3 => (constructor <;> walk_at "side")))
  | (refine' DL.ei_rng2 (hA := ?h2) (hB := ?h3) (hb := ?h4) ?h1; (case h1 => walk_at "ea"); (case h2 => rfl); (case h3 => rfl); (case h4 => (refine And.intro (And.intro ?_ ?_) (And.intro ?_ ?_) <;> walk_at "side")))
  | (refine' DL.ei_uL ?h1; (case h1 => walk_at "ed"))
  | (refine' DL.ei_uT ?h1; (case h1 => walk_at "ed")))

namespace K25
open PySem PySem.Spec PyProof.Rows L2 DL
variable {K : PySem.W.Frag}
theorem svcheck_split {cA : Nat → Addr} (ds : List D) (r : RetX) (E : XK) (h : rcheck_split (cA 2) ds r) : Sv ⟨K, [], E⟩ (tmcheck_split K cA E) (rho0 ["log", "split", "level"] (ds.map .dat)) (RetXP r) := by
  obtain ⟨log, sp, rfl, rfl⟩ := h
  unfold tmcheck_split
  show Sv ⟨K, [], E⟩ _ [.dat (.tuple log), .dat (.tuple (sp.map .int)), .no] _
  walk_at "seq"
  walk_at "if"
  case s2 =>
    intro hb
    simp only [List.length_map] at hb
    have hb' : ¬ sp.length = log.length + 1 := by
      have : ¬ (sp.length : Int) = (log.length : Int) + 1 := by simpa [PyData.eqv] using hb
      omega
    refine sv_raise ?_
    show _ = _
    rw [if_neg fun z => hb' z.1]
  case s3 =>
    intro hb
    simp only [List.length_map] at hb
    have hb' : sp.length = log.length + 1 := by
      have : ((sp.length : Int) == (log.length : Int) + 1) = true := by simpa [PyData.eqv] using hb
      have := eq_of_beq this
      omega
    refine sv_next ?_
    walk_at "nx"
    refine' sv_for (fun i ρ => (∀ x ∈ sp.take i, 1 ≤ x ∧ x ≤ 40) ∧ Wk ρ [.dat (.tuple log), .dat (.tuple (sp.map .int)), .no]) ?hi ?h0 ?hs ?hd
    case hi => walk_at "ei"
    case h0 => exact ⟨by simp, by walk_at "wk"⟩
    case hs =>
      rintro i ρ hi ⟨hx, w⟩
      rw [List.length_map] at hi
      rw [nthD_ints hi]
      refine ⟨_, (tg_name).wk w, ?_⟩
      dsimp only [List.set_cons_zero, List.set_cons_succ]
      have hm : sp.getD i 0 ∈ sp := by
        rw [List.getD_eq_getElem?_getD, List.getElem?_eq_getElem hi]
        exact List.getElem_mem hi
      have htk : sp.take (i + 1) = sp.take i ++ [sp.getD i 0] := by
        rw [List.take_add_one, List.getD_eq_getElem?_getD, List.getElem?_eq_getElem hi]
        rfl
      generalize sp.getD i 0 = x at hm htk ⊢
      walk_at "if"
      case s2 =>
        intro hb
        have hb' : ¬ (1 ≤ x ∧ x ≤ 40) := by
          have : x < 1 ∨ 40 < x := by simpa using hb
          omega
        refine sv_raise ?_
        show _ = _
        rw [if_neg fun z => hb' (z.2 x hm)]
      case s3 =>
        intro hb
        have hb' : 1 ≤ x ∧ x ≤ 40 := by simpa using hb
        refine sv_next ⟨fun y m => ?_, by walk_at "wk"⟩
        rw [htk] at m
        rcases List.mem_append.mp m with m | m
        · exact hx y m
        · rw [List.mem_singleton.mp m]
          exact hb'
    case hd =>
      rintro ρ ⟨hx, w⟩
      rw [List.length_map, List.take_length] at hx
      show _ = _
      rw [if_pos ⟨hb', hx⟩]
theorem svheight_of (ds : List D) (r : RetV) (h : rheight_of ds r) : Sv (gm K []) (tmheight_of K) (rho0 ["split"] (ds.map .dat)) (RetP r) := by
  obtain ⟨n, ns, rfl, rfl⟩ := h
  unfold tmheight_of
  show Sv (gm K []) _ [.dat (.tuple ((n :: ns).map .int))] _
  walk_at "ret"
  rfl
end K25

namespace K25
open PySem PySem.Spec PyProof.Rows L2 DL
variable {K : PySem.W.Frag}
theorem svl_next (st ds : List D) (r : RetV) (st' : List D) (h : rl_next st ds r st') : Sv (gm K [0]) (tml_next K) (rho0 ["state", "many", "turn"] (.own (.lst st) :: ds.map .dat)) (RetS r st') := by
  obtain ⟨N, k, many, G, h0, h1, hm, rfl, rfl, rfl, rfl⟩ := h
  have hp := G.pos
  have hl := G.len
  obtain ⟨d0, d1⟩ := good_div G (k := k + 1) (by omega) (by unfold KMax at *; omega)
  have m0 : 0 ≤ (k + 1) % (N.length : Int) := Int.emod_nonneg _ (by omega)
  have m1 : (k + 1) % (N.length : Int) < N.length := Int.emod_lt_of_pos _ (by omega)
  unfold KMax at h1 d1
  unfold tml_next
  show Sv (gm K [0]) _ [.own (.lst [.list (N.map .int), .int k]), .dat (.int many), .no] _
  walk_at "seq"
  walk_at "setitem"
  walk_at "seq"
  walk_at "set"
  simp only [List.length_map]
  walk_at "ret"
  simp only [List.length_map]
  exact ⟨rfl, rfl⟩

theorem svl_stream (ds : List D) (r : RetV) (h : rl_stream ds r) : Sv (gm K []) (tml_stream K) (rho0 ["script", "numbers", "cell", "rest", "k", "mixed"] (ds.map .dat)) (RetP r) := by
  obtain ⟨ns, hl, rfl, rfl⟩ := h
  unfold tml_stream
  show Sv (gm K []) _ [.dat (.list (ns.map .int)), .no, .no, .no, .no, .no] _
  walk_at "seq"
  walk_at "setn"
  walk_at "seq"
  refine' sv_forE (fun i => [.dat (.list (ns.map .int)), .own (.lst ((flat (ns.take i)).map .int)), .no, .no, .no, .no]) ?hi ?h0 ?hs ?hd
  case hi =>
    refine' ei_uL (ds := ns.map .int) (ed_eq (d := .list (cutD (ns.map .int) none (some 63))) ?e1 ?e2)
    case e1 => walk_at "ed"
    case e2 => rw [show (63 : Int) = ((63 : Nat) : Int) from rfl, cut_to (by rw [List.length_map]; exact hl)]
  case h0 => walk_at "wk"
  case hs =>
    intro i hi
    rw [List.length_map] at hi
    rw [nthD_ints hi]
    have hfl := flat_len (ns.take i)
    have htl : (ns.take i).length ≤ 63 := by rw [List.length_take]; omega
    refine ⟨_, tg_name, ?_⟩
    dsimp only [List.set_cons_zero, List.set_cons_succ]
    have eft := flat_take hi
    generalize ns.getD i 0 = c at eft ⊢
    generalize hbase : flat (ns.take i) = base at hfl eft ⊢
    walk_at "seq"
    walk_at "set"
    rw [show (if c < 0 then -c else c) = cellAbs c from rfl]
    have hr0 : 0 ≤ cellAbs c := by unfold cellAbs; split <;> omega
    have hch : chunk c = if 10 ^ 18 ≤ cellAbs c then dig 60 (cellAbs c) else (List.range 10).map (mxo (cellAbs c % 2147483647)) := rfl
    generalize cellAbs c = rest at hr0 hch
    walk_at "if"
    case s2 =>
      intro hb
      have hb' : (10 : Int) ^ 18 ≤ rest := of_decide_eq_true hb
      rw [if_pos hb'] at hch
      refine' sv_for (fun i ρ => ∃ acc r, acc ++ dig (60 - i) r = dig 60 rest ∧ acc.length = i ∧ Wk ρ [.dat (.list (ns.map .int)), .own (.lst ((base ++ acc).map .int)), .no, .dat (.int r), .no, .no]) ?hi2 ?h02 ?hs2 ?hd2
      case hi2 => walk_at "ei"
      case h02 => exact ⟨[], rest, by simp, rfl, by rw [List.append_nil]; walk_at "wk"⟩
      case hs2 =>
        rintro j ρ hj ⟨acc, r, ha, hal, w⟩
        have hj' : j < 60 := hj
        refine ⟨_, (tg_name).wk w, ?_⟩
        dsimp only [List.set_cons_zero, List.set_cons_succ]
        walk_at "seq"
        walk_at "append"
        rw [map_append_one]
        walk_at "seq"
        walk_at "set"
        have e60 : 60 - j = (60 - (j + 1)) + 1 := by omega
        rw [e60, dig_succ] at ha
        walk_at "if"
        case s2 =>
          intro hz
          have hz' : r / 1009 = 0 := by simpa [PyData.eqv] using hz
          rw [if_pos hz'] at ha
          refine sv_break ?_
          have e2 : Ent.own (.lst ((base ++ acc ++ [r % 1009]).map .int)) = Ent.own (.lst ((flat (ns.take (i + 1))).map .int)) := own_eq (by rw [eft, hch, ← ha, List.append_assoc])
          walk_at "wk"
        case s3 =>
          intro hz
          have hz' : ¬ r / 1009 = 0 := by simpa [PyData.eqv] using hz
          rw [if_neg hz'] at ha
          refine sv_next ⟨acc ++ [r % 1009], r / 1009, by rw [List.append_assoc]; exact ha, by simp [hal], ?_⟩
          rw [List.append_assoc]
          walk_at "wk"
      case hd2 =>
        rintro ρ ⟨acc, r, ha, hal, w⟩
        have e : acc = dig 60 rest := by
          rw [← ha]
          simp [dig]
        subst e
        refine Wk.trans w ?_
        have e2 : Ent.own (.lst ((base ++ dig 60 rest).map .int)) = Ent.own (.lst ((flat (ns.take (i + 1))).map .int)) := own_eq (by rw [eft, hch])
        walk_at "wk"
    case s3 =>
      intro hb
      have hb' : ¬ (10 : Int) ^ 18 ≤ rest := of_decide_eq_false hb
      rw [if_neg hb'] at hch
      walk_at "seq"
      walk_at "set"
      generalize rest % 2147483647 = m0 at hch
      refine' sv_forE (fun j => [.dat (.list (ns.map .int)), .own (.lst ((base ++ (List.range j).map (mxo m0)).map .int)), .no, .no, .no, .dat (.int (mxm m0 j))]) ?hi2 ?h02 ?hs2 ?hd2
      case hi2 => walk_at "ei"
      case h02 =>
        have e2 : Ent.own (.lst (base.map .int)) = Ent.own (.lst ((base ++ (List.range 0).map (mxo m0)).map .int)) := own_eq (by simp)
        walk_at "wk"
      case hs2 =>
        intro j hj
        have hj' : j < 10 := hj
        refine ⟨_, tg_name, ?_⟩
        dsimp only [List.set_cons_zero, List.set_cons_succ]
        have hlr : ((List.range j).map (mxo m0)).length = j := by simp
        walk_at "seq"
        walk_at "set"
        rw [show (mxm m0 j * 48271 + 7 * (0 + (j : Int)) + 11) % 2147483647 = mxm m0 (j + 1) from rfl]
        walk_at "append"
        rw [map_append_one, show (mxm m0 (j + 1) * 69621 + (0 + (j : Int))) % 2147483629 % 1009 = mxo m0 j from rfl]
        have e2 : Ent.own (.lst ((base ++ (List.range j).map (mxo m0) ++ [mxo m0 j]).map .int)) = Ent.own (.lst ((base ++ (List.range (j + 1)).map (mxo m0)).map .int)) := own_eq (by rw [List.range_succ, List.map_append (f := mxo m0), List.append_assoc base]; rfl)
        walk_at "wk"
      case hd2 =>
        intro ρ w
        refine Wk.trans w ?_
        have e2 : Ent.own (.lst ((base ++ (List.range 10).map (mxo m0)).map .int)) = Ent.own (.lst ((flat (ns.take (i + 1))).map .int)) := own_eq (by rw [eft, hch])
        walk_at "wk"
  case hd =>
    intro ρ w
    refine sv_wkSq w ?_
    rw [List.length_map, List.take_length]
    have hfl := flat_len ns
    walk_at "seq"
    walk_at "if"
    case s2 =>
      intro hz
      have hz' : flat ns = [] := by simpa [PyData.eqv] using hz
      rw [hz']
      walk_at "append"
      refine sv_retOwn rfl ?_
      show RetV.new _ = _
      unfold streamOf
      rw [if_pos hz']
      rfl
    case s3 =>
      intro hz
      have hz' : flat ns ≠ [] := by simpa [PyData.eqv] using hz
      refine sv_next ?_
      walk_at "nx"
      refine sv_retOwn rfl ?_
      show RetV.new _ = _
      unfold streamOf
      rw [if_neg hz']
end K25

namespace K25
open PySem PySem.Spec PyProof.Rows L2 DL
variable {K : PySem.W.Frag}
def enc (js : List (Int × Nat)) : List (Key × D) := js.map fun kv => ((.inl kv.1 : Key), natD kv.2)
def clsN (t : List Int) : List (List D) := (cls t).map fun row => row.map natD
theorem enc_app (a b : List (Int × Nat)) : enc (a ++ b) = enc a ++ enc b := List.map_append
theorem enc_len (a : List (Int × Nat)) : (enc a).length = a.length := List.length_map _
theorem enc_nd {js : List (Int × Nat)} (h : (js.map (·.1)).Nodup) : ((enc js).map (·.1)).Nodup := by
  have : (enc js).map (·.1) = (js.map (·.1)).map (Sum.inl : Int → Key) := by
    unfold enc
    rw [List.map_map, List.map_map]
    rfl
  rw [this]
  refine List.Pairwise.map (Sum.inl : Int → Key) (fun a b ne => ?_) h
  intro e
  cases e
  exact ne rfl
def leK (x : Int) : Key → Bool
  | .inl l => decide (l ≤ x)
  | .inr _ => false
theorem enc_filter (x : Int) : ∀ js : List (Int × Nat), (enc js).filter (fun kv => leK x kv.1) = enc (js.filter fun j => decide (j.1 ≤ x))
  | [] => rfl
  | (l, i) :: js => by
    have ih := enc_filter x js
    show List.filter _ (((.inl l : Key), natD i) :: enc js) = _
    rw [List.filter_cons, List.filter_cons]
    show (if decide (l ≤ x) = true then _ else _) = _
    by_cases h : decide (l ≤ x) = true
    · rw [if_pos h, ih]
      simp only [h, if_true]
      rfl
    · rw [if_neg h, ih]
      simp only [h]
      rfl
theorem val_some {x : Int} {i : Nat} : ∀ {js : List (Int × Nat)}, (js.map (·.1)).Nodup → (x, i) ∈ js → valD (enc js) (.inl x) = some (natD i)
  | [], _, m => by cases m
  | (l, k) :: js, nd, m => by
    have nd' := List.nodup_cons.mp nd
    show Option.map _ (List.find? _ (((.inl l : Key), natD k) :: enc js)) = _
    rw [List.find?_cons]
    by_cases e : l = x
    · subst e
      have : k = i := by
        rcases List.mem_cons.mp m with m | m
        · cases m; rfl
        · exact absurd (List.mem_map.mpr ⟨_, m, rfl⟩) nd'.1
      subst this
      simp
    · have hm : (x, i) ∈ js := by
        rcases List.mem_cons.mp m with m | m
        · cases m; exact absurd rfl e
        · exact m
      have : decide ((Sum.inl l : Key) = Sum.inl x) = false := decide_eq_false fun h => e (Sum.inl.inj h)
      simp only [this]
      exact val_some nd'.2 hm
theorem val_none {x : Int} : ∀ {js : List (Int × Nat)}, (∀ i, (x, i) ∉ js) → valD (enc js) (.inl x) = none
  | [], _ => rfl
  | (l, k) :: js, no => by
    show Option.map _ (List.find? _ (((.inl l : Key), natD k) :: enc js)) = _
    rw [List.find?_cons]
    have e : ¬ l = x := fun e => no k (by rw [e]; exact List.mem_cons_self)
    have : decide ((Sum.inl l : Key) = Sum.inl x) = false := decide_eq_false fun h => e (Sum.inl.inj h)
    simp only [this]
    exact val_none fun i m => no i (List.mem_cons_of_mem _ m)
theorem put_new {x : Int} {k : Nat} {js : List (Int × Nat)} (no : ∀ i, (x, i) ∉ js) : putD (enc js) (.inl x) (natD k) = enc (js ++ [(x, k)]) := by
  unfold putD
  rw [if_neg, enc_app]
  · rfl
  · intro h
    obtain ⟨kv, m, e⟩ := List.any_eq_true.mp h
    obtain ⟨⟨l, i⟩, m2, rfl⟩ := List.mem_map.mp m
    have e := of_decide_eq_true e
    have : l = x := Sum.inl.inj e
    subst this
    exact no i m2
theorem heads_len (t : List Int) : (heads t).length = (clsN t).length := by
  unfold clsN
  rw [cls_eq, List.length_map, List.length_map]
theorem clsN_new {t : List Int} {x : Int} (h : isHead (t ++ [x]) t.length = true) : clsN (t ++ [x]) = clsN t ++ [[natD t.length]] := by
  unfold clsN
  rw [cls_new h, List.map_append]
  rfl
theorem clsN_old {t : List Int} {x : Int} {i p : Nat} (hi : (heads t)[i]? = some p) (op : opn t p) (e : t.getD p 0 = x) : clsN (t ++ [x]) = (clsN t).set i ((rowOf t p).map natD ++ [natD t.length]) ∧ (clsN t)[i]? = some ((rowOf t p).map natD) := by
  constructor
  · unfold clsN
    rw [cls_old hi op e, List.map_set, List.map_append]
    rfl
  · unfold clsN
    rw [cls_eq, List.getElem?_map, List.getElem?_map, hi]
    rfl
theorem pred_cong {p q : Key × D → Bool} {l : List (Key × D)} (h : ∀ kv ∈ l, p kv = q kv) : l.filter p = l.filter q := List.filter_congr h
end K25

namespace K25
open PySem PySem.Spec PyProof.Rows L2 DL
variable {K : PySem.W.Frag}
theorem clsstep {sp t : List Int} {x : Int} {js : List (Int × Nat)} {P : Out → Prop} (hsz : t.length < 1000) (jl : js.length ≤ t.length) (J : Joins t js)
    (hP : ∀ ρ', (∃ js', js'.length ≤ t.length + 1 ∧ Joins (t ++ [x]) js' ∧ Wk ρ' [.dat (.tuple (sp.map .int)), .own (.lls (clsN (t ++ [x]))), .own (.dK (enc js')), .no, .no, .no]) → P (.nx ρ')) :
    Sv (gm K [])
    (tSeq
      (tAsg
        (tLockE
          (tDc (iKeys (tVar 2)) (gName 5) (tTest (tOp (rI0 fun i j => V.bl (decide (i ≤ j))) (tVar 5) (tVar 4)))
            (tVar 5) (tDGet (tVar 2) (tVar 5)) [5]))
        (gName 2))
      (tSeq
        (tIfS (tB (tDNotIn (tVar 4) (tVar 2)))
          (tSeq (sDPut (tVar 2) (tVar 4) (tCB (DL.rLen K) (tCons (tVar 1) tNil)))
            (tDrop (tBM K "list" rAppend (tVar 1) (tCons (tLst tNil) tNil))))
          tNext)
        (tDrop (tBM K "list" rAppend (tOp (rIx K) (tVar 1) (tDGet (tVar 2) (tVar 4))) (tCons (tVar 3) tNil)))))
    [.dat (.tuple (sp.map .int)), .own (.lls (clsN t)), .own (.dK (enc js)), .dat (.int (t.length : Nat)), .dat (.int x), .no] P := by
  have cl : (clsN t).length ≤ t.length := by unfold clsN; rw [List.length_map]; exact cls_len t
  have fl := List.length_filter_le (fun j : Int × Nat => decide (j.1 ≤ x)) js
  walk_at "seq"
  refine' sv_dictFilter (leK x) rfl ?d1 ?d2 ?d3 ?d4 ?d5 ?d6 ?d7 ?d8 ?d9
  case d1 => intro e h; simp at h; exact h.symm
  case d2 => decide
  case d3 => simp
  case d4 => exact enc_nd J.nd
  case d5 => rw [enc_len]; simp only [PySem.sizeLine_eq]; omega
  case d8 => simp
  case d9 => simp
  case d6 =>
    intro k d m
    obtain ⟨⟨l, q⟩, m2, e⟩ := List.mem_map.mp m
    cases e
    dsimp only [List.set_cons_zero, List.set_cons_succ, keyOf, leK]
    walk_at "et"
  rw [enc_filter]
  walk_at "nx"
  walk_at "seq"
  by_cases hx : ∃ q, (x, q) ∈ js
  · obtain ⟨q, hq⟩ := hx
    have J2 := joins_old J hq
    obtain ⟨p, h1, h2, h3⟩ := (J.has x q).mp hq
    have hq2 : (x, q) ∈ js.filter fun j => decide (j.1 ≤ x) := List.mem_filter.mpr ⟨hq, decide_eq_true (Int.le_refl _)⟩
    have hv := val_some (J2.nd) hq2
    obtain ⟨c1, c2⟩ := clsN_old (x := x) h1 h2 h3
    refine' sv_if (et_B (ed_dnotin (k := .inl x) ?e1 ?e4)) ?e2 ?e3
    case e1 => exact ed_var rfl
    case e4 => exact rfl
    case e2 => intro z; rw [hv] at z; cases z
    case e3 =>
      intro z
      refine sv_next ?_
      walk_at "nx"
      have hql : q < (clsN t).length := (List.getElem?_eq_some_iff.mp c2).1
      have rl := row_len t p
      refine' sv_appAt (n := (q : Int)) (j := q) (d := natD t.length) rfl ?f1 ?f9 ?f2 ?f3 c2 ?f4 ?f5 ?f6 ?f7
      case f1 =>
        refine' ed_dget (k := .inl x) ?j1 ?j2 ?j3 hv
        case j1 => exact rfl
        case j2 => exact ed_var rfl
        case j3 => exact rfl
      case f9 => exact rfl
      case f2 => simp [ixN]; omega
      case f3 => exact ed_var rfl
      case f4 => rw [List.length_map]; simp only [PySem.sizeLine_eq]; omega
      case f6 => simp
      case f7 => simp
      case f5 =>
        dsimp only [List.set_cons_zero, List.set_cons_succ]
        rw [← c1]
        exact hP _ ⟨_, by omega, J2, by walk_at "wk"⟩
  · have no : ∀ i, (x, i) ∉ js := fun i m => hx ⟨i, m⟩
    have no2 : ∀ i, (x, i) ∉ js.filter fun j => decide (j.1 ≤ x) := fun i m => no i (List.mem_filter.mp m).1
    obtain ⟨J2, hn⟩ := joins_new J no
    rw [heads_len] at J2
    have hv := val_none no2
    have hp := put_new (k := (clsN t).length) no2
    have hv2 := val_some (x := x) (i := (clsN t).length) J2.nd (by simp)
    refine' sv_if (et_B (ed_dnotin (k := .inl x) ?e1 ?e4)) ?e2 ?e3
    case e1 => exact ed_var rfl
    case e4 => exact rfl
    case e3 => intro z; rw [hv] at z; cases z
    case e2 =>
      intro z
      walk_at "seq"
      refine' sv_dput (k := .inl x) ?g1 ?g5 ?g2 ?g6 ?g3 ?g4
      case g1 => exact ed_lenLls rfl
      case g2 => exact ed_var rfl
      case g5 => exact rfl
      case g6 => exact rfl
      case g3 => rw [enc_len]; simp only [PySem.sizeLine_eq]; omega
      rw [show (PyData.int ((clsN t).length : Nat) : D) = natD (clsN t).length from rfl, hp]
      walk_at "nx"
      refine' sv_appLls (ds := []) rfl ?i1 ?i4 ?i2 ?i3
      case i1 => walk_at "en"
      case i4 => exact rfl
      case i2 => simp only [PySem.sizeLine_eq]; omega
      walk_at "nx"
      refine' sv_appAt (n := ((clsN t).length : Int)) (j := (clsN t).length) (d := natD t.length) (ds := []) rfl ?f1 ?f9 ?f2 ?f3 ?f8 ?f4 ?f5 ?f6 ?f7
      case f1 =>
        refine' ed_dget (k := .inl x) ?j1 ?j2 ?j3 hv2
        case j1 => exact rfl
        case j2 => exact ed_var rfl
        case j3 => exact rfl
      case f9 => exact rfl
      case f2 => simp [ixN]; omega
      case f3 => exact ed_var rfl
      case f8 => simp
      case f4 => decide
      case f6 => simp
      case f7 => simp
      case f5 =>
        have : (clsN t ++ [[]]).set (clsN t).length ([] ++ [natD t.length]) = clsN (t ++ [x]) := by
          rw [clsN_new hn, List.set_append_right _ _ (Nat.le_refl _)]
          simp
        dsimp only [List.set_cons_zero, List.set_cons_succ]
        rw [this]
        exact hP _ ⟨_, by rw [List.length_append, List.length_singleton]; omega, J2, by walk_at "wk"⟩
theorem svclasses_of (ds : List D) (r : RetV) (h : rclasses_of ds r) : Sv (gm K []) (tmclasses_of K) (rho0 ["split", "classes", "joinable", "place", "level", "other"] (ds.map .dat)) (RetP r) := by
  obtain ⟨sp, hsz, rfl, rfl⟩ := h
  unfold tmclasses_of
  show Sv (gm K []) _ [.dat (.tuple (sp.map .int)), .no, .no, .no, .no, .no] _
  walk_at "seq"
  refine' sv_newLls ?n1 ?n2 ?n3 ?n4
  case n1 => walk_at "en"
  case n3 => simp
  case n4 => simp
  walk_at "nx"
  walk_at "seq"
  refine' sv_newDict ?m2 ?m3 ?m4
  case m3 => simp
  case m4 => simp
  walk_at "nx"
  walk_at "seq"
  refine' sv_for (fun i ρ => ∃ js, js.length ≤ i ∧ Joins (sp.take i) js ∧ Wk ρ [.dat (.tuple (sp.map .int)), .own (.lls (clsN (sp.take i))), .own (.dK (enc js)), .no, .no, .no]) ?hi ?h0 ?hs ?hd
  case hi => exact ei_enT (by walk_at "ed")
  case h0 => exact ⟨[], by simp, joins_nil, by walk_at "wk"⟩
  case hs =>
    rintro i ρ hi ⟨js, jl, J, w⟩
    rw [List.length_map] at hi
    have htk : sp.take (i + 1) = sp.take i ++ [sp.getD i 0] := by
      rw [List.take_add_one, List.getD_eq_getElem?_getD, List.getElem?_eq_getElem hi]
      rfl
    have htl : (sp.take i).length = i := by rw [List.length_take]; omega
    show ∃ ρ2, Tg _ _ (.tuple [.int (i : Nat), nthD (sp.map .int) i]) _ _ ∧ _
    rw [nthD_ints hi]
    refine ⟨_, (tg_tup (tgs_cons tg_name (tgs_cons tg_name tgs_nil))).wk w, ?_⟩
    dsimp only [List.set_cons_zero, List.set_cons_succ]
    have := clsstep (K := K) (sp := sp) (x := sp.getD i 0) (P := Turn (fun i ρ => ∃ js, js.length ≤ i ∧ Joins (sp.take i) js ∧ Wk ρ [.dat (.tuple (sp.map .int)), .own (.lls (clsN (sp.take i))), .own (.dK (enc js)), .no, .no, .no]) (Sq (gm K []) (tRet (tVar 1)) (RetP (RetV.new (Ow.lls (List.map (fun row => List.map natD row) (cls sp)))))) i) (by rw [htl]; omega) (by rw [htl]; exact jl) J (fun ρ' z => by
      rw [← htk, htl] at z
      exact z)
    rw [htl] at this
    exact this
  case hd =>
    rintro ρ ⟨js, jl, J, w⟩
    rw [List.length_map, List.take_length] at w
    refine sv_wkSq w ?_
    refine sv_retOwn rfl ?_
    rfl
end K25

namespace K25
open PySem PySem.Spec PyProof.Rows L2 DL
variable {K : PySem.W.Frag}
theorem isSome_any (kvs : List (Key × D)) (k : Key) : (valD kvs k).isSome = kvs.any fun kv => decide (kv.1 = k) := by
  unfold valD
  rw [Option.isSome_map, List.isSome_find?]
theorem put_isSome (kvs : List (Key × D)) (k k' : Key) (d : D) : (valD (putD kvs k d) k').isSome = true ↔ k' = k ∨ (valD kvs k').isSome = true := by
  rw [isSome_any, isSome_any]
  unfold putD
  by_cases h : (kvs.any fun kv => decide (kv.1 = k)) = true
  · rw [if_pos h]
    have e : ((kvs.map fun kv => if kv.1 = k then (kv.1, d) else kv).any fun kv => decide (kv.1 = k')) = kvs.any fun kv => decide (kv.1 = k') := by
      rw [List.any_map]
      congr 1
      funext kv
      show decide ((if kv.1 = k then (kv.1, d) else kv).1 = k') = _
      split <;> rfl
    rw [e]
    constructor
    · exact .inr
    · rintro (rfl | w)
      · exact h
      · exact w
  · rw [if_neg h, List.any_append]
    simp only [List.any_cons, List.any_nil, Bool.or_false, Bool.or_eq_true, decide_eq_true_eq]
    constructor
    · rintro (w | rfl)
      · exact .inr w
      · exact .inl rfl
    · rintro (rfl | w)
      · exact .inr rfl
      · exact .inl w
theorem put_len (kvs : List (Key × D)) (k : Key) (d : D) : (putD kvs k d).length ≤ kvs.length + 1 := by
  unfold putD
  split
  · rw [List.length_map]; omega
  · rw [List.length_append]; exact Nat.le_refl _
theorem run_stop (x y : Int) (hy : y < x) (b : List Int) : ∀ (a : List Int) (q : Nat), (∀ z ∈ a, x ≤ z) → run x q (a ++ y :: b) = run x q a
  | [], q, _ => by simp [run, hy]
  | z :: a, q, h => by
    have hz := h z List.mem_cons_self
    have ih := run_stop x y hy b a (q + 1) (fun w m => h w (List.mem_cons_of_mem _ m))
    have hn : ¬ z < x := by omega
    show run x q (z :: (a ++ y :: b)) = _
    by_cases e : z = x
    · simp only [run, if_neg hn, if_pos e, ih]
    · simp only [run, if_neg hn, if_neg e, ih]
/-- the heads' rows ahead of a place -/
def upto (sp : List Int) (i : Nat) : List (List Nat) := ((List.range i).filter (isHead sp)).map (rowOf sp)
theorem upto_all (sp : List Int) : upto sp sp.length = cls sp := rfl
theorem upto_yes {sp : List Int} {i : Nat} (h : isHead sp i = true) : upto sp (i + 1) = upto sp i ++ [rowOf sp i] := by
  unfold upto
  rw [List.range_succ, List.filter_append, List.filter_cons, if_pos h, List.map_append]
  rfl
theorem upto_no {sp : List Int} {i : Nat} (h : ¬ isHead sp i = true) : upto sp (i + 1) = upto sp i := by
  unfold upto
  rw [List.range_succ, List.filter_append, List.filter_cons, if_neg h, List.map_append]
  exact List.append_nil _
theorem upto_len (sp : List Int) (i : Nat) : (upto sp i).length ≤ i := by
  unfold upto
  rw [List.length_map]
  have := List.length_filter_le (isHead sp) (List.range i)
  rw [List.length_range] at this
  exact this
/-- what is taken ahead of a place -/
def TakenP (sp : List Int) (i : Nat) (kv : List (Key × D)) : Prop := ∀ q : Nat, (valD kv (.inl (q : Int))).isSome = true ↔ ∃ h, h < i ∧ isHead sp h = true ∧ q ∈ rowOf sp h
theorem taken_iff {sp : List Int} {i : Nat} {kv : List (Key × D)} (hi : i < sp.length) (T : TakenP sp i kv) : (valD kv (.inl (i : Int))).isSome = true ↔ ¬ isHead sp i = true := by
  rw [T, head_iff]
  constructor
  · rintro ⟨h, h1, h2, h3⟩ w
    exact w h h1 h3
  · intro w
    have ⟨q, hq⟩ : ∃ q, q < i ∧ i ∈ rowOf sp q := by
      apply Classical.byContradiction
      intro w2
      exact w fun q hq m => w2 ⟨q, hq, m⟩
    obtain ⟨h, h1, h2, h3⟩ := has_head (s := sp) q (by omega)
    exact ⟨h, by omega, h2, row_trans (by omega) h3 hq.2⟩
theorem taken_no {sp : List Int} {i : Nat} {kv : List (Key × D)} (hn : ¬ isHead sp i = true) (T : TakenP sp i kv) : TakenP sp (i + 1) kv := fun q => by
  rw [T]
  constructor
  · rintro ⟨h, h1, h2, h3⟩
    exact ⟨h, by omega, h2, h3⟩
  · rintro ⟨h, h1, h2, h3⟩
    have : h ≠ i := fun e => hn (e ▸ h2)
    exact ⟨h, by omega, h2, h3⟩
theorem taken_yes {sp : List Int} {i : Nat} {kv kv' : List (Key × D)} (hn : isHead sp i = true) (T : TakenP sp i kv) (h : ∀ q : Nat, (valD kv' (.inl (q : Int))).isSome = true ↔ (valD kv (.inl (q : Int))).isSome = true ∨ q ∈ rowOf sp i) : TakenP sp (i + 1) kv' := fun q => by
  rw [h, T]
  constructor
  · rintro (⟨h, h1, h2, h3⟩ | m)
    · exact ⟨h, by omega, h2, h3⟩
    · exact ⟨i, by omega, hn, m⟩
  · rintro ⟨h, h1, h2, h3⟩
    by_cases e : h = i
    · exact .inr (e ▸ h3)
    · exact .inl ⟨h, by omega, h2, h3⟩
end K25

namespace K25
open PySem PySem.Spec PyProof.Rows L2 DL
variable {K : PySem.W.Frag}
theorem inner {sp : List Int} {i : Nat} {x : Int} {kv : List (Key × D)} {fs : List D} {P : Out → Prop} (hi : i < sp.length) (hx : sp.getD i 0 = x) (hsz : sp.length ≤ 1000) (hkv : kv.length ≤ 1000 * i)
    (hP : ∀ ρ' kv', kv'.length ≤ 1000 * (i + 1) → (∀ q : Nat, (valD kv' (.inl (q : Int))).isSome = true ↔ (valD kv (.inl (q : Int))).isSome = true ∨ q ∈ rowOf sp i) → Wk ρ' [.dat (.tuple (sp.map .int)), .own (.lst fs), .own (.dK kv'), .dat (.int (i : Nat)), .own (.lst ((rowOf sp i).map natD)), .no] → P (.nx ρ')) :
    Sv (gm K []) (tFor (iRng2 (tCons (tVar 3) (tCons (tCB (DL.rLen K) (tCons (tVar 0) (tNil))) (tNil)))) (gName 5) (tSeq (tIfS (tTest (tOp (rI0 fun i j => .bl (decide (i < j))) (tOp (rIx K) (tVar 0) (tVar 5)) (tOp (rIx K) (tVar 0) (tVar 3)))) (tBreak) (tNext)) (tIfS (tTest (tOp (rEqD K) (tOp (rIx K) (tVar 0) (tVar 5)) (tOp (rIx K) (tVar 0) (tVar 3)))) (tSeq (tDrop (tBM K "list" rAppend (tVar 4) (tCons (tVar 5) (tNil)))) (sDPut (tVar 2) (tVar 5) (tC (.bl true)))) (tNext))))
      [.dat (.tuple (sp.map .int)), .own (.lst fs), .own (.dK kv), .dat (.int (i : Nat)), .own (.lst []), .no] P := by
  refine' sv_for (fun j ρ => ∃ kv', kv'.length ≤ kv.length + j ∧ (∀ z ∈ (sp.drop i).take j, x ≤ z) ∧ (∀ q : Nat, (valD kv' (.inl (q : Int))).isSome = true ↔ (valD kv (.inl (q : Int))).isSome = true ∨ q ∈ run x i ((sp.drop i).take j)) ∧ Wk ρ [.dat (.tuple (sp.map .int)), .own (.lst fs), .own (.dK kv'), .dat (.int (i : Nat)), .own (.lst ((run x i ((sp.drop i).take j)).map natD)), .no]) ?hi ?h0 ?hs ?hd
  case hi => walk_at "ei"
  case h0 =>
    refine ⟨kv, by omega, by simp, fun q => ?_, by walk_at "wk"⟩
    simp [run]
  case hs =>
    rintro j ρ hj ⟨kv', hl, hz, hq, w⟩
    rw [List.length_map] at hj
    have hj2 : i + j < sp.length := by omega
    refine ⟨_, (tg_name).wk w, ?_⟩
    dsimp only [List.set_cons_zero, List.set_cons_succ]
    rw [show ((i : Int) + (j : Int)) = ((i + j : Nat) : Int) by omega]
    have hS : (sp.drop i).take (j + 1) = (sp.drop i).take j ++ [sp.getD (i + j) 0] := by
      rw [List.take_add_one, List.getElem?_drop, List.getD_eq_getElem?_getD, List.getElem?_eq_getElem hj2]
      rfl
    have hS2 : sp.drop i = (sp.drop i).take j ++ sp.getD (i + j) 0 :: (sp.drop i).drop (j + 1) := by
      have := (List.take_append_drop (j + 1) (sp.drop i)).symm
      rw [hS, List.append_assoc] at this
      exact this
    have hlen : ((sp.drop i).take j).length = j := by rw [List.length_take, List.length_drop]; omega
    walk_at "seq"
    have ei : ((i : Nat) : Int).toNat = i := by omega
    have ej : ((i + j : Nat) : Int).toNat = i + j := by omega
    refine' sv_if ?b1 ?b2 ?b3
    case b1 => walk_at "et"
    case b2 =>
      intro hb
      rw [ei, ej, hx] at hb
      have hy : sp.getD (i + j) 0 < x := of_decide_eq_true hb
      refine sv_break ?_
      have hr : rowOf sp i = run x i ((sp.drop i).take j) := by
        unfold rowOf
        rw [hx]
        conv => lhs; rw [hS2]
        exact run_stop x _ hy _ _ _ hz
      show P (.nx _)
      refine hP _ kv' (by omega) ?_ ?_
      · rw [hr]; exact hq
      · rw [hr]; walk_at "wk"
    case b3 =>
      intro hb
      rw [ei, ej, hx] at hb
      have hy : x ≤ sp.getD (i + j) 0 := by
        have := of_decide_eq_false hb
        omega
      refine sv_next ?_
      walk_at "nx"
      have hz2 : ∀ z ∈ (sp.drop i).take (j + 1), x ≤ z := fun z m => by
        rw [hS] at m
        rcases List.mem_append.mp m with m | m
        · exact hz z m
        · rw [List.mem_singleton.mp m]; exact hy
      refine' sv_if ?g1 ?g2 ?g3
      case g1 => walk_at "et"
      case g2 =>
        intro hc
        rw [ei, ej, hx] at hc
        have hc : sp.getD (i + j) 0 = x := by simpa [PyData.eqv] using hc
        have hr : run x i ((sp.drop i).take (j + 1)) = run x i ((sp.drop i).take j) ++ [i + j] := by
          rw [hS, run_app, if_pos ⟨hz, hc⟩, hlen]
        have rl := run_len x ((sp.drop i).take j) i
        walk_at "seq"
        walk_at "append"
        refine' sv_dput (k := .inl ((i + j : Nat) : Int)) ?k1 ?k5 ?k2 ?k6 ?k3 ?k4
        case k1 => walk_at "ed"
        case k5 => exact rfl
        case k2 => exact ed_var rfl
        case k6 => exact rfl
        case k3 => simp only [PySem.sizeLine_eq]; omega
        dsimp only [List.set_cons_zero, List.set_cons_succ]
        have pl := put_len kv' (.inl ((i + j : Nat) : Int)) (.bool true)
        refine ⟨putD kv' (.inl ((i + j : Nat) : Int)) (.bool true), by omega, hz2, fun q => ?_, ?_⟩
        · rw [put_isSome, hq, hr, List.mem_append, List.mem_singleton]
          have : (Sum.inl (q : Int) : Key) = Sum.inl ((i + j : Nat) : Int) ↔ q = i + j := by
            constructor
            · intro e; have := Sum.inl.inj e; omega
            · intro e; rw [e]
          rw [this]
          constructor
          · rintro (h | h | h)
            · exact .inr (.inr h)
            · exact .inl h
            · exact .inr (.inl h)
          · rintro (h | h | h)
            · exact .inr (.inl h)
            · exact .inr (.inr h)
            · exact .inl h
        · rw [hr, List.map_append]
          walk_at "wk"
      case g3 =>
        intro hc
        rw [ei, ej, hx] at hc
        have hc : ¬ sp.getD (i + j) 0 = x := by simpa [PyData.eqv] using hc
        have hr : run x i ((sp.drop i).take (j + 1)) = run x i ((sp.drop i).take j) := by
          rw [hS, run_app, if_neg (fun w => hc w.2), List.append_nil]
        refine sv_next ⟨kv', by omega, hz2, ?_, ?_⟩
        · rw [hr]; exact hq
        · rw [hr]; walk_at "wk"
  case hd =>
    rintro ρ ⟨kv', hl, hz, hq, w⟩
    rw [List.length_map] at hl hz hq w
    have e : ((sp.length : Int) - (i : Int)).toNat = sp.length - i := by omega
    rw [e] at hl hz hq w
    have hr : run x i ((sp.drop i).take (sp.length - i)) = rowOf sp i := by
      unfold rowOf
      rw [hx, List.take_of_length_le (by rw [List.length_drop]; omega)]
    rw [hr] at hq w
    exact hP ρ kv' (by omega) hq w
end K25

namespace K25
open PySem PySem.Spec PyProof.Rows L2 DL
variable {K : PySem.W.Frag}
def rowD (row : List Nat) : D := .list (row.map natD)
theorem svl_classes (ds : List D) (r : RetV) (h : rl_classes ds r) : Sv (gm K []) (tml_classes K) (rho0 ["split", "found", "taken", "place", "row", "other"] (ds.map .dat)) (RetP r) := by
  obtain ⟨sp, hsz, rfl, rfl⟩ := h
  unfold tml_classes
  show Sv (gm K []) _ [.dat (.tuple (sp.map .int)), .no, .no, .no, .no, .no] _
  walk_at "seq"
  walk_at "setn"
  walk_at "seq"
  refine' sv_newDict ?m2 ?m3 ?m4
  case m3 => simp
  case m4 => simp
  walk_at "nx"
  walk_at "seq"
  refine' sv_for (fun i ρ => ∃ kv, kv.length ≤ 1000 * i ∧ TakenP sp i kv ∧ Wk ρ [.dat (.tuple (sp.map .int)), .own (.lst ((upto sp i).map rowD)), .own (.dK kv), .no, .no, .no]) ?hi ?h0 ?hs ?hd
  case hi => walk_at "ei"
  case h0 =>
    refine ⟨[], by simp, fun q => ?_, by walk_at "wk"⟩
    constructor
    · intro w; simp [valD] at w
    · rintro ⟨h, h1, _⟩; omega
  case hs =>
    rintro i ρ hi ⟨kv, hl, hT, w⟩
    rw [List.length_map] at hi
    have hi : i < sp.length := by omega
    refine ⟨_, (tg_name).wk w, ?_⟩
    dsimp only [List.set_cons_zero, List.set_cons_succ]
    rw [show ((0 : Int) + (i : Int)) = (i : Int) by omega]
    have hk := taken_iff hi hT
    have ul := upto_len sp i
    refine' sv_if (et_B (ed_dnotin (k := .inl (i : Int)) ?e1 ?e4)) ?e2 ?e3
    case e1 => exact ed_var rfl
    case e4 => exact rfl
    case e2 =>
      intro hb
      have hh : isHead sp i = true := by
        apply Classical.byContradiction
        intro z
        rw [hk.mpr z] at hb
        cases hb
      walk_at "seq"
      walk_at "setn"
      walk_at "seq"
      refine' inner hi rfl hsz hl fun ρ' kv' h1 h2 w' => ?_
      refine sv_wkSq w' ?_
      refine sv_frz (i := 4) rfl ?_
      dsimp only [List.set_cons_zero, List.set_cons_succ]
      walk_at "append"
      refine ⟨kv', h1, taken_yes hh hT h2, ?_⟩
      rw [upto_yes hh, List.map_append]
      walk_at "wk"
    case e3 =>
      intro hb
      have hh : ¬ isHead sp i = true := hk.mp (by
        cases z : (valD kv (.inl (i : Int))).isSome with
        | true => rfl
        | false => rw [z] at hb; cases hb)
      refine sv_next ⟨kv, by omega, taken_no hh hT, ?_⟩
      rw [upto_no hh]
      walk_at "wk"
  case hd =>
    rintro ρ ⟨kv, hl, hT, w⟩
    rw [List.length_map, show ((sp.length : Nat) : Int).toNat = sp.length by omega, upto_all] at w
    refine sv_wkSq w ?_
    refine sv_retOwn rfl ?_
    show _ = _
    rfl
end K25

namespace K25
open PySem PySem.Spec PyProof.Rows L2 DL
variable {K : PySem.W.Frag}
theorem svl_refused {cA : Nat → Addr} (hex : ExcC K (cA 2)) (hte : PySem.W.exmOne K (.ref (cA 2)) (.ref (cA 2)) = some true) (hk1 : PySem.W.kitOne K (.ref (cA 2)) (.ref (cA 1)) = some true) (hk2 : PySem.W.kitAny K (.ref (cA 2)) [.ref (cA 3), .ref (cA 4), .ref (cA 5)] = some false)
    (ds : List D) (r : RetV) (h : rl_refused ds r) : Sv (gm K []) (tml_refused K cA) (rho0 ["log", "split", "e"] (ds.map .dat)) (RetP r) := by
  obtain ⟨log, sp, rfl, hn, rfl⟩ := h
  unfold tml_refused
  show Sv (gm K []) _ [.dat (.tuple log), .dat (.tuple (sp.map .int)), .no] _
  walk_at "seq"
  refine' sv_tryEx (C := cA 2) (b := true) (ds := [.tuple log, .tuple (sp.map .int)]) ?h1 ?h2 ?h3 hte ?h4 ?h5 ?h6
  case h1 => walk_at "ea"
  case h3 => rfl
  case h2 => exact ⟨log, sp, rfl, by rw [if_neg hn]⟩
  case h4 => exact fun a σ H D e q => suite_ok (cs := [cA 3, cA 4, cA 5]) hex hk1 hk2 (by simp [PySem.sizeLine_eq]) a σ H D e q
  case h5 => simp
  case h6 => rfl
theorem mostAt {v : Int} (h0 : 0 ≤ v) (h1 : v < 5) : atI ([PyData.int 1, .int 2, .int 3, .int 5, .int 40] : List D) v = some (.int (mostOf v)) := by
  have : v = 0 ∨ v = 1 ∨ v = 2 ∨ v = 3 ∨ v = 4 := by omega
  rcases this with rfl | rfl | rfl | rfl | rfl <;> rfl
theorem mostPos (v : Int) : 0 ≤ v → v < 5 → 1 ≤ mostOf v ∧ mostOf v ≤ 40 := fun h0 h1 => by
  have : v = 0 ∨ v = 1 ∨ v = 2 ∨ v = 3 ∨ v = 4 := by omega
  rcases this with rfl | rfl | rfl | rfl | rfl <;> decide
theorem ed_next {g : Gm} {ρ : Rho} {j : Nat} {N : List Int} {k many : Int} {te : TE} (he : EvD g te ρ (.int many) ρ) (h : ρ[j]? = some (.own (.lst (stAt N k)))) (G : Good N) (h0 : 0 ≤ k) (h1 : k < KMax) (hm : 0 < many) :
    EvD g (tCall (spS rl_next g.K) [] E0 (tCons (tVar j) (tCons te tNil))) ρ (.int (nxt N k many)) (ρ.set j (.own (.lst (stAt N (k + 1))))) :=
  ed_callS (ea_cons (eo_own h) (ea_cons (eo_of he) ea_nil)) h ⟨N, k, many, G, h0, h1, hm, rfl, rfl, rfl, rfl⟩ (by rfl)
theorem et_yes {g : Gm} {ρ : Rho} : EvT g tYes ρ true ρ := fun c F H σ k s Q q => q F H s (Same.refl _)
theorem back_set {ρ : Rho} {j : Nat} : Back [j] ρ (ρ.set j .no) := by
  refine ⟨by simp, fun i hi e q => ?_, fun i hi => ?_⟩
  · have : i = j := by simpa using hi
    subst this
    by_cases z : i < ρ.length
    · rw [List.getElem?_set_self z] at q; cases q; rfl
    · rw [List.getElem?_eq_none (by simpa using z)] at q; cases q
  · rw [List.getElem?_set_ne]
    intro z
    exact hi (by simp [z])
theorem lev_eq (N : List Int) (k many m : Int) : (List.range many.toNat).map (fun i => PyData.int (1 + nxt N (k + 1 + (i : Nat)) m)) = ((List.range many.toNat).map fun i => 1 + nxt N (k + 1 + (i : Nat)) m).map .int := by
  rw [List.map_map]; rfl
theorem svl_levels (st ds : List D) (r : RetV) (st' : List D) (h : rl_levels st ds r st') : Sv (gm K [0]) (tml_levels K) (rho0 ["state", "many", "most", "k"] (.own (.lst st) :: ds.map .dat)) (RetS r st') := by
  obtain ⟨N, k, many, G, h0, h1, hm0, hm1, rfl, rfl, rfl, rfl⟩ := h
  unfold tml_levels
  unfold KMax at h1
  show Sv (gm K [0]) _ [.own (.lst (stAt N k)), .dat (.int many), .no, .no] _
  have v0 := nxt_lo (N := N) (k := k) (many := 5) (by decide)
  have v1 := nxt_hi (N := N) (k := k) (many := 5) (by decide)
  obtain ⟨m0, m1⟩ := mostPos _ v0 v1
  walk_at "seq"
  refine' sv_set (hi := ?s3) (hp := ?s4) ?s1 ?s2
  case s1 =>
    refine' ed_op (dA := ?d3) (dB := ?d4) ?d1 ?d2 ?d5
    case d1 => walk_at "eo"
    case d2 => exact eo_of (ed_next (by walk_at "ed") rfl G h0 (by unfold KMax; omega) (by decide))
    case d3 => rfl
    case d4 => rfl
    case d5 => exact rx_L (mostAt v0 v1)
  case s3 => simp
  case s4 => simp
  walk_at "nx"
  refine' sv_ret ?r1 ?r2
  case r1 =>
    refine' ed_cb (dA := ?c2) (ea_cons (eo_of (ed_ofN (en_lc ?l1 (fun i => [.own (.lst (stAt N (k + 1 + (i : Nat)))), .dat (.int many), .dat (.int (mostOf (nxt N k 5))), .no]) (fun _ => true) (fun i => .int (1 + nxt N (k + 1 + (i : Nat)) (mostOf (nxt N k 5)))) ?l2 ?l3 ?l4 ?l5 ?l6))) ea_nil) ?c3
    case l1 => walk_at "ei"
    case l2 => simp
    case l3 => simp only [PySem.sizeLine_eq]; omega
    case l4 => simp
    case l5 =>
      intro i hi j hj e q
      have : j = 3 := by simpa using hj
      subst this
      simp at q
      exact q.symm
    case l6 =>
      intro i hi
      refine ⟨_, _, tgc_name, et_yes, fun _ => ⟨[.own (.lst (stAt N (k + 1 + (i : Int) + 1))), .dat (.int many), .dat (.int (mostOf (nxt N k 5))), .dat (.int (0 + (i : Int)))], ?_, ?_⟩, fun z => nomatch z⟩
      · refine' ed_op (dA := ?d3) (dB := ?d4) ?d1 ?d2 ?d5
        case d1 => walk_at "eo"
        case d2 =>
          refine' eo_of (ed_next ?e1 rfl G ?e2 ?e3 ?e4)
          case e1 => walk_at "ed"
          case e2 => omega
          case e3 => unfold KMax; omega
          case e4 => omega
        case d3 => rfl
        case d4 => rfl
        case d5 => walk_at "r2"
      · skip
        have : [Ent.own (.lst (stAt N (k + 1 + ((i + 1 : Nat) : Int)))), .dat (.int many), .dat (.int (mostOf (nxt N k 5))), .no] = [Ent.own (.lst (stAt N (k + 1 + (i : Int) + 1))), .dat (.int many), .dat (.int (mostOf (nxt N k 5))), .dat (.int (0 + (i : Int)))].set 3 .no := by
          rw [show k + 1 + ((i + 1 : Nat) : Int) = k + 1 + (i : Int) + 1 by omega]
          rfl
        rw [this]
        exact back_set
    case c2 => rfl
    case c3 => exact rc_tupL
  · refine ⟨?_, ?_⟩
    · rw [List.filter_eq_self.mpr fun _ _ => rfl, lev_eq]
      rfl
    · show some _ = _
      rw [show many = (many.toNat : Int) by omega]
      rfl
end K25

namespace K25
open PySem PySem.Spec PyProof.Rows L2 DL
variable {K : PySem.W.Frag}
theorem eqvInts : ∀ ns : List Nat, PyData.eqvAll (ns.map natD) (ns.map natD) = true
  | [] => by simp [PyData.eqvAll]
  | n :: ns => by
    have := eqvInts ns
    simp only [List.map_cons, PyData.eqvAll, this, Bool.and_true]
    simp [natD, PyData.eqv]
theorem eqvRows : ∀ rows : List (List Nat), PyData.eqvAll (rows.map rowD) (rows.map rowD) = true
  | [] => by simp [PyData.eqvAll]
  | n :: ns => by
    have := eqvRows ns
    have h2 := eqvInts n
    simp only [List.map_cons, PyData.eqvAll, this, Bool.and_true]
    simp [rowD, PyData.eqv, h2]
theorem rowsD (sp : List Int) : (clsN sp).map PyData.list = (cls sp).map rowD := by
  unfold clsN
  rw [List.map_map]
  rfl
theorem layInts : ∀ ns : List Nat, PyData.canLayAll0 (ns.map natD) = true
  | [] => by simp [PyData.canLayAll0]
  | n :: ns => by
    have := layInts ns
    simp only [List.map_cons, PyData.canLayAll0, this, Bool.and_true]
    simp [natD, PyData.canLay0]
theorem layRows : ∀ ns : List (List Nat), PyData.canLayAll0 (ns.map rowD) = true
  | [] => by simp [PyData.canLayAll0]
  | n :: ns => by
    have := layRows ns
    have h2 := layInts n
    simp only [List.map_cons, PyData.canLayAll0, this, Bool.and_true]
    simp [rowD, PyData.canLay0, h2]
theorem depInts : ∀ ns : List Nat, PyData.depthAll (ns.map natD) = 0
  | [] => by simp [PyData.depthAll]
  | n :: ns => by
    have := depInts ns
    simp only [List.map_cons, PyData.depthAll, this]
    simp [natD, PyData.depth]
theorem depRows : ∀ ns : List (List Nat), PyData.depthAll (ns.map rowD) ≤ 1
  | [] => by simp [PyData.depthAll]
  | n :: ns => by
    have := depRows ns
    have h2 := depInts n
    simp only [List.map_cons, PyData.depthAll, rowD, PyData.depth, h2]
    exact Nat.max_le.mpr ⟨Nat.le_refl _, this⟩
theorem shRows (ns : List (List Nat)) : SeqAt.shaped (.list (ns.map rowD)) = true := by
  have h1 := layRows ns
  have h2 := depRows ns
  unfold SeqAt.shaped
  refine Bool.and_eq_true_iff.mpr ⟨by simp only [PyData.canLay0]; exact h1, decide_eq_true ?_⟩
  simp only [PyData.depth]
  exact Nat.le_trans (Nat.add_le_add_right h2 1) (by decide)
theorem lev_len (N : List Int) (k many : Int) : (levOf N k many).length = many.toNat := by unfold levOf; rw [List.length_map, List.length_range]
theorem lev_bnd (N : List Int) (k many : Int) : ∀ x ∈ levOf N k many, 1 ≤ x ∧ x ≤ 40 := fun x m => by
  obtain ⟨i, _, rfl⟩ := List.mem_map.mp m
  have v0 := nxt_lo (N := N) (k := k) (many := 5) (by decide)
  have v1 := nxt_hi (N := N) (k := k) (many := 5) (by decide)
  obtain ⟨m0, m1⟩ := mostPos _ v0 v1
  have w0 := nxt_lo (N := N) (k := k + 1 + (i : Int)) (many := mostOf (nxt N k 5)) (by omega)
  have w1 := nxt_hi (N := N) (k := k + 1 + (i : Int)) (many := mostOf (nxt N k 5)) (by omega)
  omega
theorem ix8 {v : Int} (h0 : 0 ≤ v) (h1 : v < 8) : ∃ j : Int, 0 ≤ j ∧ j < 4 ∧ atI ([PyData.int 0, .int 1, .int 0, .int 1, .int 0, .int 1, .int 2, .int 3] : List D) v = some (.int j) := by
  have : v = 0 ∨ v = 1 ∨ v = 2 ∨ v = 3 ∨ v = 4 ∨ v = 5 ∨ v = 6 ∨ v = 7 := by omega
  rcases this with rfl | rfl | rfl | rfl | rfl | rfl | rfl | rfl
  · exact ⟨0, by decide, by decide, rfl⟩
  · exact ⟨1, by decide, by decide, rfl⟩
  · exact ⟨0, by decide, by decide, rfl⟩
  · exact ⟨1, by decide, by decide, rfl⟩
  · exact ⟨0, by decide, by decide, rfl⟩
  · exact ⟨1, by decide, by decide, rfl⟩
  · exact ⟨2, by decide, by decide, rfl⟩
  · exact ⟨3, by decide, by decide, rfl⟩
theorem ix4 {v : Int} (a b c d : Int) (h0 : 0 ≤ v) (h1 : v < 4) : ∃ m : Int, (m = a ∨ m = b ∨ m = c ∨ m = d) ∧ atI ([PyData.int a, .int b, .int c, .int d] : List D) v = some (.int m) := by
  have : v = 0 ∨ v = 1 ∨ v = 2 ∨ v = 3 := by omega
  rcases this with rfl | rfl | rfl | rfl
  · exact ⟨a, .inl rfl, rfl⟩
  · exact ⟨b, .inr (.inl rfl), rfl⟩
  · exact ⟨c, .inr (.inr (.inl rfl)), rfl⟩
  · exact ⟨d, .inr (.inr (.inr rfl)), rfl⟩
theorem ix2 {v : Int} (h0 : 0 ≤ v) (h1 : v < 2) : ∃ s : Str, atI ([PyData.str "a", .str "bb"] : List D) v = some (.str s) := by
  have : v = 0 ∨ v = 1 := by omega
  rcases this with rfl | rfl
  · exact ⟨_, rfl⟩
  · exact ⟨_, rfl⟩
theorem cls_pos {n : Int} {ns : List Int} : 0 < (clsN (n :: ns)).length := by
  unfold clsN
  rw [List.length_map, cls_eq, List.length_map]
  have : (0 : Nat) ∈ heads (n :: ns) := mem_heads.mpr ⟨by simp, head_iff.mpr fun q hq => by omega⟩
  exact List.length_pos_of_mem this
/-- spoilt splits -/
theorem spoilt1 {log : List D} {sp : List Int} (h : sp.length = log.length + 1) : ∃ s' : List Int, DL.cutD (sp.map .int) (some 1) none = s'.map .int ∧ ¬ okSplit log s' := by
  refine ⟨(sp.drop 1), ?_, fun w => ?_⟩
  · unfold DL.cutD
    rw [List.length_map]
    have e1 : HT.sIx sp.length 0 (some 1) = 1 := by simp [HT.sIx]; omega
    have e2 : HT.sIx sp.length sp.length none = sp.length := by simp [HT.sIx]
    rw [e1, e2, ← List.map_drop, List.take_of_length_le (by rw [List.length_map, List.length_drop]; exact Nat.le_refl _)]
  · have := w.1
    rw [List.length_drop] at this
    omega
theorem spoilt2 {log : List D} {sp : List Int} (h : sp.length = log.length + 1) : ∃ s' : List Int, sp.map PyData.int ++ [.int 1] = s'.map .int ∧ ¬ okSplit log s' := by
  refine ⟨sp ++ [1], by simp, fun w => ?_⟩
  have := w.1
  rw [List.length_append] at this
  simp at this
  omega
theorem cut_ints (sp : List Int) (lo hi : Option Int) : ∃ s' : List Int, DL.cutD (sp.map .int) lo hi = s'.map .int := ⟨_, by unfold DL.cutD; rw [← List.map_drop, ← List.map_take]⟩
theorem spoilt3 {log : List D} {sp : List Int} {bad at1 : Int} (hb : bad < 1 ∨ 40 < bad) : ∃ s' : List Int, (DL.cutD (sp.map .int) none (some at1) ++ [PyData.int bad]) ++ DL.cutD (sp.map .int) (some (at1 + 1)) none = s'.map .int ∧ ¬ okSplit log s' := by
  obtain ⟨s1, e1⟩ := cut_ints sp none (some at1)
  obtain ⟨s2, e2⟩ := cut_ints sp (some (at1 + 1)) none
  refine ⟨(s1 ++ [bad]) ++ s2, by rw [e1, e2]; simp, fun w => ?_⟩
  have := w.2 bad (by simp)
  omega
theorem spoilt4 {log : List D} : ∃ s' : List Int, ([] : List D) = s'.map .int ∧ ¬ okSplit log s' := ⟨[], rfl, fun w => by have := w.1; simp at this⟩
end K25

namespace K25
open PySem PySem.Spec PyProof.Rows L2 DL
variable {K : PySem.W.Frag}
local macro_rules | `(tactic| walk_at "ed") => `(tactic| ((with_reducible refine' K25.ed_next ?e1 ?e5 ?e6 ?e2 ?e3 ?e4); (case e1 => walk_at "ed"); (case e5 => exact rfl); (case e6 => assumption); (case e2 => omega); (case e3 => (unfold DL.KMax; omega)); (case e4 => (first | decide | omega))))
def strAt (v : Int) : Str := if v = 0 then "a" else "bb"
theorem strIx {v : Int} (h0 : 0 ≤ v) (h1 : v < 2) : atI ([PyData.str "a", .str "bb"] : List D) v = some (.str (strAt v)) := by
  have : v = 0 ∨ v = 1 := by omega
  rcases this with rfl | rfl <;> rfl
theorem cut_len (xs : List D) (lo hi : Option Int) : (DL.cutD xs lo hi).length ≤ xs.length := by
  unfold DL.cutD
  rw [List.length_take, List.length_drop]
  omega
theorem clsN_row {sp : List Int} {d0 : List D} (h : d0 ∈ clsN sp) : d0.length ≤ sp.length := by
  obtain ⟨row, m, rfl⟩ := List.mem_map.mp h
  obtain ⟨p, _, rfl⟩ := List.mem_map.mp m
  rw [List.length_map]
  exact row_len sp p
theorem clsN_le (sp : List Int) : (clsN sp).length ≤ sp.length := by
  unfold clsN
  rw [List.length_map]
  exact cls_len sp
theorem ix0 {n : Nat} (h : 0 < n) : ixN n 0 = some 0 := by simp [ixN]; omega
theorem ed_castL {g : Gm} {te : TE} {ρ ρ1 : Rho} {xs ys : List D} (h : EvD g te ρ (.list xs) ρ1) (e : xs = ys) : EvD g te ρ (.list ys) ρ1 := e ▸ h
def rlaw : List D → RetV → Prop := fun ds r => ∃ ns : List Int, ns.length ≤ 63 ∧ ds = [.list (ns.map .int)] ∧ r = .dat (.bool true)
theorem svlaw {cA : Nat → Addr} (ds : List D) (r : RetV) (h : rlaw ds r) : Sv (gm K []) (tmlaw K cA) (rho0 ["script", "state", "turn", "many", "log", "split", "height", "due", "told", "at", "bad", "other", "k", "row"] (ds.map .dat)) (RetP r) := by
  obtain ⟨ns, hns, rfl, rfl⟩ := h
  unfold tmlaw
  show Sv (gm K []) _ [.dat (.list (ns.map .int)), .no, .no, .no, .no, .no, .no, .no, .no, .no, .no, .no, .no, .no] _
  have G := good_stream hns
  generalize hS : PyData.list (ns.map .int) = S
  walk_at "seq"
  refine' sv_setN (ds := stAt (streamOf ns) 0) (hi := ?u3) (hp := ?u4) ?u1 ?u2
  case u1 =>
    refine' en_lst (hd := ?n2) (hz := ?n3) (ea_cons (eo_of (ed_ofW (ew_call (ds := [S]) (hd := ?n6) ?n4 ?n5))) (ea_cons (eo_of ed_int) ea_nil))
    case n4 => walk_at "ea"
    case n6 => rfl
    case n5 => exact ⟨ns, hns, by rw [hS], rfl⟩
    case n2 => rfl
    case n3 => simp [stAt, PySem.sizeLine_eq]
  case u3 => simp
  case u4 => simp
  generalize streamOf ns = N at G ⊢
  clear hS
  walk_at "nx"
  walk_at "seq"
  refine' sv_for (fun i ρ => ∃ k, 0 ≤ k ∧ k ≤ 3000 * (i : Int) ∧ Wk ρ [.dat S, .own (.lst (stAt N k)), .no, .no, .no, .no, .no, .no, .no, .no, .no, .no, .no, .no]) ?hi ?h0 ?hs ?hd
  case hi => walk_at "ei"
  case h0 => exact ⟨0, by omega, by omega, by walk_at "wk"⟩
  case hd =>
    rintro ρ ⟨k, k0, k1, w⟩
    refine sv_wkSq w ?_
    walk_at "ret"
    rfl
  case hs =>
    rintro i0 ρ hi ⟨k, k0, k1, w⟩
    have hi : i0 < 3 := hi
    refine ⟨_, (tg_name).wk w, ?_⟩
    dsimp only [List.set_cons_zero, List.set_cons_succ]
    walk_at "seq"
    obtain ⟨j, j0, j1, hj⟩ := ix8 (nxt_lo (N := N) (k := k + 1 + 1 + 1 + 1) (many := 8) (by decide)) (nxt_hi (by decide))
    obtain ⟨m, hm, hm2⟩ := ix4 (nxt N k 8) (nxt N (k + 1) 41) (398 + nxt N (k + 1 + 1) 3) (41 + nxt N (k + 1 + 1 + 1) 357) j0 j1
    have mb : 0 ≤ m ∧ m ≤ 400 := by
      have a0 := nxt_lo (N := N) (k := k) (many := 8) (by decide)
      have a1 := nxt_hi (N := N) (k := k) (many := 8) (by decide)
      have b0 := nxt_lo (N := N) (k := k + 1) (many := 41) (by decide)
      have b1 := nxt_hi (N := N) (k := k + 1) (many := 41) (by decide)
      have c0 := nxt_lo (N := N) (k := k + 1 + 1) (many := 3) (by decide)
      have c1 := nxt_hi (N := N) (k := k + 1 + 1) (many := 3) (by decide)
      have d0 := nxt_lo (N := N) (k := k + 1 + 1 + 1) (many := 357) (by decide)
      have d1 := nxt_hi (N := N) (k := k + 1 + 1 + 1) (many := 357) (by decide)
      omega
    refine' sv_set (d := .int m) (hi := ?s3) (hp := ?s4) ?s1 ?s2
    case s1 =>
      refine' ed_op (dA := ?d3) (dB := ?d4) ?d1 ?d2 ?d5
      case d1 => walk_at "eo"
      case d2 =>
        refine' eo_of (ed_op (dA := ?f3) (dB := ?f4) ?f1 ?f2 ?f5)
        case f1 => walk_at "eo"
        case f2 => walk_at "eo"
        case f3 => rfl
        case f4 => rfl
        case f5 => exact rx_L hj
      case d3 => rfl
      case d4 => rfl
      case d5 => exact rx_L hm2
    case s3 => simp
    case s4 => simp
    walk_at "nx"
    generalize hk5 : k + 1 + 1 + 1 + 1 + 1 = k5
    have b0 : 0 ≤ k5 := by omega
    have b1 : k5 ≤ 7000 := by omega
    walk_at "seq"
    refine' sv_set (d := .tuple ((List.range m.toNat).map fun i => .str (strAt (nxt N (k5 + (i : Nat)) 2)))) (hi := ?v3) (hp := ?v4) ?v1 ?v2
    case v1 =>
      refine' ed_cb (dA := ?c2) (ea_cons (eo_of (ed_ofN (en_lc ?l1 (fun i => [.dat S, .own (.lst (stAt N (k5 + (i : Nat)))), .dat (.int (0 + (i0 : Int))), .dat (.int m), .no, .no, .no, .no, .no, .no, .no, .no, .no, .no]) (fun _ => true) (fun i => .str (strAt (nxt N (k5 + (i : Nat)) 2))) ?l2 ?l3 ?l4 ?l5 ?l6))) ea_nil) ?c3
      case l1 => walk_at "ei"
      case l2 => simp
      case l3 => simp only [PySem.sizeLine_eq]; omega
      case l4 => simp
      case l5 =>
        intro i hi j hj e q
        have : j = 12 := by simpa using hj
        subst this
        simp at q
        exact q.symm
      case l6 =>
        intro i hi
        have q0 := nxt_lo (N := N) (k := k5 + (i : Nat)) (many := 2) (by decide)
        have q1 := nxt_hi (N := N) (k := k5 + (i : Nat)) (many := 2) (by decide)
        refine ⟨_, _, tgc_name, et_yes, fun _ => ⟨[.dat S, .own (.lst (stAt N (k5 + (i : Int) + 1))), .dat (.int (0 + (i0 : Int))), .dat (.int m), .no, .no, .no, .no, .no, .no, .no, .no, .dat (.int (0 + (i : Int))), .no], ?_, ?_⟩, fun z => nomatch z⟩
        · refine' ed_op (dA := ?g3) (dB := ?g4) ?g1 ?g2 ?g5
          case g1 =>
            refine' eo_of (ed_ofN (en_lst (hd := ?gg2) (hz := ?gg3) (ea_cons (eo_of ed_str) (ea_cons (eo_of ed_str) ea_nil))))
            case gg2 => rfl
            case gg3 => decide
          case g2 =>
            refine' eo_of (ed_next ?h1 ?h2 G ?h3 ?h4 ?h5)
            case h1 => walk_at "ed"
            case h2 => exact rfl
            case h3 => omega
            case h4 => unfold KMax; omega
            case h5 => decide
          case g3 => rfl
          case g4 => rfl
          case g5 => exact rx_L (strIx q0 q1)
        · have : [Ent.dat S, .own (.lst (stAt N (k5 + ((i + 1 : Nat) : Int)))), .dat (.int (0 + (i0 : Int))), .dat (.int m), .no, .no, .no, .no, .no, .no, .no, .no, .no, .no] = [Ent.dat S, .own (.lst (stAt N (k5 + (i : Int) + 1))), .dat (.int (0 + (i0 : Int))), .dat (.int m), .no, .no, .no, .no, .no, .no, .no, .no, .dat (.int (0 + (i : Int))), .no].set 12 .no := by
            rw [show k5 + ((i + 1 : Nat) : Int) = k5 + (i : Int) + 1 by omega]
            rfl
          rw [this]
          exact back_set
      case c3 => exact rc_tupL
      case c2 =>
        show some [PyData.list (List.map _ (List.filter _ _))] = some [PyData.list _]
        rw [List.filter_eq_self.mpr fun _ _ => rfl]
    case v3 => simp
    case v4 => simp
    walk_at "nx"
    rw [show (0 : Int) + ((i0 : Nat) : Int) = (i0 : Int) by omega]
    generalize hL : ((List.range m.toNat).map fun i => PyData.str (strAt (nxt N (k5 + (i : Nat)) 2))) = L
    have hLl : (L.length : Int) = m := by rw [← hL, List.length_map, List.length_range]; omega
    generalize hk6 : k5 + ((Int.toNat m : Nat) : Int) = k6
    have b2 : 0 ≤ k6 := by omega
    have b3 : k6 ≤ 7400 := by omega
    have hk6' : k6 = k5 + m := by omega
    walk_at "seq"
    refine' sv_set (d := .tuple ((levOf N k6 (m + 1)).map .int)) (hi := ?w3) (hp := ?w4) ?w1 ?w2
    case w1 =>
      refine' ed_callS (ds := [.int (m + 1)]) (ea_cons (eo_own ?x1) (ea_cons (eo_of ?x2) ea_nil)) ?x3 ?x4 ?x5
      case x1 => exact rfl
      case x2 => walk_at "ed"
      case x3 => exact rfl
      case x4 => exact ⟨N, k6, m + 1, G, b2, by unfold KMax; omega, by omega, by omega, rfl, rfl, rfl, rfl⟩
      case x5 => rfl
    case w3 => simp
    case w4 => simp
    walk_at "nx"
    have hsl := lev_len N k6 (m + 1)
    have hsb := lev_bnd N k6 (m + 1)
    generalize levOf N k6 (m + 1) = sp at hsl hsb ⊢
    have hok : okSplit L sp := ⟨by omega, hsb⟩
    have hsz : sp.length ≤ 401 := by omega
    obtain ⟨n, ns2, rfl⟩ : ∃ n ns2, sp = n :: ns2 := by
      cases sp with
      | nil => simp at hsl; omega
      | cons n ns2 => exact ⟨n, ns2, rfl⟩
    generalize hk7 : k6 + 1 + (m + 1) = k7
    have b4 : 0 ≤ k7 := by omega
    have b5 : k7 ≤ 7900 := by omega
    walk_at "seq"
    refine' sv_set (d := .int (ns2.foldl max n)) (hi := ?y3) (hp := ?y4) ?y1 ?y2
    case y1 => exact ed_call (ds := [.tuple ((n :: ns2).map .int)]) (ea_cons (eo_of (ed_var rfl)) ea_nil) ⟨n, ns2, rfl, rfl⟩ rfl
    case y3 => simp
    case y4 => simp
    walk_at "nx"
    walk_at "seq"
    have kII : kitB (tyN (.int (ns2.foldl max n))) "int" = some true := (show kitB "int" "int" = some true by decide +kernel)
    have kIB : kitB (tyN (.int (ns2.foldl max n))) "bool" = some false := (show kitB "int" "bool" = some false by decide +kernel)
    refine' sv_if (b := false) ?a1 ?a2 ?a3
    case a1 =>
      have t1 : EvT (gm K []) (tB (tNotN (tCall (spX (rcheck_split (cA 2)) K) [] E0 (tCons (tVar 4) (tCons (tVar 5) (tNil)))))) [.dat S, .own (.lst (stAt N k7)), .dat (.int (i0 : Int)), .dat (.int m), .dat (.tuple L), .dat (.tuple ((n :: ns2).map .int)), .dat (.int (ns2.foldl max n)), .no, .no, .no, .no, .no, .no, .no] false _ :=
        et_B (ed_notN (ed_callX (R := rcheck_split (cA 2)) (d := .none) (ds := [.tuple L, .tuple ((n :: ns2).map .int)]) (ea_cons (eo_of (ed_var rfl)) (ea_cons (eo_of (ed_var rfl)) ea_nil)) ⟨L, n :: ns2, rfl, by rw [if_pos hok]⟩ rfl))
      refine et_or t1 fun _ => et_or (a := false) (et_not (et_B (ed_isaB (eo_of (ed_var rfl)) rfl kII))) fun _ => et_or (a := false) (et_B (ed_isaB (eo_of (ed_var rfl)) rfl kIB)) fun _ => ?_
      have hx : (!PyData.eqv (.int (ns2.foldl max n)) (.int (ns2.foldl max n))) = false := by simp [PyData.eqv]
      rw [← hx]
      refine' et_test (ed_op (dA := ?j3) (dB := ?j4) (eo_of (ed_var rfl)) (eo_of (ed_cb (dA := ?j2) (ea_cons (eo_of (ed_var rfl)) ea_nil) rc_maxT)) (r2_neD rfl rfl))
      case j3 => rfl
      case j4 => rfl
      case j2 => rfl
    case a2 => intro z; cases z
    case a3 =>
      intro _
      refine sv_next ?_
      walk_at "nx"
      walk_at "seq"
      refine' sv_setW (hi := ?k3) (hp := ?k4) (ew_call (R := rl_classes) (ds := [.tuple ((n :: ns2).map .int)]) (hd := ?k6) (ea_cons (eo_of (ed_var rfl)) ea_nil) ?k5) ?k2
      case k5 => exact ⟨n :: ns2, by omega, rfl, rfl⟩
      case k6 => rfl
      case k3 => simp
      case k4 => simp
      walk_at "nx"
      refine sv_frz (i := 7) rfl ?_
      dsimp only [List.set_cons_zero, List.set_cons_succ]
      rw [show (List.map (fun row => PyData.list (List.map natD row)) (cls (n :: ns2))) = (cls (n :: ns2)).map rowD from rfl]
      walk_at "seq"
      refine' sv_setW (hi := ?l13) (hp := ?l14) (ew_call (R := rclasses_of) (ds := [.tuple ((n :: ns2).map .int)]) (hd := ?l16) (ea_cons (eo_of (ed_var rfl)) ea_nil) ?l15) ?l12
      case l15 => exact ⟨n :: ns2, by omega, rfl, rfl⟩
      case l16 => rfl
      case l13 => simp
      case l14 => simp
      walk_at "nx"
      rw [show (List.map (fun row => List.map natD row) (cls (n :: ns2))) = clsN (n :: ns2) from rfl]
      walk_at "seq"
      have kLL : ∀ xs : List D, kitB (tyN (.list xs)) "list" = some true := fun xs => (show kitB "list" "list" = some true by decide +kernel)
      have cn := clsN_le (n :: ns2)
      have hT : lentE (.own (.lls (clsN (n :: ns2)))) = .dat (.list ((cls (n :: ns2)).map rowD)) := by
        show Ent.dat (.list ((clsN (n :: ns2)).map .list)) = _
        rw [rowsD]
      have cn2 : ((cls (n :: ns2)).map rowD).length = (clsN (n :: ns2)).length := by rw [← rowsD, List.length_map]
      refine' sv_if (b := false) (et_lend (ρ' := [.dat S, .dat (.list (stAt N k7)), .dat (.int (i0 : Int)), .dat (.int m), .dat (.tuple L), .dat (.tuple ((n :: ns2).map .int)), .dat (.int (ns2.foldl max n)), .dat (.list ((cls (n :: ns2)).map rowD)), .dat (.list ((cls (n :: ns2)).map rowD)), .no, .no, .no, .no, .no]) ?m1) ?m2 ?m3
      case m1 =>
        generalize PyData.tuple ((n :: ns2).map .int) = spD'
        generalize PyData.int (ns2.foldl max n) = hD
        simp only [List.map_cons, List.map_nil, hT]
        simp only [lentE]
        refine et_or (a := false) (et_not (et_B (ed_isaB (eo_of (ed_var rfl)) rfl (kLL ((cls (n :: ns2)).map rowD))))) fun _ => et_or (a := false) ?_ fun _ => ?_
        · refine' et_not (a := true) (et_B ?o1)
          case o1 =>
            have hall : (((List.range ((cls (n :: ns2)).map rowD).length).map fun _ => true).all id) = true := by simp
            rw [← hall]
            refine' ed_cb (dA := ?o3) (ea_cons (eo_of (ed_ofN (en_lc (ei_uL (ed_var rfl)) (fun i => [.dat S, .dat (.list (stAt N k7)), .dat (.int (i0 : Int)), .dat (.int m), .dat (.tuple L), .dat spD', .dat hD, .dat (.list ((cls (n :: ns2)).map rowD)), .dat (.list ((cls (n :: ns2)).map rowD)), .no, .no, .no, .no, .no]) (fun _ => true) (fun i => .bool true) ?o4 ?o5 ?o6 ?o7 ?o8))) ea_nil) rc_all
            case o3 =>
              show some [PyData.list (List.map _ (List.filter _ _))] = some [PyData.list _]
              rw [List.filter_eq_self.mpr fun _ _ => rfl, List.map_map]
              rfl
            case o4 => rfl
            case o5 => simp only [PySem.sizeLine_eq]; omega
            case o6 => simp
            case o7 =>
              intro i hi j hj e q
              have : j = 13 := by simpa using hj
              subst this
              simp at q
              exact q.symm
            case o8 =>
              intro i hi
              have hi' : i < ((cls (n :: ns2)).map rowD).length := hi
              have hm := List.mem_of_getElem? (nthD_at hi')
              obtain ⟨row, _, hrow⟩ := List.mem_map.mp hm
              rw [← hrow]
              exact ⟨_, _, tgc_name, et_yes, fun _ => ⟨_, ed_isaB (eo_of (ed_var rfl)) rfl (kLL (row.map natD)), back_set⟩, fun z => nomatch z⟩
        · have hx : (!PyData.eqv (.list ((cls (n :: ns2)).map rowD)) (.list ((cls (n :: ns2)).map rowD))) = false := by simp [PyData.eqv, eqvRows]
          rw [← hx]
          refine' et_test (ed_op (dA := ?p3) (dB := ?p4) (eo_of (ed_var rfl)) (eo_of (ed_var rfl)) (r2_neD (shRows _) (shRows _)))
          case p3 => rfl
          case p4 => rfl
      case m2 => intro z; cases z
      case m3 =>
        intro _
        refine sv_next ?_
        walk_at "nx"
        walk_at "seq"
        obtain ⟨d0, hd0⟩ : ∃ d0, (clsN (n :: ns2))[0]? = some d0 := ⟨_, List.getElem?_eq_getElem cls_pos⟩
        have d0l : d0.length ≤ 401 := Nat.le_trans (clsN_row (List.mem_of_getElem? hd0)) hsz
        have cp := cls_pos (n := n) (ns := ns2)
        refine' sv_appAt (n := 0) (j := 0) (d := .int 7) (ds := d0) ?q1 ?q2 ?q3 ?q4 ?q5 hd0 ?q6 ?q7 ?q8 ?q9
        case q1 => exact rfl
        case q2 => exact ed_int
        case q3 => exact rfl
        case q4 => exact ix0 cp
        case q5 => exact ed_int
        case q6 => simp only [PySem.sizeLine_eq]; omega
        case q8 => simp
        case q9 => simp
        walk_at "nx"
        walk_at "seq"
        refine' sv_appLls (ds := [.int 8]) ?r1 ?r2 ?r3 ?r4 ?r5
        case r1 => exact rfl
        case r2 => walk_at "en"
        case r3 => exact rfl
        case r4 => rw [List.length_set]; simp only [PySem.sizeLine_eq]; omega
        generalize (clsN (n :: ns2)).set 0 (d0 ++ [.int 7]) ++ [[.int 8]] = X
        walk_at "nx"
        walk_at "seq"
        refine' sv_if (b := false) ?aa1 ?aa2 ?aa3
        case aa1 =>
          have hx : (!PyData.eqv (.list ((cls (n :: ns2)).map rowD)) (.list ((cls (n :: ns2)).map rowD))) = false := by simp [PyData.eqv, eqvRows]
          rw [← hx]
          refine' et_test (ed_op (dA := ?ab3) (dB := ?ab4) (eo_of ?ab1) (eo_of ?ab5) (r2_neD (shRows _) (shRows _)))
          case ab1 =>
            refine' ed_castL (ed_ofWl (ew_call (R := rclasses_of) (ds := [.tuple ((n :: ns2).map .int)]) (hd := ?ac6) (ea_cons (eo_of (ed_var rfl)) ea_nil) ?ac5)) (rowsD (n :: ns2))
            case ac5 => exact ⟨n :: ns2, by omega, rfl, rfl⟩
            case ac6 => rfl
          case ab5 => exact ed_var rfl
          case ab3 => rfl
          case ab4 => rfl
        case aa2 => intro z; cases z
        case aa3 =>
          intro _
          refine sv_next ?_
          walk_at "nx"
          walk_at "seq"
          have la := nxt_lo (N := N) (k := k7) (many := ((n :: ns2).map PyData.int).length) (by simp)
          generalize hat : nxt N k7 ((n :: ns2).map PyData.int).length = at1 at la
          refine' sv_set (d := .int at1) (hi := ?ad3) (hp := ?ad4) ?ad1 ?ad2
          case ad1 =>
            rw [← hat]
            refine' ed_next ?ae1 ?ae2 G ?ae3 ?ae4 ?ae5
            case ae1 => walk_at "ed"
            case ae2 => exact rfl
            case ae3 => omega
            case ae4 => unfold KMax; omega
            case ae5 => simp
          case ad3 => simp
          case ad4 => simp
          walk_at "nx"
          walk_at "seq"
          have x0 := nxt_lo (N := N) (k := k7 + 1) (many := 1000) (by decide)
          have y0 := nxt_lo (N := N) (k := k7 + 1 + 1) (many := 4) (by decide)
          have y1 := nxt_hi (N := N) (k := k7 + 1 + 1) (many := 4) (by decide)
          obtain ⟨bad, hbad, hbad2⟩ := ix4 0 41 (-1) (40 + nxt N (k7 + 1) 1000 + 1) y0 y1
          have hb2 : bad < 1 ∨ 40 < bad := by omega
          refine' sv_set (d := .int bad) (hi := ?af3) (hp := ?af4) ?af1 ?af2
          case af1 =>
            refine' ed_op (dA := ?ag3) (dB := ?ag4) ?ag1 ?ag2 ?ag5
            case ag1 =>
              refine' eo_of (ed_ofN (en_lst (hd := ?ah2) (hz := ?ah3) (ea_cons (eo_of ed_int) (ea_cons (eo_of ed_int) (ea_cons (eo_of ?ah4) (ea_cons (eo_of ?ah5) ea_nil))))))
              case ah4 => walk_at "ed"
              case ah5 =>
                refine' ed_op (dA := ?ai3) (dB := ?ai4) (eo_of ?ai1) ?ai2 ?ai5
                case ai1 =>
                  refine' ed_op (dA := ?aj3) (dB := ?aj4) (eo_of ed_int) ?aj2 ?aj5
                  case aj2 =>
                    refine' eo_of (ed_next ?ak1 ?ak2 G ?ak3 ?ak4 ?ak5)
                    case ak1 => walk_at "ed"
                    case ak2 => exact rfl
                    case ak3 => omega
                    case ak4 => unfold KMax; omega
                    case ak5 => decide
                  case aj3 => rfl
                  case aj4 => rfl
                  case aj5 => walk_at "r2"
                case ai2 => walk_at "eo"
                case ai3 => rfl
                case ai4 => rfl
                case ai5 => walk_at "r2"
              case ah2 => rfl
              case ah3 => walk_at "size"
            case ag2 =>
              refine' eo_of (ed_next ?al1 ?al2 G ?al3 ?al4 ?al5)
              case al1 => walk_at "ed"
              case al2 => exact rfl
              case al3 => omega
              case al4 => unfold KMax; omega
              case al5 => decide
            case ag3 => rfl
            case ag4 => rfl
            case ag5 => exact rx_L hbad2
          case af3 => simp
          case af4 => simp
          walk_at "nx"
          generalize hk8 : k7 + 1 + 1 + 1 = k8
          have e1 := spoilt1 (log := L) (sp := n :: ns2) (by omega)
          have e2 := spoilt2 (log := L) (sp := n :: ns2) (by omega)
          have e3 := spoilt3 (log := L) (sp := n :: ns2) (at1 := at1) hb2
          have e4 := spoilt4 (log := L)
          refine' sv_forE (fun j => [.dat S, .own (.lst (stAt N k8)), .dat (.int (i0 : Int)), .dat (.int m), .dat (.tuple L), .dat (.tuple ((n :: ns2).map .int)), .dat (.int (ns2.foldl max n)), .dat (.list ((cls (n :: ns2)).map rowD)), .own (.lls X), .dat (.int at1), .dat (.int bad), .no, .no, .no]) (ei_list (ds := [.tuple (DL.cutD ((n :: ns2).map .int) (some 1) none), .tuple ((n :: ns2).map PyData.int ++ [.int 1]), .tuple ((DL.cutD ((n :: ns2).map .int) none (some at1) ++ [PyData.int bad]) ++ DL.cutD ((n :: ns2).map .int) (some (at1 + 1)) none), .tuple []]) (ed_ofN (en_lst (hd := ?am2) (hz := ?am3) (ea_cons (eo_of ?am4) (ea_cons (eo_of ?am5) (ea_cons (eo_of ?am6) (ea_cons (eo_of ?am7) ea_nil))))))) ?an1 ?an2 ?an3
          case am4 => walk_at "ed"
          case am5 =>
            refine' ed_op (dA := ?ba3) (dB := ?ba4) (eo_of ?ba1) (eo_of ?ba2) (ra_tup ?ba5)
            case ba1 => exact ed_var rfl
            case ba2 => exact ed_tup (ea_cons (eo_of ed_int) ea_nil)
            case ba3 => rfl
            case ba4 => rfl
            case ba5 => rw [List.length_map, List.length_singleton]; simp only [PySem.sizeLine_eq]; omega
          case am6 =>
            have c1 := cut_len ((n :: ns2).map .int) none (some at1)
            have c2 := cut_len ((n :: ns2).map .int) (some (at1 + 1)) none
            rw [List.length_map] at c1 c2
            refine' ed_op (dA := ?ao3) (dB := ?ao4) (eo_of ?ao1) (eo_of ?ao2) (ra_tup ?ao5)
            case ao1 =>
              refine' ed_op (dA := ?ap3) (dB := ?ap4) (eo_of ?ap1) (eo_of ?ap2) (ra_tup ?ap5)
              case ap1 => exact ed_sl (eo_of (ed_var rfl)) ep_no (ep_some (ed_var rfl)) rs_tup
              case ap2 => exact ed_tup (ea_cons (eo_of (ed_var rfl)) ea_nil) (hd := by rfl) (hz := by simp [PySem.sizeLine_eq])
              case ap3 => rfl
              case ap4 => rfl
              case ap5 => rw [List.length_singleton]; simp only [PySem.sizeLine_eq]; omega
            case ao2 => walk_at "ed"
            case ao3 => rfl
            case ao4 => rfl
            case ao5 => rw [List.length_append, List.length_singleton]; simp only [PySem.sizeLine_eq]; omega
          case am7 => walk_at "ed"
          case am2 => rfl
          case am3 => walk_at "size"
          case an1 => walk_at "wk"
          case an3 =>
            intro ρ' w'
            have hk : k8 ≤ 3000 * ((i0 + 1 : Nat) : Int) := by omega
            have hk0 : 0 ≤ k8 := by omega
            refine ⟨k8, hk0, hk, Wk.trans w' ?_⟩
            walk_at "wk"
          case an2 =>
            intro j hj
            have hj : j < 4 := hj
            have hq : ∃ s' : List Int, nthD [PyData.tuple (DL.cutD ((n :: ns2).map .int) (some 1) none), .tuple ((n :: ns2).map PyData.int ++ [.int 1]), .tuple ((DL.cutD ((n :: ns2).map .int) none (some at1) ++ [PyData.int bad]) ++ DL.cutD ((n :: ns2).map .int) (some (at1 + 1)) none), .tuple []] j = .tuple (s'.map .int) ∧ ¬ okSplit L s' := by
              have : j = 0 ∨ j = 1 ∨ j = 2 ∨ j = 3 := by omega
              rcases this with rfl | rfl | rfl | rfl
              · obtain ⟨s', q1, q2⟩ := e1
                exact ⟨s', congrArg PyData.tuple q1, q2⟩
              · obtain ⟨s', q1, q2⟩ := e2
                exact ⟨s', congrArg PyData.tuple q1, q2⟩
              · obtain ⟨s', q1, q2⟩ := e3
                exact ⟨s', congrArg PyData.tuple q1, q2⟩
              · obtain ⟨s', q1, q2⟩ := e4
                exact ⟨s', congrArg PyData.tuple q1, q2⟩
            obtain ⟨s', q1, q2⟩ := hq
            rw [q1]
            refine ⟨_, tg_name, ?_⟩
            dsimp only [List.set_cons_zero, List.set_cons_succ]
            refine' sv_if (b := false) (et_not (a := true) (et_B (ed_call (R := rl_refused) (ds := [.tuple L, .tuple (s'.map .int)]) (hd := ?bb1) (ea_cons (eo_of (ed_var rfl)) (ea_cons (eo_of (ed_var rfl)) ea_nil)) ?bb2))) ?bb3 ?bb4
            case bb1 => rfl
            case bb2 => exact ⟨L, s', rfl, q2, rfl⟩
            case bb3 => intro z; cases z
            case bb4 =>
              intro _
              refine sv_next ?_
              walk_at "wk"
end K25

namespace K25
open PySem PySem.Spec PyProof.Rows L2 DL
theorem ofSelf {K : PySem.W.Frag} {S : Addr} (h1 : PySem.W.subIn K (.ref S) (.type "BaseException") = some true) (h2 : PySem.W.isClsIn K S = true) (h3 : PySem.W.typeIn K (.ref S) = some (.type "type")) (h4 : PySem.W.subIn K (.ref S) (.ref S) = some true) : PySem.W.exmOne K (.ref S) (.ref S) = some true := by
  unfold PySem.W.exmOne PySem.W.kitCls
  have h5 : (PySem.W.clsIn K S).isSome = true := h2
  simp [h1, h3, h4, h5]
theorem ofSub {K : PySem.W.Frag} {S C : Addr} (h2 : PySem.W.isClsIn K C = true) (h3 : PySem.W.typeIn K (.ref C) = some (.type "type")) (h4 : PySem.W.subIn K (.ref S) (.ref C) = some true) : PySem.W.kitOne K (.ref S) (.ref C) = some true := by
  unfold PySem.W.kitOne PySem.W.kitCls
  have h5 : (PySem.W.clsIn K C).isSome = true := h2
  split
  · rfl
  · simp [h3, h4, h5]
theorem ofNot {K : PySem.W.Frag} {S C : Addr} (h1 : PySem.W.subIn K (.ref S) (.ref S) = some true) (h2 : PySem.W.isClsIn K C = true) (h3 : PySem.W.typeIn K (.ref C) = some (.type "type")) (h4 : PySem.W.subIn K (.ref S) (.ref C) = some false) : PySem.W.kitOne K (.ref S) (.ref C) = some false := by
  unfold PySem.W.kitOne PySem.W.kitCls
  have h5 : (PySem.W.clsIn K C).isSome = true := h2
  split
  · rename_i z
    have z := eq_of_beq z
    rw [← z, h1] at h4
    cases h4
  · simp [h3, h4, h5]
theorem anyNext {K : PySem.W.Frag} {t c : Value} {cs : List Value} (h : PySem.W.kitOne K t c = some false) (h2 : PySem.W.kitAny K t cs = some false) : PySem.W.kitAny K t (c :: cs) = some false := by
  rw [PySem.W.kitAny.eq_def]
  simp only [h]
  exact h2
section
variable {P : Program} {w : World} {K : PySem.W.Frag} {mg : Str → Option Value} {base : Heap} {fA : Nat → Addr} {fD : Nat → FuncData} {cA : Nat → Addr}
theorem okcheck_split (T : Txt K mg fA fD cA) : FnOk P w K mg base (L2.CX P w) 1 (fA 9) (fD 9) ["log", "split"] (spX (rcheck_split (cA 2)) K) :=
  def_X T.F_check_split sccheck_split (fun ds r ⟨_, _, e, _⟩ => by rw [e]; rfl) (fun cdv A outer s H E hr => htcheck_split T cdv A outer s H E hr) fun ds r E h => svcheck_split ds r E h
theorem okheight_of (T : Txt K mg fA fD cA) : FnOk P w K mg base CX0 1 (fA 10) (fD 10) ["split"] (spD rheight_of K) :=
  def_D T.F_height_of scheight_of (fun ds r ⟨_, _, e, _⟩ => by rw [e]; rfl) (fun cdv A outer s H E hr => htheight_of T cdv A outer s H E hr) svheight_of
theorem okclasses_of (T : Txt K mg fA fD cA) : FnOk P w K mg base CX0 1 (fA 11) (fD 11) ["split"] (spD rclasses_of K) :=
  def_D T.F_classes_of scclasses_of (fun ds r ⟨_, _, e, _⟩ => by rw [e]; rfl) (fun cdv A outer s H E hr => htclasses_of T cdv A outer s H E hr) svclasses_of
theorem okl_stream (T : Txt K mg fA fD cA) : FnOk P w K mg base CX0 1 (fA 13) (fD 13) ["script"] (spD rl_stream K) :=
  def_D T.F_l_stream scl_stream (fun ds r ⟨_, _, e, _⟩ => by rw [e]; rfl) (fun cdv A outer s H E hr => htl_stream T cdv A outer s H E hr) svl_stream
theorem okl_next (T : Txt K mg fA fD cA) : FnOk P w K mg base CX0 1 (fA 14) (fD 14) ["state", "many"] (spS rl_next K) :=
  def_S T.F_l_next scl_next (fun st ds r st' ⟨_, _, _, _, _, _, _, _, e, _⟩ => by rw [e]; rfl) (fun cdv A outer s H E hr => htl_next T cdv A outer s H E hr) svl_next
theorem okl_classes (T : Txt K mg fA fD cA) : FnOk P w K mg base CX0 1 (fA 15) (fD 15) ["split"] (spD rl_classes K) :=
  def_D T.F_l_classes scl_classes (fun ds r ⟨_, _, e, _⟩ => by rw [e]; rfl) (fun cdv A outer s H E hr => htl_classes T cdv A outer s H E hr) svl_classes
theorem okl_refused (T : Txt K mg fA fD cA) : FnOk P w K mg base CX0 2 (fA 16) (fD 16) ["log", "split"] (spD rl_refused K) :=
  def_D T.F_l_refused scl_refused (fun ds r ⟨_, _, e, _⟩ => by rw [e]; rfl) (fun cdv A outer s H E hr => htl_refused T (okcheck_split T) cdv A outer s H E hr) (svl_refused T.ex_NotAllowed T.te_NotAllowed T.k1_NotAllowed T.k2_NotAllowed)
theorem okl_levels (T : Txt K mg fA fD cA) : FnOk P w K mg base CX0 2 (fA 17) (fD 17) ["state", "many"] (spS rl_levels K) :=
  def_S T.F_l_levels scl_levels (fun st ds r st' ⟨_, _, _, _, _, _, _, _, _, e, _⟩ => by rw [e]; rfl) (fun cdv A outer s H E hr => htl_levels T (okl_next T) cdv A outer s H E hr) svl_levels
theorem oklaw (T : Txt K mg fA fD cA) : FnOk P w K mg base CX0 3 (fA 18) (fD 18) ["script"] (spD rlaw K) :=
  def_D T.F_law sclaw (fun ds r ⟨_, _, e, _⟩ => by rw [e]; rfl) (fun cdv A outer s H E hr => htlaw T (okl_refused T) (okl_next T) (okclasses_of T) (okl_classes T) (okcheck_split T) (okheight_of T) (okl_levels T) (okl_stream T) cdv A outer s H E hr) svlaw
end
theorem facts {P : Program} {w : World} {K : PySem.W.Frag} {h : Heap} {mg : Str → Option Value} {fa : Addr} (X : K.In h) (G : h.Ns mainGlobals mg) (hfa : mg "law" = some (.ref fa))
    {f9 : Addr} {od9 an9 : Option Addr} {sl9 : Array (Option Value)} {oc9 kV9 dc9 pm9 cd9 ct9 : Value}
    {f10 : Addr} {od10 an10 : Option Addr} {sl10 : Array (Option Value)} {oc10 kV10 dc10 pm10 cd10 ct10 : Value}
    {f11 : Addr} {od11 an11 : Option Addr} {sl11 : Array (Option Value)} {oc11 kV11 dc11 pm11 cd11 ct11 : Value}
    {f13 : Addr} {od13 an13 : Option Addr} {sl13 : Array (Option Value)} {oc13 kV13 dc13 pm13 cd13 ct13 : Value}
    {f14 : Addr} {od14 an14 : Option Addr} {sl14 : Array (Option Value)} {oc14 kV14 dc14 pm14 cd14 ct14 : Value}
    {f15 : Addr} {od15 an15 : Option Addr} {sl15 : Array (Option Value)} {oc15 kV15 dc15 pm15 cd15 ct15 : Value}
    {f16 : Addr} {od16 an16 : Option Addr} {sl16 : Array (Option Value)} {oc16 kV16 dc16 pm16 cd16 ct16 : Value}
    {f17 : Addr} {od17 an17 : Option Addr} {sl17 : Array (Option Value)} {oc17 kV17 dc17 pm17 cd17 ct17 : Value}
    {f18 : Addr} {od18 an18 : Option Addr} {sl18 : Array (Option Value)} {oc18 kV18 dc18 pm18 cd18 ct18 : Value}
    {t_MAX_HEIGHT : Tok}
    {t_MAX_LEVELS : Tok}
    {C5 : Addr}
    {C4 : Addr}
    {C2 : Addr}
    {C1 : Addr}
    {C3 : Addr}
    (a9 : PySem.W.nsIn K mainGlobals "check_split" = some (some (.ref f9))) (l9 : K.lookup f9 = some ⟨oc9, od9, .func (PySem.W.fnOf "check_split" "check_split" (defArgs (topS 9)) (defBody (topS 9)) (defScope (topS 9)) .none kV9 dc9 pm9 an9 cd9 ct9), sl9⟩) (c9 : PySem.W.codeIn K cd9 "check_split" = true) (k9 : PySem.W.keepIn K (.ref f9) = true)
    (a10 : PySem.W.nsIn K mainGlobals "height_of" = some (some (.ref f10))) (l10 : K.lookup f10 = some ⟨oc10, od10, .func (PySem.W.fnOf "height_of" "height_of" (defArgs (topS 10)) (defBody (topS 10)) (defScope (topS 10)) .none kV10 dc10 pm10 an10 cd10 ct10), sl10⟩) (c10 : PySem.W.codeIn K cd10 "height_of" = true) (k10 : PySem.W.keepIn K (.ref f10) = true)
    (a11 : PySem.W.nsIn K mainGlobals "classes_of" = some (some (.ref f11))) (l11 : K.lookup f11 = some ⟨oc11, od11, .func (PySem.W.fnOf "classes_of" "classes_of" (defArgs (topS 11)) (defBody (topS 11)) (defScope (topS 11)) .none kV11 dc11 pm11 an11 cd11 ct11), sl11⟩) (c11 : PySem.W.codeIn K cd11 "classes_of" = true) (k11 : PySem.W.keepIn K (.ref f11) = true)
    (a13 : PySem.W.nsIn K mainGlobals "_law_stream" = some (some (.ref f13))) (l13 : K.lookup f13 = some ⟨oc13, od13, .func (PySem.W.fnOf "_law_stream" "_law_stream" (defArgs (topS 13)) (defBody (topS 13)) (defScope (topS 13)) .none kV13 dc13 pm13 an13 cd13 ct13), sl13⟩) (c13 : PySem.W.codeIn K cd13 "_law_stream" = true) (k13 : PySem.W.keepIn K (.ref f13) = true)
    (a14 : PySem.W.nsIn K mainGlobals "_law_next" = some (some (.ref f14))) (l14 : K.lookup f14 = some ⟨oc14, od14, .func (PySem.W.fnOf "_law_next" "_law_next" (defArgs (topS 14)) (defBody (topS 14)) (defScope (topS 14)) .none kV14 dc14 pm14 an14 cd14 ct14), sl14⟩) (c14 : PySem.W.codeIn K cd14 "_law_next" = true) (k14 : PySem.W.keepIn K (.ref f14) = true)
    (a15 : PySem.W.nsIn K mainGlobals "_law_classes" = some (some (.ref f15))) (l15 : K.lookup f15 = some ⟨oc15, od15, .func (PySem.W.fnOf "_law_classes" "_law_classes" (defArgs (topS 15)) (defBody (topS 15)) (defScope (topS 15)) .none kV15 dc15 pm15 an15 cd15 ct15), sl15⟩) (c15 : PySem.W.codeIn K cd15 "_law_classes" = true) (k15 : PySem.W.keepIn K (.ref f15) = true)
    (a16 : PySem.W.nsIn K mainGlobals "_law_refused" = some (some (.ref f16))) (l16 : K.lookup f16 = some ⟨oc16, od16, .func (PySem.W.fnOf "_law_refused" "_law_refused" (defArgs (topS 16)) (defBody (topS 16)) (defScope (topS 16)) .none kV16 dc16 pm16 an16 cd16 ct16), sl16⟩) (c16 : PySem.W.codeIn K cd16 "_law_refused" = true) (k16 : PySem.W.keepIn K (.ref f16) = true)
    (a17 : PySem.W.nsIn K mainGlobals "_law_levels" = some (some (.ref f17))) (l17 : K.lookup f17 = some ⟨oc17, od17, .func (PySem.W.fnOf "_law_levels" "_law_levels" (defArgs (topS 17)) (defBody (topS 17)) (defScope (topS 17)) .none kV17 dc17 pm17 an17 cd17 ct17), sl17⟩) (c17 : PySem.W.codeIn K cd17 "_law_levels" = true) (k17 : PySem.W.keepIn K (.ref f17) = true)
    (a18 : PySem.W.nsIn K mainGlobals "law" = some (some (.ref f18))) (l18 : K.lookup f18 = some ⟨oc18, od18, .func (PySem.W.fnOf "law" "law" (defArgs (topS 18)) (defBody (topS 18)) (defScope (topS 18)) .none kV18 dc18 pm18 an18 cd18 ct18), sl18⟩) (c18 : PySem.W.codeIn K cd18 "law" = true) (k18 : PySem.W.keepIn K (.ref f18) = true)
    (z_abs : PySem.W.nsIn K mainGlobals "abs" = some none)
    (z_all : PySem.W.nsIn K mainGlobals "all" = some none)
    (z_bool : PySem.W.nsIn K mainGlobals "bool" = some none)
    (z_enumerate : PySem.W.nsIn K mainGlobals "enumerate" = some none)
    (z_int : PySem.W.nsIn K mainGlobals "int" = some none)
    (z_isinstance : PySem.W.nsIn K mainGlobals "isinstance" = some none)
    (z_len : PySem.W.nsIn K mainGlobals "len" = some none)
    (z_list : PySem.W.nsIn K mainGlobals "list" = some none)
    (z_max : PySem.W.nsIn K mainGlobals "max" = some none)
    (z_range : PySem.W.nsIn K mainGlobals "range" = some none)
    (z_tuple : PySem.W.nsIn K mainGlobals "tuple" = some none)
    (v_MAX_HEIGHT : PySem.W.nsIn K mainGlobals "MAX_HEIGHT" = some (some (.int 4 t_MAX_HEIGHT)))
    (v_MAX_LEVELS : PySem.W.nsIn K mainGlobals "MAX_LEVELS" = some (some (.int 40 t_MAX_LEVELS)))
    (A5 : PySem.W.nsIn K mainGlobals "BadPaper" = some (some (.ref C5)))
    (A4 : PySem.W.nsIn K mainGlobals "Missing" = some (some (.ref C4)))
    (A2 : PySem.W.nsIn K mainGlobals "NotAllowed" = some (some (.ref C2)))
    (A1 : PySem.W.nsIn K mainGlobals "ScarpError" = some (some (.ref C1)))
    (A3 : PySem.W.nsIn K mainGlobals "TooLarge" = some (some (.ref C3)))
    (xE2 : PySem.W.excIn K C2 [.type "ValueError", .type "Exception", .type "BaseException", .type "object"] "ValueError.__new__" = true) (kE2 : PySem.W.keepIn K (.ref C2) = true) (bE2 : PySem.W.subIn K (.ref C2) (.type "BaseException") = some true) (tE2 : PySem.W.typeIn K (.ref C2) = some (.type "type")) (iE2 : PySem.W.isClsIn K C2 = true) (sE2 : PySem.W.subIn K (.ref C2) (.ref C2) = some true)
    (e12 : PySem.W.findIn K (.ref C2) "__getattribute__" = some (some (.builtin "BaseException.__getattribute__"))) (e22 : PySem.W.findIn K (.ref C2) "__getattr__" = some none) (e32 : PySem.W.hasDictIn K C2 = true) (e42 : PySem.W.findIn K (.ref C2) "__class__" = some (some (.builtin "object.__class__"))) (e52 : PySem.W.specialIn K (.builtin "object.__class__") "__get__" = some (some (.builtin "getset_descriptor.__get__"))) (e62 : PySem.W.takesIn K (.builtin "object.__class__") = some true) (e72 : PySem.W.mroIn K C2 (.type "object") = some true)
    (i1f2 : PySem.W.isClsIn K C1 = true) (t1f2 : PySem.W.typeIn K (.ref C1) = some (.type "type")) (s1f2 : PySem.W.subIn K (.ref C2) (.ref C1) = some true) (i3f2 : PySem.W.isClsIn K C3 = true) (t3f2 : PySem.W.typeIn K (.ref C3) = some (.type "type")) (s3f2 : PySem.W.subIn K (.ref C2) (.ref C3) = some false) (i4f2 : PySem.W.isClsIn K C4 = true) (t4f2 : PySem.W.typeIn K (.ref C4) = some (.type "type")) (s4f2 : PySem.W.subIn K (.ref C2) (.ref C4) = some false) (i5f2 : PySem.W.isClsIn K C5 = true) (t5f2 : PySem.W.typeIn K (.ref C5) = some (.type "type")) (s5f2 : PySem.W.subIn K (.ref C2) (.ref C5) = some false)
    : ∃ fd : FuncData, (∀ (s : Shared) (u : Value), BindsTo s fd ⟨[u], []⟩ [("script", u)]) ∧ ∀ base : Heap, K.In base → base.Ns mainGlobals mg → FnOk P w K mg base CX0 3 fa fd ["script"] (spD rlaw K) := by
  have e := hfa.symm.trans (PySem.W.mg_of X G a18)
  cases e
  have T : Txt K mg (fun i => match i with | 9 => f9 | 10 => f10 | 11 => f11 | 13 => f13 | 14 => f14 | 15 => f15 | 16 => f16 | 17 => f17 | _ => fa) (fun i => match i with | 9 => PySem.W.fnOf "check_split" "check_split" (defArgs (topS 9)) (defBody (topS 9)) (defScope (topS 9)) .none kV9 dc9 pm9 an9 cd9 ct9 | 10 => PySem.W.fnOf "height_of" "height_of" (defArgs (topS 10)) (defBody (topS 10)) (defScope (topS 10)) .none kV10 dc10 pm10 an10 cd10 ct10 | 11 => PySem.W.fnOf "classes_of" "classes_of" (defArgs (topS 11)) (defBody (topS 11)) (defScope (topS 11)) .none kV11 dc11 pm11 an11 cd11 ct11 | 13 => PySem.W.fnOf "_law_stream" "_law_stream" (defArgs (topS 13)) (defBody (topS 13)) (defScope (topS 13)) .none kV13 dc13 pm13 an13 cd13 ct13 | 14 => PySem.W.fnOf "_law_next" "_law_next" (defArgs (topS 14)) (defBody (topS 14)) (defScope (topS 14)) .none kV14 dc14 pm14 an14 cd14 ct14 | 15 => PySem.W.fnOf "_law_classes" "_law_classes" (defArgs (topS 15)) (defBody (topS 15)) (defScope (topS 15)) .none kV15 dc15 pm15 an15 cd15 ct15 | 16 => PySem.W.fnOf "_law_refused" "_law_refused" (defArgs (topS 16)) (defBody (topS 16)) (defScope (topS 16)) .none kV16 dc16 pm16 an16 cd16 ct16 | 17 => PySem.W.fnOf "_law_levels" "_law_levels" (defArgs (topS 17)) (defBody (topS 17)) (defScope (topS 17)) .none kV17 dc17 pm17 an17 cd17 ct17 | 18 => PySem.W.fnOf "law" "law" (defArgs (topS 18)) (defBody (topS 18)) (defScope (topS 18)) .none kV18 dc18 pm18 an18 cd18 ct18 | _ => PySem.W.fnOf "law" "law" (defArgs (topS 18)) (defBody (topS 18)) (defScope (topS 18)) .none kV18 dc18 pm18 an18 cd18 ct18) (fun i => match i with | 5 => C5 | 4 => C4 | 2 => C2 | 1 => C1 | 3 => C3 | _ => C5) := {
      F_check_split := fun_mk (st := topS 9) l9 c9 k9,
      g_check_split := PySem.W.mg_of X G a9,
      b_check_split := (fun_mk (st := topS 9) l9 c9 k9).binds (ps := ["log", "split"]) fun _ _ _ _ _ _ us hl => match us, hl with | [_, _], _ => rfl,
      F_height_of := fun_mk (st := topS 10) l10 c10 k10,
      g_height_of := PySem.W.mg_of X G a10,
      b_height_of := (fun_mk (st := topS 10) l10 c10 k10).binds (ps := ["split"]) fun _ _ _ _ _ _ us hl => match us, hl with | [_], _ => rfl,
      F_classes_of := fun_mk (st := topS 11) l11 c11 k11,
      g_classes_of := PySem.W.mg_of X G a11,
      b_classes_of := (fun_mk (st := topS 11) l11 c11 k11).binds (ps := ["split"]) fun _ _ _ _ _ _ us hl => match us, hl with | [_], _ => rfl,
      F_l_stream := fun_mk (st := topS 13) l13 c13 k13,
      g_l_stream := PySem.W.mg_of X G a13,
      b_l_stream := (fun_mk (st := topS 13) l13 c13 k13).binds (ps := ["script"]) fun _ _ _ _ _ _ us hl => match us, hl with | [_], _ => rfl,
      F_l_next := fun_mk (st := topS 14) l14 c14 k14,
      g_l_next := PySem.W.mg_of X G a14,
      b_l_next := (fun_mk (st := topS 14) l14 c14 k14).binds (ps := ["state", "many"]) fun _ _ _ _ _ _ us hl => match us, hl with | [_, _], _ => rfl,
      F_l_classes := fun_mk (st := topS 15) l15 c15 k15,
      g_l_classes := PySem.W.mg_of X G a15,
      b_l_classes := (fun_mk (st := topS 15) l15 c15 k15).binds (ps := ["split"]) fun _ _ _ _ _ _ us hl => match us, hl with | [_], _ => rfl,
      F_l_refused := fun_mk (st := topS 16) l16 c16 k16,
      g_l_refused := PySem.W.mg_of X G a16,
      b_l_refused := (fun_mk (st := topS 16) l16 c16 k16).binds (ps := ["log", "split"]) fun _ _ _ _ _ _ us hl => match us, hl with | [_, _], _ => rfl,
      F_l_levels := fun_mk (st := topS 17) l17 c17 k17,
      g_l_levels := PySem.W.mg_of X G a17,
      b_l_levels := (fun_mk (st := topS 17) l17 c17 k17).binds (ps := ["state", "many"]) fun _ _ _ _ _ _ us hl => match us, hl with | [_, _], _ => rfl,
      F_law := fun_mk (st := topS 18) l18 c18 k18,
      g_law := PySem.W.mg_of X G a18,
      b_law := (fun_mk (st := topS 18) l18 c18 k18).binds (ps := ["script"]) fun _ _ _ _ _ _ us hl => match us, hl with | [_], _ => rfl,
      n_abs := PySem.W.mg_none_of X G z_abs,
      n_all := PySem.W.mg_none_of X G z_all,
      n_bool := PySem.W.mg_none_of X G z_bool,
      n_enumerate := PySem.W.mg_none_of X G z_enumerate,
      n_int := PySem.W.mg_none_of X G z_int,
      n_isinstance := PySem.W.mg_none_of X G z_isinstance,
      n_len := PySem.W.mg_none_of X G z_len,
      n_list := PySem.W.mg_none_of X G z_list,
      n_max := PySem.W.mg_none_of X G z_max,
      n_range := PySem.W.mg_none_of X G z_range,
      n_tuple := PySem.W.mg_none_of X G z_tuple,
      c_MAX_HEIGHT := ⟨_, PySem.W.mg_of X G v_MAX_HEIGHT⟩,
      c_MAX_LEVELS := ⟨_, PySem.W.mg_of X G v_MAX_LEVELS⟩,
      g_BadPaper := PySem.W.mg_of X G A5,
      g_Missing := PySem.W.mg_of X G A4,
      g_NotAllowed := PySem.W.mg_of X G A2,
      g_ScarpError := PySem.W.mg_of X G A1,
      g_TooLarge := PySem.W.mg_of X G A3,
      x_NotAllowed := xE2,
      k_NotAllowed := kE2,
      s_NotAllowed := bE2,
      t_NotAllowed := tE2,
      ex_NotAllowed := ⟨e12, e22, bE2, e32, e42, e52, e62, e72⟩,
      te_NotAllowed := ofSelf bE2 iE2 tE2 sE2,
      k1_NotAllowed := ofSub i1f2 t1f2 s1f2,
      k2_NotAllowed := anyNext (ofNot sE2 i3f2 t3f2 s3f2) (anyNext (ofNot sE2 i4f2 t4f2 s4f2) (anyNext (ofNot sE2 i5f2 t5f2 s5f2) (rfl))) }
  exact ⟨_, fun s u => .of_eq rfl, fun base _ _ => oklaw (P := P) (w := w) (base := base) T⟩
theorem asked (K : PySem.W.Frag) (H : Hp) (a : Addr) (ns : List Int) (hl : ns.length ≤ 63) (hS : SqL K H a (ns.map V.int)) : spD rlaw K [V.ref a] H (fun v _ => v = V.bl true) (fun _ _ _ => False) :=
  ⟨H, [.list (ns.map .int)], .dat (.bool true), Same.refl _, .cons (.lst hS (dpInts ns)) .nil, ⟨ns, hl, rfl, rfl⟩, fun v F' H' _ x => by
    cases x
    rfl⟩
end K25
open PySem PySem.W PyProof.Rows
set_option maxRecDepth 100000 in
set_option maxHeartbeats 0 in
theorem PySem.Challenge.cw_scarp_k25_splits_and_classes_holds : PySem.Challenge.rw_scarp_k25_splits_and_classes.Holds := by
  w_on; o_law; k_head; (case hw => w_witness2)
  k_fill
  refine L2.walk_of (n := 63) (k := 3) (x := "script") (CX := fun _ => L2.CX0) (sp := fun w => DL.spD K25.rlaw _) rfl (by decide) rfl ⟨rfl, by decide, by decide⟩ (fun w h Y => PySem.W.kIn_of Y) ?F (fun _ H a ns hl _ hS => K25.asked _ H a ns hl hS) (fun _ _ _ _ _ z => z)
  case F =>
    intro w mg fa h KX G hmg
    refine' K25.facts KX G hmg ?a9 ?l9 ?c9 ?k9 ?a10 ?l10 ?c10 ?k10 ?a11 ?l11 ?c11 ?k11 ?a13 ?l13 ?c13 ?k13 ?a14 ?l14 ?c14 ?k14 ?a15 ?l15 ?c15 ?k15 ?a16 ?l16 ?c16 ?k16 ?a17 ?l17 ?c17 ?k17 ?a18 ?l18 ?c18 ?k18 ?z_abs ?z_all ?z_bool ?z_enumerate ?z_int ?z_isinstance ?z_len ?z_list ?z_max ?z_range ?z_tuple ?v_MAX_HEIGHT ?v_MAX_LEVELS ?A5 ?A4 ?A2 ?A1 ?A3 ?xE2 ?kE2 ?bE2 ?tE2 ?iE2 ?sE2 ?e12 ?e22 ?e32 ?e42 ?e52 ?e62 ?e72 ?i1f2 ?t1f2 ?s1f2 ?i3f2 ?t3f2 ?s3f2 ?i4f2 ?t4f2 ?s4f2 ?i5f2 ?t5f2 ?s5f2
    (case a9 => k_is)
    (case l9 => k_is)
    (case c9 => k_is)
    (case k9 => k_is)
    (case a10 => k_is)
    (case l10 => k_is)
    (case c10 => k_is)
    (case k10 => k_is)
    (case a11 => k_is)
    (case l11 => k_is)
    (case c11 => k_is)
    (case k11 => k_is)
    (case a13 => k_is)
    (case l13 => k_is)
    (case c13 => k_is)
    (case k13 => k_is)
    (case a14 => k_is)
    (case l14 => k_is)
    (case c14 => k_is)
    (case k14 => k_is)
    (case a15 => k_is)
    (case l15 => k_is)
    (case c15 => k_is)
    (case k15 => k_is)
    (case a16 => k_is)
    (case l16 => k_is)
    (case c16 => k_is)
    (case k16 => k_is)
    (case a17 => k_is)
    (case l17 => k_is)
    (case c17 => k_is)
    (case k17 => k_is)
    (case a18 => k_is)
    (case l18 => k_is)
    (case c18 => k_is)
    (case k18 => k_is)
    (case z_abs => k_is)
    (case z_all => k_is)
    (case z_bool => k_is)
    (case z_enumerate => k_is)
    (case z_int => k_is)
    (case z_isinstance => k_is)
    (case z_len => k_is)
    (case z_list => k_is)
    (case z_max => k_is)
    (case z_range => k_is)
    (case z_tuple => k_is)
    (case v_MAX_HEIGHT => k_is)
    (case v_MAX_LEVELS => k_is)
    (case A5 => k_is)
    (case A4 => k_is)
    (case A2 => k_is)
    (case A1 => k_is)
    (case A3 => k_is)
    (case xE2 => k_exc)
    (case kE2 => k_is)
    (case bE2 => k_is)
    (case tE2 => k_is)
    (case iE2 => k_is)
    (case sE2 => first | rfl | k_is)
    (case e12 => k_is)
    (case e22 => k_is)
    (case e32 => k_is)
    (case e42 => k_is)
    (case e52 => k_is)
    (case e62 => k_is)
    (case e72 => k_is)
    (case i1f2 => k_is)
    (case t1f2 => k_is)
    (case s1f2 => k_is)
    (case i3f2 => k_is)
    (case t3f2 => k_is)
    (case s3f2 => k_is)
    (case i4f2 => k_is)
    (case t4f2 => k_is)
    (case s4f2 => k_is)
    (case i5f2 => k_is)
    (case t5f2 => k_is)
    (case s5f2 => k_is)
