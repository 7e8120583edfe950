import PyProof.Rows.All
import Wide.All
import OpenK.AllK
import Wide.FinOn
import HandS.ForMost
import HandS.Evl
import HandS.Wide
import HandS.Gcd
import HandS.Style
import HandS.IsInst
import PySem.Challenge.RW_besideandthrough_k90_fractions
set_option Elab.async false
set_option linter.all false
set_option maxRecDepth 100000
set_option maxHeartbeats 4000000
/-! Data over the hand layer: values as trees of data, frozen in a part F of the heap; lists that a def owns stand in its slots. -/
namespace DL
open PySem L2
open Evl (Ex)

/-- a value as data -/
inductive D where
  | non | bl (b : Bool) | int (i : Int) | str (x : Str) | tup (xs : List D) | lst (xs : List D) | scr (ns : List Int) | ref (a : Addr)

mutual
def Rp (K : PySem.W.Frag) (F : Hp) : D → V → Prop
  | .non, v => v = .non
  | .bl b, v => v = .bl b
  | .int i, v => v = .int i
  | .str x, v => v = .str x
  | .tup ds, v => ∃ a vs, v = .ref a ∧ SqT K F a vs ∧ Rps K F ds vs
  | .lst ds, v => ∃ a vs, v = .ref a ∧ F a = some (.lst vs) ∧ Rps K F ds vs
  | .scr ns, v => ∃ a, v = .ref a ∧ SqL K F a (ns.map V.int)
  | .ref a, v => v = .ref a
def Rps (K : PySem.W.Frag) (F : Hp) : List D → List V → Prop
  | [], vs => vs = []
  | d :: ds, vs => ∃ v r, vs = v :: r ∧ Rp K F d v ∧ Rps K F ds r
end

section
variable {K : PySem.W.Frag} {F F' : Hp}
mutual
theorem rp_mono (e : Ex F F') : ∀ (d : D) (v : V), Rp K F d v → Rp K F' d v
  | .non, _, h => h
  | .bl _, _, h => h
  | .int _, _, h => h
  | .str _, _, h => h
  | .tup ds, v, h => by
    obtain ⟨a, vs, e1, h1, h2⟩ := h
    exact ⟨a, vs, e1, Evl.ex_t e h1, rps_mono e ds vs h2⟩
  | .lst ds, v, h => by
    obtain ⟨a, vs, e1, h1, h2⟩ := h
    exact ⟨a, vs, e1, e _ _ h1, rps_mono e ds vs h2⟩
  | .scr ns, v, h => by
    obtain ⟨a, e1, h1⟩ := h
    exact ⟨a, e1, Evl.ex_l e h1⟩
  | .ref _, _, h => h
theorem rps_mono (e : Ex F F') : ∀ (ds : List D) (vs : List V), Rps K F ds vs → Rps K F' ds vs
  | [], _, h => h
  | d :: ds, vs, h => by
    obtain ⟨v, r, e1, h1, h2⟩ := h
    exact ⟨v, r, e1, rp_mono e d v h1, rps_mono e ds r h2⟩
end
theorem rps_len : ∀ {ds : List D} {vs : List V}, Rps K F ds vs → vs.length = ds.length
  | [], vs, h => by
    rw [show vs = [] from h]
    rfl
  | d :: ds, vs, h => by
    obtain ⟨v, r, e1, h1, h2⟩ := h
    rw [e1, List.length_cons, List.length_cons, rps_len h2]
theorem rps_get : ∀ {ds : List D} {vs : List V} {i : Nat} {d : D}, Rps K F ds vs → ds[i]? = some d → ∃ v, vs[i]? = some v ∧ Rp K F d v
  | [], _, _, _, _, h => by simp at h
  | d :: ds, vs, 0, e, h, h' => by
    obtain ⟨v, r, e1, h1, h2⟩ := h
    have : d = e := by simpa using h'
    subst this
    exact ⟨v, by rw [e1] <;> rfl, h1⟩
  | d :: ds, vs, i + 1, e, h, h' => by
    obtain ⟨v, r, e1, h1, h2⟩ := h
    obtain ⟨w, h3, h4⟩ := rps_get (i := i) h2 (by simpa using h')
    exact ⟨w, by rw [e1]; simpa using h3, h4⟩
theorem rps_get' : ∀ {ds : List D} {vs : List V} {i : Nat} {v : V}, Rps K F ds vs → vs[i]? = some v → ∃ d, ds[i]? = some d ∧ Rp K F d v := fun {ds vs i v} h h' => by
  have hl := rps_len h
  have hi : i < vs.length := (List.getElem?_eq_some_iff.mp h').1
  have hd : ds[i]? = some ds[i] := List.getElem?_eq_getElem (by omega)
  obtain ⟨w, h1, h2⟩ := rps_get h hd
  rw [h'] at h1
  cases h1
  exact ⟨_, hd, h2⟩
theorem rps_app : ∀ {ds es : List D} {vs ws : List V}, Rps K F ds vs → Rps K F es ws → Rps K F (ds ++ es) (vs ++ ws)
  | [], _, vs, _, h, h' => by
    rw [show vs = [] from h]
    exact h'
  | d :: ds, es, vs, ws, h, h' => by
    obtain ⟨v, r, e1, h1, h2⟩ := h
    exact ⟨v, r ++ ws, by rw [e1] <;> rfl, h1, rps_app h2 h'⟩
theorem rps_one {d : D} {v : V} (h : Rp K F d v) : Rps K F [d] [v] := ⟨v, [], rfl, h, rfl⟩
theorem rps_ints : ∀ (ns : List Int) (vs : List V), Rps K F (ns.map D.int) vs → vs = ns.map V.int
  | [], _, h => h
  | n :: ns, vs, h => by
    obtain ⟨v, r, e1, h1, h2⟩ := h
    rw [e1, show v = V.int n from h1, rps_ints ns r h2] <;> rfl
theorem ints_rps : ∀ (ns : List Int), Rps K F (ns.map D.int) (ns.map V.int)
  | [] => rfl
  | n :: ns => ⟨.int n, ns.map V.int, rfl, rfl, ints_rps ns⟩
theorem rps_take : ∀ {ds : List D} {vs : List V} (n : Nat), Rps K F ds vs → Rps K F (ds.take n) (vs.take n)
  | [], vs, n, h => by
    rw [show vs = [] from h]
    cases n <;> rfl
  | d :: ds, vs, 0, h => by
    rw [List.take_zero, List.take_zero]
    rfl
  | d :: ds, vs, n + 1, h => by
    obtain ⟨v, r, e1, h1, h2⟩ := h
    rw [e1]
    exact ⟨v, r.take n, rfl, h1, rps_take n h2⟩
theorem rps_drop : ∀ {ds : List D} {vs : List V} (n : Nat), Rps K F ds vs → Rps K F (ds.drop n) (vs.drop n)
  | [], vs, n, h => by
    rw [show vs = [] from h]
    cases n <;> rfl
  | d :: ds, vs, 0, h => h
  | d :: ds, vs, n + 1, h => by
    obtain ⟨v, r, e1, h1, h2⟩ := h
    rw [e1]
    exact rps_drop n h2
theorem rps_set : ∀ {ds : List D} {vs : List V} {d : D} {v : V} (i : Nat), Rps K F ds vs → Rp K F d v → Rps K F (ds.set i d) (vs.set i v)
  | [], vs, d, v, i, h, h' => by
    rw [show vs = [] from h]
    rfl
  | e :: ds, vs, d, v, 0, h, h' => by
    obtain ⟨w, r, e1, h1, h2⟩ := h
    rw [e1]
    exact ⟨v, r, rfl, h', h2⟩
  | e :: ds, vs, d, v, i + 1, h, h' => by
    obtain ⟨w, r, e1, h1, h2⟩ := h
    rw [e1]
    exact ⟨w, r.set i v, rfl, h1, rps_set i h2 h'⟩
end

/-! ### memory that may change, frames -/
inductive OD where
  | lst (ds : List D) | ins (C : Addr) (fs : List (Str × D))
abbrev Mem := Addr → Option OD
def RpO (K : PySem.W.Frag) (F : Hp) : OD → Option HO → Prop
  | .lst ds, h => ∃ vs, h = some (.lst vs) ∧ Rps K F ds vs
  | .ins C fs, h => ∃ dx vfs, h = some (.ins C dx vfs) ∧ vfs.map Prod.fst = fs.map Prod.fst ∧ Rps K F (fs.map Prod.snd) (vfs.map Prod.snd)
theorem RpO.mono {K : PySem.W.Frag} {F F' : Hp} (e : Ex F F') {o : OD} {h : Option HO} (x : RpO K F o h) : RpO K F' o h := by
  cases o with
  | lst ds =>
    obtain ⟨vs, e1, h1⟩ := x
    exact ⟨vs, e1, rps_mono e _ _ h1⟩
  | ins C fs =>
    obtain ⟨dx, vfs, e1, h0, h1⟩ := x
    exact ⟨dx, vfs, e1, h0, rps_mono e _ _ h1⟩
theorem RpO.some {K : PySem.W.Frag} {F : Hp} {o : OD} {h : Option HO} (x : RpO K F o h) : ∃ u, h = some u := by
  cases o with
  | lst ds =>
    obtain ⟨vs, e1, h1⟩ := x
    exact ⟨_, e1⟩
  | ins C fs =>
    obtain ⟨dx, vfs, e1, h0, h1⟩ := x
    exact ⟨_, e1⟩

/-- what stays: the rest R of the heap, what was frozen at the entry -/
structure Zx where
  R : Hp
  F0 : Hp
structure Bs (K : PySem.W.Frag) (Z : Zx) (M : Mem) (H F : Hp) : Prop where
  f0 : Ex Z.F0 F
  fH : Ex F H
  rH : Ex Z.R H
  fr : ∀ a o, F a = some o → Z.R a = none
  mm : ∀ a o, M a = some o → F a = none ∧ Z.R a = none ∧ RpO K F o (H a)

inductive Sl where
  | un | d (d : D) | own (ds : List D)
def SlotOk (K : PySem.W.Frag) (Z : Zx) (F : Hp) (M : Mem) (H : Hp) (o : Option (Option V)) : Sl → Prop
  | .un => True
  | .d d => ∃ v, o = some (some v) ∧ Rp K F d v
  | .own ds => ∃ a vs, o = some (some (.ref a)) ∧ H a = some (.lst vs) ∧ Rps K F ds vs ∧ F a = none ∧ Z.R a = none ∧ M a = none
structure Cn (K : PySem.W.Frag) (Z : Zx) (M : Mem) (σ : L2.St) (H : Hp) (Δ : List Sl) (F : Hp) : Prop where
  bs : Bs K Z M H F
  len : Δ.length = σ.length
  slot : ∀ (i : Nat) (s : Sl), Δ[i]? = some s → SlotOk K Z F M H σ[i]? s
  sep : ∀ (i j : Nat) (a : Addr) (ds es : List D), i ≠ j → Δ[i]? = some (.own ds) → Δ[j]? = some (.own es) → σ[i]? = some (some (.ref a)) → σ[j]? = some (some (.ref a)) → False

section
variable {K : PySem.W.Frag} {Z : Zx} {M : Mem} {σ : L2.St} {H F : Hp} {Δ : List Sl} {p : Addr} {o : HO}
theorem Bs.new (b : Bs K Z M H F) (hp : H p = none) (o : HO) : Bs K Z M (upd H p o) (upd F p o) where
  f0 := b.f0.trans (Ex.new (by
    cases h : F p with
    | none => rfl
    | some u => rw [b.fH p u h] at hp; cases hp))
  fH := fun a u h => by
    by_cases e : a = p
    · subst e; rw [upd_same] at h ⊢; exact h
    · rw [upd_ne e] at h ⊢; exact b.fH a u h
  rH := b.rH.trans (Ex.new hp)
  fr := fun a u h => by
    by_cases e : a = p
    · subst e
      cases h : Z.R a with
      | none => rfl
      | some u => rw [b.rH a u h] at hp; cases hp
    · rw [upd_ne e] at h; exact b.fr a u h
  mm := fun a u h => by
    obtain ⟨h1, h2, h3⟩ := b.mm a u h
    obtain ⟨v, hv⟩ := h3.some
    have e : a ≠ p := ne_of_none hv hp
    have eF : Ex F (upd F p o) := Ex.new (by
      cases h : F p with
      | none => rfl
      | some u => rw [b.fH p u h] at hp; cases hp)
    exact ⟨by rw [upd_ne e]; exact h1, h2, by rw [upd_ne e]; exact h3.mono eF⟩
theorem Bs.freeF (b : Bs K Z M H F) (hp : H p = none) : F p = none := by
  cases h : F p with
  | none => rfl
  | some u => rw [b.fH p u h] at hp; cases hp
theorem Bs.freeR (b : Bs K Z M H F) (hp : H p = none) : Z.R p = none := by
  cases h : Z.R p with
  | none => rfl
  | some u => rw [b.rH p u h] at hp; cases hp
theorem Bs.freeM (b : Bs K Z M H F) (hp : H p = none) : M p = none := by
  cases h : M p with
  | none => rfl
  | some u =>
    obtain ⟨h1, h2, h3⟩ := b.mm p u h
    obtain ⟨v, hv⟩ := h3.some
    rw [hp] at hv; cases hv
theorem Bs.newH (b : Bs K Z M H F) (hp : H p = none) (o : HO) : Bs K Z M (upd H p o) F where
  f0 := b.f0
  fH := b.fH.trans (Ex.new hp)
  rH := b.rH.trans (Ex.new hp)
  fr := b.fr
  mm := fun a u h => by
    obtain ⟨h1, h2, h3⟩ := b.mm a u h
    obtain ⟨v, hv⟩ := h3.some
    exact ⟨h1, h2, by rw [upd_ne (ne_of_none hv hp)]; exact h3⟩
theorem Bs.exF (b : Bs K Z M H F) (hp : H p = none) (o : HO) : Ex F (upd F p o) := Ex.new (b.freeF hp)

theorem SlotOk.mono {H' F' : Hp} {so : Option (Option V)} {s : Sl} (h : SlotOk K Z F M H so s) (eF : Ex F F') (hO : ∀ a vs, H a = some (.lst vs) → F a = none → Z.R a = none → M a = none → F' a = none ∧ H' a = some (.lst vs)) : SlotOk K Z F' M H' so s := by
  cases s with
  | un => exact True.intro
  | d d =>
    obtain ⟨v, e, r⟩ := h
    exact ⟨v, e, rp_mono eF _ _ r⟩
  | own ds =>
    obtain ⟨a, vs, e, h1, h2, h3, h4, h5⟩ := h
    obtain ⟨q1, q2⟩ := hO a vs h1 h3 h4 h5
    exact ⟨a, vs, e, q2, rps_mono eF _ _ h2, q1, h4, h5⟩
/-- a new object is laid and frozen -/
theorem Cn.new (c : Cn K Z M σ H Δ F) (hp : H p = none) (o : HO) : Cn K Z M σ (upd H p o) Δ (upd F p o) where
  bs := c.bs.new hp o
  len := c.len
  slot := fun i s h => (c.slot i s h).mono (c.bs.exF hp o) fun a vs h1 h2 _ _ => by
    have e : a ≠ p := ne_of_none h1 hp
    rw [upd_ne e, upd_ne e]
    exact ⟨h2, h1⟩
  sep := c.sep
theorem Cn.newH (c : Cn K Z M σ H Δ F) (hp : H p = none) (o : HO) : Cn K Z M σ (upd H p o) Δ F where
  bs := c.bs.newH hp o
  len := c.len
  slot := fun i s h => (c.slot i s h).mono (Ex.refl _) fun a vs h1 h2 _ _ => by
    have e : a ≠ p := ne_of_none h1 hp
    rw [upd_ne e]
    exact ⟨h2, h1⟩
  sep := c.sep
theorem get_set {α : Type} {xs : List α} {i j : Nat} {x y : α} (h : (xs.set i x)[j]? = some y) : (i = j ∧ i < xs.length ∧ y = x) ∨ (i ≠ j ∧ xs[j]? = some y) := by
  by_cases e : i = j
  · subst e
    left
    by_cases hl : i < xs.length
    · rw [List.getElem?_set_self hl] at h
      exact ⟨rfl, hl, (Option.some.inj h).symm⟩
    · rw [List.getElem?_eq_none_iff.mpr (by rw [List.length_set]; omega)] at h
      cases h
  · right
    rw [List.getElem?_set_ne e] at h
    exact ⟨e, h⟩
/-- a slot is stored -/
theorem Cn.set (c : Cn K Z M σ H Δ F) {d : D} {v : V} (r : Rp K F d v) (i : Nat) : Cn K Z M (σ.set i (some v)) H (Δ.set i (.d d)) F where
  bs := c.bs
  len := by rw [List.length_set, List.length_set, c.len]
  slot := fun j s h => by
    rcases get_set h with ⟨e, hl, e2⟩ | ⟨e, h'⟩
    · subst e e2
      exact ⟨v, by rw [List.getElem?_set_self (by rw [← c.len]; exact hl)], r⟩
    · have q := c.slot j s h'
      rw [List.getElem?_set_ne e]
      exact q
  sep := fun j l a ds es hne h1 h2 h3 h4 => by
    rcases get_set h1 with ⟨_, _, e⟩ | ⟨n1, h1'⟩
    · cases e
    rcases get_set h2 with ⟨_, _, e⟩ | ⟨n2, h2'⟩
    · cases e
    rw [List.getElem?_set_ne n1] at h3
    rw [List.getElem?_set_ne n2] at h4
    exact c.sep j l a ds es hne h1' h2' h3 h4
/-- a slot is stored with a list that is new and its own -/
theorem Cn.setOwn (c : Cn K Z M σ H Δ F) {ds : List D} {vs : List V} (hp : H p = none) (r : Rps K F ds vs) (i : Nat) : Cn K Z M (σ.set i (some (.ref p))) (upd H p (.lst vs)) (Δ.set i (.own ds)) F where
  bs := c.bs.newH hp _
  len := by rw [List.length_set, List.length_set, c.len]
  slot := fun j s h => by
    rcases get_set h with ⟨e, hl, e2⟩ | ⟨e, h'⟩
    · subst e e2
      exact ⟨p, vs, by rw [List.getElem?_set_self (by rw [← c.len]; exact hl)], upd_same, r, c.bs.freeF hp, c.bs.freeR hp, c.bs.freeM hp⟩
    · have q := (c.newH hp (.lst vs)).slot j s h'
      rw [List.getElem?_set_ne e]
      exact q
  sep := fun j l a es fs hne h1 h2 h3 h4 => by
    have other : ∀ (j : Nat) (es : List D) (a : Addr), Δ[j]? = some (.own es) → σ[j]? = some (some (.ref a)) → a ≠ p := fun j es a h h' => by
      obtain ⟨b, ws, e1, e2, _⟩ := c.slot j _ h
      rw [h'] at e1
      cases e1
      exact ne_of_none e2 hp
    rcases get_set h1 with ⟨e1, l1, e1'⟩ | ⟨n1, h1'⟩
    · subst e1
      rcases get_set h2 with ⟨e2, _, _⟩ | ⟨n2, h2'⟩
      · exact hne e2
      rw [List.getElem?_set_ne n2] at h4
      rw [List.getElem?_set_self (by rw [← c.len]; exact l1)] at h3
      cases h3
      exact other l fs _ h2' h4 rfl
    · rw [List.getElem?_set_ne n1] at h3
      rcases get_set h2 with ⟨e2, l2, e2'⟩ | ⟨n2, h2'⟩
      · subst e2
        rw [List.getElem?_set_self (by rw [← c.len]; exact l2)] at h4
        cases h4
        exact other j es _ h1' h3 rfl
      · rw [List.getElem?_set_ne n2] at h4
        exact c.sep j l a es fs hne h1' h2' h3 h4
/-- a slot is forgotten -/
theorem Cn.drop (c : Cn K Z M σ H Δ F) (i : Nat) : Cn K Z M σ H (Δ.set i .un) F where
  bs := c.bs
  len := by rw [List.length_set, c.len]
  slot := fun j s h => by
    rcases get_set h with ⟨e, hl, e2⟩ | ⟨e, h'⟩
    · subst e2; exact True.intro
    · exact c.slot j s h'
  sep := fun j l a ds es hne h1 h2 h3 h4 => by
    rcases get_set h1 with ⟨_, _, e⟩ | ⟨n1, h1'⟩
    · cases e
    rcases get_set h2 with ⟨_, _, e⟩ | ⟨n2, h2'⟩
    · cases e
    exact c.sep j l a ds es hne h1' h2' h3 h4
/-- an own list becomes data -/
theorem Cn.freeze (c : Cn K Z M σ H Δ F) {i : Nat} {ds : List D} {a : Addr} {vs : List V} (hi : Δ[i]? = some (.own ds)) (hσ : σ[i]? = some (some (.ref a))) (hH : H a = some (.lst vs)) (r : Rps K F ds vs) (hF : F a = none) (hR : Z.R a = none) (hM : M a = none) :
    Cn K Z M σ H (Δ.set i (.d (.lst ds))) (upd F a (.lst vs)) where
  bs := {
    f0 := c.bs.f0.trans (Ex.new hF)
    fH := fun b u h => by
      by_cases e : b = a
      · subst e; rw [upd_same] at h; rw [hH]; exact h
      · rw [upd_ne e] at h; exact c.bs.fH b u h
    rH := c.bs.rH
    fr := fun b u h => by
      by_cases e : b = a
      · subst e; exact hR
      · rw [upd_ne e] at h; exact c.bs.fr b u h
    mm := fun b u h => by
      obtain ⟨h1, h2, h3⟩ := c.bs.mm b u h
      have e : b ≠ a := fun e => by
        subst e; rw [hM] at h; cases h
      exact ⟨by rw [upd_ne e]; exact h1, h2, h3.mono (Ex.new hF)⟩ }
  len := by rw [List.length_set, c.len]
  slot := fun j s h => by
    rcases get_set h with ⟨e, hl, e2⟩ | ⟨e, h'⟩
    · subst e e2
      exact ⟨.ref a, hσ, a, vs, rfl, upd_same, rps_mono (Ex.new hF) _ _ r⟩
    · have q := c.slot j s h'
      cases s with
      | un => exact True.intro
      | d d =>
        obtain ⟨v, e1, r1⟩ := q
        exact ⟨v, e1, rp_mono (Ex.new hF) _ _ r1⟩
      | own es =>
        obtain ⟨b, ws, e1, h1, h2, h3, h4, h5⟩ := q
        have hb : b ≠ a := fun e2 => by
          subst e2
          exact c.sep i j b ds es e hi h' hσ e1
        exact ⟨b, ws, e1, h1, rps_mono (Ex.new hF) _ _ h2, by rw [upd_ne hb]; exact h3, h4, h5⟩
  sep := fun j l b es fs hne h1 h2 h3 h4 => by
    rcases get_set h1 with ⟨_, _, e⟩ | ⟨n1, h1'⟩
    · cases e
    rcases get_set h2 with ⟨_, _, e⟩ | ⟨n2, h2'⟩
    · cases e
    exact c.sep j l b es fs hne h1' h2' h3 h4
/-- an own list changes -/
theorem Cn.change (c : Cn K Z M σ H Δ F) {i : Nat} {ds es : List D} {a : Addr} {vs : List V} (hi : Δ[i]? = some (.own ds)) (hσ : σ[i]? = some (some (.ref a))) (hF : F a = none) (hR : Z.R a = none) (hM : M a = none) (r : Rps K F es vs) :
    Cn K Z M σ (upd H a (.lst vs)) (Δ.set i (.own es)) F where
  bs := {
    f0 := c.bs.f0
    fH := fun b u h => by
      have e : b ≠ a := fun e => by subst e; rw [hF] at h; cases h
      rw [upd_ne e]; exact c.bs.fH b u h
    rH := fun b u h => by
      have e : b ≠ a := fun e => by subst e; rw [hR] at h; cases h
      rw [upd_ne e]; exact c.bs.rH b u h
    fr := c.bs.fr
    mm := fun b u h => by
      have e : b ≠ a := fun e => by subst e; rw [hM] at h; cases h
      rw [upd_ne e]; exact c.bs.mm b u h }
  len := by rw [List.length_set, c.len]
  slot := fun j s h => by
    rcases get_set h with ⟨e, hl, e2⟩ | ⟨e, h'⟩
    · subst e e2
      exact ⟨a, vs, hσ, upd_same, r, hF, hR, hM⟩
    · have q := c.slot j s h'
      cases s with
      | un => exact True.intro
      | d d => exact q
      | own fs =>
        obtain ⟨b, ws, e1, h1, h2, h3, h4, h5⟩ := q
        have hb : b ≠ a := fun e2 => by
          subst e2
          exact c.sep i j b ds fs e hi h' hσ e1
        exact ⟨b, ws, e1, by rw [upd_ne hb]; exact h1, h2, h3, h4, h5⟩
  sep := fun j l b fs gs hne h1 h2 h3 h4 => by
    rcases get_set h1 with ⟨e1, l1, e1'⟩ | ⟨n1, h1'⟩
    · subst e1
      rcases get_set h2 with ⟨e2, _, _⟩ | ⟨n2, h2'⟩
      · exact hne e2
      · exact c.sep i l b ds gs hne hi h2' h3 h4
    · rcases get_set h2 with ⟨e2, l2, e2'⟩ | ⟨n2, h2'⟩
      · subst e2
        exact c.sep j i b fs ds hne h1' hi h3 h4
      · exact c.sep j l b fs gs hne h1' h2' h3 h4
end
end DL

set_option Elab.async false
set_option linter.all false
set_option maxRecDepth 100000
set_option maxHeartbeats 4000000
namespace DL
open PySem L2
open Evl (Ex)

/-! ### readings over data -/
abbrev RE := List Sl → Mem → (D → List Sl → Mem → Prop) → Prop
abbrev RT := List Sl → Mem → (Bool → List Sl → Mem → Prop) → Prop
abbrev RA := List Sl → Mem → (List D → List Sl → Mem → Prop) → Prop
structure DE where
  nx : List Sl → Mem → Prop
  rt : D → Mem → Prop
  bk : List Sl → Mem → Prop := fun _ _ => False
  ct : List Sl → Mem → Prop := fun _ _ => False
abbrev RS := DE → List Sl → Mem → Prop

def Sim (K : PySem.W.Frag) (Z : Zx) (t : TE) (r : RE) : Prop := ∀ (M : Mem) (σ : L2.St) (H : Hp) (Δ : List Sl) (F : Hp) (Φ : D → List Sl → Mem → Prop), Cn K Z M σ H Δ F → r Δ M Φ →
  ∀ Q : VK, (∀ v H' d Δ' M' F', Ex F F' → Cn K Z M' σ H' Δ' F' → Rp K F' d v → Φ d Δ' M' → Q v H') → t σ H Q
def SimT (K : PySem.W.Frag) (Z : Zx) (t : TT) (r : RT) : Prop := ∀ (M : Mem) (σ : L2.St) (H : Hp) (Δ : List Sl) (F : Hp) (Φ : Bool → List Sl → Mem → Prop), Cn K Z M σ H Δ F → r Δ M Φ →
  ∀ Q : Bool → Hp → Prop, (∀ b H' Δ' M' F', Ex F F' → Cn K Z M' σ H' Δ' F' → Φ b Δ' M' → Q b H') → t σ H Q
def SimA (K : PySem.W.Frag) (Z : Zx) (n : Nat) (t : TA) (r : RA) : Prop := ∀ (M : Mem) (σ : L2.St) (H : Hp) (Δ : List Sl) (F : Hp) (Φ : List D → List Sl → Mem → Prop), Cn K Z M σ H Δ F → r Δ M Φ →
  ∀ Q : List V → Hp → Prop, (∀ vs H' ds Δ' M' F', Ex F F' → Cn K Z M' σ H' Δ' F' → Rps K F' ds vs → ds.length = n → Φ ds Δ' M' → Q vs H') → t σ H Q
/-- what the concrete ends must take, from the frozen part F on -/
structure EndsOk (K : PySem.W.Frag) (Z : Zx) (F : Hp) (De : DE) (Dv : Ends) : Prop where
  nx : ∀ σ' H' Δ' M' F', Ex F F' → Cn K Z M' σ' H' Δ' F' → De.nx Δ' M' → Dv.nx σ' H'
  rt : ∀ v H' d M' F', Ex F F' → Bs K Z M' H' F' → Rp K F' d v → De.rt d M' → Dv.rt v H'
  bk : ∀ σ' H' Δ' M' F', Ex F F' → Cn K Z M' σ' H' Δ' F' → De.bk Δ' M' → Dv.bk σ' H'
  ct : ∀ σ' H' Δ' M' F', Ex F F' → Cn K Z M' σ' H' Δ' F' → De.ct Δ' M' → Dv.ct σ' H'
theorem EndsOk.mono {K : PySem.W.Frag} {Z : Zx} {F F1 : Hp} {De : DE} {Dv : Ends} (e : Ex F F1) (ok : EndsOk K Z F De Dv) : EndsOk K Z F1 De Dv :=
  ⟨fun σ' H' Δ' M' F' e1 => ok.nx σ' H' Δ' M' F' (e.trans e1), fun v H' d M' F' e1 => ok.rt v H' d M' F' (e.trans e1), fun σ' H' Δ' M' F' e1 => ok.bk σ' H' Δ' M' F' (e.trans e1), fun σ' H' Δ' M' F' e1 => ok.ct σ' H' Δ' M' F' (e.trans e1)⟩
def SimS (K : PySem.W.Frag) (Z : Zx) (t : TS) (r : RS) : Prop := ∀ (M : Mem) (σ : L2.St) (H : Hp) (Δ : List Sl) (F : Hp) (De : DE), Cn K Z M σ H Δ F → r De Δ M → ∀ Dv : Ends, EndsOk K Z F De Dv → t Dv σ H

def QE (X : Cx) (Z : Zx) (e : Expr) (r : RE) : Prop := ∃ t, PE X e t ∧ Sim X.K Z t r
def QT (X : Cx) (Z : Zx) (e : Expr) (r : RT) : Prop := ∃ t, PT X e t ∧ SimT X.K Z t r
def QW (X : Cx) (Z : Zx) (e : Expr) (r : RT) : Prop := ∃ t, PW X e t ∧ SimT X.K Z t r
def QA (X : Cx) (Z : Zx) (n : Nat) (es : List Expr) (r : RA) : Prop := ∃ t, PA X es t ∧ SimA X.K Z n t r
def QS (X : Cx) (Z : Zx) (s : Stmt) (r : RS) : Prop := ∃ t, PS X s t ∧ SimS X.K Z t r
def QSs (X : Cx) (Z : Zx) (s : List Stmt) (r : RS) : Prop := ∃ t, PSs X s t ∧ SimS X.K Z t r

section
variable {X : Cx} {Z : Zx} {e a b c : Expr} {ra rb rc r : RE} {pos : Pos}

/-! ### names, constants -/
/-- the value in a slot; an own list becomes data -/
def dVar (i : Nat) : RE := fun Δ M Φ => match Δ[i]? with
  | some (.d d) => Φ d Δ M
  | some (.own ds) => Φ (.lst ds) (Δ.set i (.d (.lst ds))) M
  | _ => False
def dC (d : D) : RE := fun Δ M Φ => Φ d Δ M
theorem sim_var {K : PySem.W.Frag} {i : Nat} : Sim K Z (tVar i) (dVar i) := by
  intro M σ H Δ F Φ c h Q q
  unfold dVar at h
  cases hs : Δ[i]? with
  | none => rw [hs] at h; exact h.elim
  | some s =>
    rw [hs] at h
    have k := c.slot i s hs
    cases s with
    | un => exact h.elim
    | d d =>
      obtain ⟨v, e, r⟩ := k
      exact ⟨v, e, q v H d Δ M F (Ex.refl _) c r h⟩
    | own ds =>
      obtain ⟨p, vs, e, h1, h2, h3, h4, h5⟩ := k
      exact ⟨.ref p, e, q _ H (.lst ds) _ M (upd F p (.lst vs)) (Ex.new h3) (c.freeze hs e h1 h2 h3 h4 h5) ⟨p, vs, rfl, upd_same, rps_mono (Ex.new h3) _ _ h2⟩ h⟩
theorem qe_var (i : Nat) {x : Str} (hN : X.N[i]? = some x := by rfl) (hv : Vis X.env.scope x := by first | exact Or.inl rfl | exact Or.inr (Or.inl rfl) | exact Or.inr (Or.inr rfl)) (hd : (x == ("__debug__" : Str)) = false := by decide)
    (hcd : (x == ("__classdict__" : Str)) = false := by decide) : QE X Z (.Name x pos) (dVar i) := ⟨_, pe_var hN hv hd hcd, sim_var⟩
theorem sim_c {K : PySem.W.Frag} {v : V} {d : D} (h : ∀ F, Rp K F d v) : Sim K Z (tC v) (dC d) := fun M σ H Δ F Φ c k Q q => q v H d Δ M F (Ex.refl _) c (h F) k
theorem qe_int {i j} : QE X Z (.Constant (.int i) j pos) (dC (.int i)) := ⟨_, pe_int, sim_c fun _ => rfl⟩
theorem qe_bl {b j} : QE X Z (.Constant (.bool b) j pos) (dC (.bl b)) := ⟨_, pe_bl, sim_c fun _ => rfl⟩
theorem qe_non {j} : QE X Z (.Constant .none j pos) (dC .non) := ⟨_, pe_non, sim_c fun _ => rfl⟩
theorem qe_str {x j} : QE X Z (.Constant (.str x) j pos) (dC (.str x)) := ⟨_, pe_str, sim_c fun _ => rfl⟩

/-! ### two-place operations -/
/-- an operation on data: dr x y Φ asks, then hands on a value; nothing but new frozen objects is made -/
def OpD (K : PySem.W.Frag) (rv : R2) (dr : D → D → (D → Prop) → Prop) : Prop := ∀ (Z : Zx) (M : Mem) (σ : L2.St) (H : Hp) (Δ : List Sl) (F : Hp) (x y : D) (v w : V) (Φ : D → Prop), Cn K Z M σ H Δ F → Rp K F x v → Rp K F y w → dr x y Φ →
  ∀ Q : VK, (∀ u H' d F', Ex F F' → Cn K Z M σ H' Δ F' → Rp K F' d u → Φ d → Q u H') → rv v w H Q
def dOp (dr : D → D → (D → Prop) → Prop) (ra rb : RE) : RE := fun Δ M Φ => ra Δ M fun x Δ1 M1 => rb Δ1 M1 fun y Δ2 M2 => dr x y fun d => Φ d Δ2 M2
theorem sim_op {K : PySem.W.Frag} {rv : R2} {dr : D → D → (D → Prop) → Prop} {ta tb : TE} (ho : OpD K rv dr) (ha : Sim K Z ta ra) (hb : Sim K Z tb rb) : Sim K Z (tOp rv ta tb) (dOp dr ra rb) := by
  intro M σ H Δ F Φ c h Q q
  refine ha M σ H Δ F _ c h _ fun v H1 x Δ1 M1 F1 e1 c1 r1 h1 => ?_
  refine hb M1 σ H1 Δ1 F1 _ c1 h1 _ fun w H2 y Δ2 M2 F2 e2 c2 r2 h2 => ?_
  exact ho Z M2 σ H2 Δ2 F2 x y v w _ c2 (rp_mono e2 _ _ r1) r2 h2 Q fun u H3 d F3 e3 c3 r3 h3 => q u H3 d Δ2 M2 F3 ((e1.trans e2).trans e3) c3 r3 h3
theorem OpD.or {K : PySem.W.Frag} {r1 r2 : R2} {d1 d2 dr : D → D → (D → Prop) → Prop} (h1 : OpD K r1 d1) (h2 : OpD K r2 d2) (h : ∀ x y Φ, dr x y Φ → d1 x y Φ ∨ d2 x y Φ) : OpD K (fun x y H Q => r1 x y H Q ∨ r2 x y H Q) dr := by
  intro Z M σ H Δ F x y v w Φ c rx ry k Q q
  rcases h x y Φ k with k | k
  · exact .inl (h1 Z M σ H Δ F x y v w Φ c rx ry k Q q)
  · exact .inr (h2 Z M σ H Δ F x y v w Φ c rx ry k Q q)
theorem qe_bin {op : Operator} {rv : R2} {dr : D → D → (D → Prop) → Prop} (ho : OpR X (binaryOp op) rv) (hd : OpD X.K rv dr) (ha : QE X Z a ra) (hb : QE X Z b rb) : QE X Z (.BinOp a op b pos) (dOp dr ra rb) := by
  obtain ⟨ta, pa, sa⟩ := ha
  obtain ⟨tb, pb, sb⟩ := hb
  exact ⟨_, pe_op ho pa pb, sim_op hd sa sb⟩
theorem qe_cmp {op : CmpOp} {rv : R2} {dr : D → D → (D → Prop) → Prop} (ho : OpR X (compareOp op) rv) (hd : OpD X.K rv dr) (ha : QE X Z a ra) (hb : QE X Z b rb) (hm : behindInMarks op b = false := by first | exact nobehind _ (by decide) (by decide) | rfl) : QE X Z (.Compare a [op] [b] pos) (dOp dr ra rb) := by
  obtain ⟨ta, pa, sa⟩ := ha
  obtain ⟨tb, pb, sb⟩ := hb
  exact ⟨_, pe_cmpR ho pa pb hm, sim_op hd sa sb⟩
/-- a test that is a truth value -/
def dTest (r : RE) : RT := fun Δ M Φ => r Δ M fun x Δ1 M1 => match x with
  | .bl k => Φ k Δ1 M1
  | _ => False
theorem simT_test {K : PySem.W.Frag} {t : TE} (h : Sim K Z t r) : SimT K Z (tTest t) (dTest r) := by
  intro M σ H Δ F Φ c k Q q
  refine h M σ H Δ F _ c k _ fun v H1 x Δ1 M1 F1 e1 c1 r1 h1 => ?_
  cases x with
  | bl b => exact ⟨b, r1, q b H1 Δ1 M1 F1 e1 c1 h1⟩
  | _ => exact h1.elim
theorem qt_cmp {op : CmpOp} {rv : R2} {dr : D → D → (D → Prop) → Prop} (ho : OpR X (compareOp op) rv) (hd : OpD X.K rv dr) (ha : QE X Z a ra) (hb : QE X Z b rb) (hm : behindInMarks op b = false := by first | exact nobehind _ (by decide) (by decide) | rfl) : QT X Z (.Compare a [op] [b] pos) (dTest (dOp dr ra rb)) := by
  obtain ⟨ta, pa, sa⟩ := ha
  obtain ⟨tb, pb, sb⟩ := hb
  exact ⟨_, pt_cmpR ho pa pb hm, simT_test (sim_op hd sa sb)⟩
/-- an expression whose value is a truth value, as a test -/
theorem qt_val (h : QE X Z e r) (he : ∀ whole, isTrue e X.env whole = (do let v ← whole; standAt e.pos; holding [v] (truthy v)) := by intro _; rfl) : QT X Z e (dTest r) := by
  obtain ⟨t, p, s⟩ := h
  exact ⟨_, pt_val p he, simT_test s⟩

/-- ints -/
def dI (g : Int → Int → D) : D → D → (D → Prop) → Prop := fun x y Φ => match x, y with
  | .int i, .int j => Φ (g i j)
  | _, _ => False
def dIC (C : Int → Int → Prop) (g : Int → Int → D) : D → D → (D → Prop) → Prop := fun x y Φ => match x, y with
  | .int i, .int j => C i j ∧ Φ (g i j)
  | _, _ => False
theorem opD_I {K : PySem.W.Frag} {g : Int → Int → V} {g' : Int → Int → D} (hg : ∀ F i j, Rp K F (g' i j) (g i j)) : OpD K (rI0 g) (dI g') := by
  intro Z M σ H Δ F x y v w Φ c rx ry k Q q
  unfold dI at k
  split at k
  · exact ⟨_, _, rx, ry, q _ H _ F (Ex.refl _) c (hg F _ _) k⟩
  · exact k.elim
theorem opD_IC {K : PySem.W.Frag} {C : Int → Int → Prop} {g : Int → Int → V} {g' : Int → Int → D} (hg : ∀ F i j, Rp K F (g' i j) (g i j)) : OpD K (rI C g) (dIC C g') := by
  intro Z M σ H Δ F x y v w Φ c rx ry k Q q
  unfold dIC at k
  split at k
  · exact ⟨_, _, rx, ry, k.1, q _ H _ F (Ex.refl _) c (hg F _ _) k.2⟩
  · exact k.elim
theorem qe_sub (ha : QE X Z a ra) (hb : QE X Z b rb) : QE X Z (.BinOp a .Sub b pos) (dOp (dI fun i j => .int (i - j)) ra rb) := qe_bin op_sub (opD_I fun _ _ _ => rfl) ha hb
theorem qe_mul (ha : QE X Z a ra) (hb : QE X Z b rb) : QE X Z (.BinOp a .Mult b pos) (dOp (dIC CMul fun i j => .int (i * j)) ra rb) := qe_bin op_mul (opD_IC fun _ _ _ => rfl) ha hb
theorem qe_mulW (ha : QE X Z a ra) (hb : QE X Z b rb) : QE X Z (.BinOp a .Mult b pos) (dOp (dIC CMulW fun i j => .int (i * j)) ra rb) := qe_bin op_mulW (opD_IC fun _ _ _ => rfl) ha hb
theorem qe_fdiv (ha : QE X Z a ra) (hb : QE X Z b rb) : QE X Z (.BinOp a .FloorDiv b pos) (dOp (dIC CDiv fun i j => .int (i / j)) ra rb) := qe_bin op_fdiv (opD_IC fun _ _ _ => rfl) ha hb
theorem qe_fdivW (ha : QE X Z a ra) (hb : QE X Z b rb) : QE X Z (.BinOp a .FloorDiv b pos) (dOp (dIC CDivW fun i j => .int (i / j)) ra rb) := qe_bin op_fdivW (opD_IC fun _ _ _ => rfl) ha hb
theorem qe_mod (ha : QE X Z a ra) (hb : QE X Z b rb) : QE X Z (.BinOp a .Mod b pos) (dOp (dIC (fun _ j => 0 < j) fun i j => .int (i % j)) ra rb) := qe_bin op_mod (opD_IC fun _ _ _ => rfl) ha hb
theorem qe_pow (ha : QE X Z a ra) (hb : QE X Z b rb) : QE X Z (.BinOp a .Pow b pos) (dOp (dIC CPow fun i j => .int (i ^ j.toNat)) ra rb) := qe_bin op_pow (opD_IC fun _ _ _ => rfl) ha hb
/-- + : ints, texts, lists, tuples -/
def dAdd : D → D → (D → Prop) → Prop := fun x y Φ => match x, y with
  | .int i, .int j => Φ (.int (i + j))
  | .str i, .str j => i.length + j.length ≤ sizeLine ∧ Φ (.str (i ++ j))
  | .lst xs, .lst ys => xs.length + ys.length ≤ sizeLine ∧ Φ (.lst (xs ++ ys))
  | .tup xs, .tup ys => xs ≠ [] ∧ xs.length + ys.length ≤ sizeLine ∧ Φ (.tup (xs ++ ys))
  | _, _ => False
def rAddAll (K : PySem.W.Frag) : R2 := fun x y H Q => (rI0 (fun i j => .int (i + j)) x y H Q ∨ (∃ i j, x = .str i ∧ y = .str j ∧ i.length + j.length ≤ sizeLine ∧ Q (.str (i ++ j)) H)) ∨ (rCat x y H Q ∨ rCatT K x y H Q)
theorem op_addAll : OpR X (binaryOp .Add) (rAddAll X.K) := OpR.or (OpR.or op_add op_add_str) (OpR.or op_cat op_catT)
theorem opD_add {K : PySem.W.Frag} : OpD K (rAddAll K) dAdd := by
  intro Z M σ H Δ F x y v w Φ c rx ry k Q q
  unfold dAdd at k
  split at k
  · exact .inl (.inl ⟨_, _, rx, ry, q _ H (.int _) F (Ex.refl _) c rfl k⟩)
  · exact .inl (.inr ⟨_, _, rx, ry, k.1, q _ H (.str _) F (Ex.refl _) c rfl k.2⟩)
  · obtain ⟨a, vs, e1, h1, h2⟩ := rx
    obtain ⟨b, ws, e2, h3, h4⟩ := ry
    obtain ⟨k1, k2⟩ := k
    refine .inr (.inl ⟨a, b, vs, ws, e1, e2, c.bs.fH _ _ h1, c.bs.fH _ _ h3, by rw [rps_len h2, rps_len h4]; exact k1, fun p hp => ?_⟩)
    exact q _ _ (.lst _) _ (c.bs.exF hp _) (c.new hp _) ⟨p, _, rfl, upd_same, rps_mono (c.bs.exF hp _) _ _ (rps_app h2 h4)⟩ k2
  · rename_i xs ys
    obtain ⟨a, vs, e1, h1, h2⟩ := rx
    obtain ⟨b, ws, e2, h3, h4⟩ := ry
    obtain ⟨k0, k1, k2⟩ := k
    refine .inr (.inr ⟨a, b, vs, ws, e1, e2, Evl.ex_t c.bs.fH h1, Evl.ex_t c.bs.fH h3, fun z => ?_, by rw [rps_len h2, rps_len h4]; exact k1, fun z => ?_, fun z p hp => ?_⟩)
    · have := rps_len h2
      rw [z] at this
      exact k0 (List.length_eq_zero_iff.mp this.symm)
    · have hy : ys = [] := by
        have := rps_len h4
        rw [z] at this
        exact List.length_eq_zero_iff.mp this.symm
      refine q _ H (.tup xs) F (Ex.refl _) c ⟨a, vs, rfl, h1, h2⟩ ?_
      rw [hy, List.append_nil] at k2
      exact k2
    · exact q _ _ (.tup _) _ (c.bs.exF hp _) (c.new hp _) ⟨p, _, rfl, SqT.of upd_same, rps_mono (c.bs.exF hp _) _ _ (rps_app h2 h4)⟩ k2
  · exact k.elim
theorem qe_add (ha : QE X Z a ra) (hb : QE X Z b rb) : QE X Z (.BinOp a .Add b pos) (dOp dAdd ra rb) := qe_bin op_addAll opD_add ha hb

/-! ### comparisons of ints -/
abbrev dLt := dI fun i j => .bl (decide (i < j))
abbrev dLe := dI fun i j => .bl (decide (i ≤ j))
abbrev dGt := dI fun i j => .bl (decide (j < i))
abbrev dGe := dI fun i j => .bl (decide (j ≤ i))
theorem od_lt {K : PySem.W.Frag} : OpD K (rI0 fun i j => .bl (decide (i < j))) dLt := opD_I fun _ _ _ => rfl
theorem od_le {K : PySem.W.Frag} : OpD K (rI0 fun i j => .bl (decide (i ≤ j))) dLe := opD_I fun _ _ _ => rfl
theorem od_gt {K : PySem.W.Frag} : OpD K (rI0 fun i j => .bl (decide (j < i))) dGt := opD_I fun _ _ _ => rfl
theorem od_ge {K : PySem.W.Frag} : OpD K (rI0 fun i j => .bl (decide (j ≤ i))) dGe := opD_I fun _ _ _ => rfl

/-! ### == over data -/
/-! whole data -/
mutual
def D.py : D → PyData
  | .non => .none
  | .bl b => .bool b
  | .int i => .int i
  | .str x => .str x
  | .tup ds => .tuple (pys ds)
  | .lst ds => .list (pys ds)
  | .scr ns => .list (ns.map .int)
  | .ref _ => .none
def pys : List D → List PyData
  | [] => []
  | d :: ds => d.py :: pys ds
end
mutual
def D.pure : D → Bool
  | .tup ds => pures ds
  | .lst ds => pures ds
  | .ref _ => false
  | _ => true
def pures : List D → Bool
  | [] => true
  | d :: ds => d.pure && pures ds
end
theorem dpAll_ints {K : PySem.W.Frag} {H : Hp} : ∀ ns : List Int, DpAll K H (ns.map V.int) (ns.map PyData.int)
  | [] => .nil
  | n :: ns => .cons (.int n) (dpAll_ints ns)
mutual
theorem rp_dp {K : PySem.W.Frag} {F H : Hp} (e : Ex F H) : ∀ (d : D) (v : V), d.pure = true → Rp K F d v → Dp K H v d.py
  | .non, v, _, h => by rw [show v = .non from h]; exact .non
  | .bl b, v, _, h => by rw [show v = .bl b from h]; exact .bl b
  | .int i, v, _, h => by rw [show v = .int i from h]; exact .int i
  | .str x, v, _, h => by rw [show v = .str x from h]; exact .str x
  | .tup ds, v, p, h => by
    obtain ⟨a, vs, e1, h1, h2⟩ := h
    rw [e1]
    exact .tup (Evl.ex_t e h1) (rps_dp e ds vs p h2)
  | .lst ds, v, p, h => by
    obtain ⟨a, vs, e1, h1, h2⟩ := h
    rw [e1]
    exact .lst (SqL.of (e _ _ h1)) (rps_dp e ds vs p h2)
  | .scr ns, v, p, h => by
    obtain ⟨a, e1, h1⟩ := h
    rw [e1]
    exact .lst (Evl.ex_l e h1) (dpAll_ints ns)
  | .ref _, _, p, _ => by cases p
theorem rps_dp {K : PySem.W.Frag} {F H : Hp} (e : Ex F H) : ∀ (ds : List D) (vs : List V), pures ds = true → Rps K F ds vs → DpAll K H vs (pys ds)
  | [], vs, _, h => by rw [show vs = [] from h]; exact .nil
  | d :: ds, vs, p, h => by
    obtain ⟨v, r, e1, h1, h2⟩ := h
    rw [e1]
    have p' : (d.pure && pures ds) = true := p
    rw [Bool.and_eq_true] at p'
    exact .cons (rp_dp e d v p'.1 h1) (rps_dp e ds r p'.2 h2)
end
def dEq : D → D → (D → Prop) → Prop := fun x y Φ => x.pure = true ∧ y.pure = true ∧ SeqAt.shaped x.py = true ∧ SeqAt.shaped y.py = true ∧ Φ (.bl (PyData.eqv x.py y.py))
def dNe : D → D → (D → Prop) → Prop := fun x y Φ => x.pure = true ∧ y.pure = true ∧ SeqAt.shaped x.py = true ∧ SeqAt.shaped y.py = true ∧ Φ (.bl (!PyData.eqv x.py y.py))
theorem od_eq {K : PySem.W.Frag} : OpD K (rEqD K) dEq := by
  intro Z M σ H Δ F x y v w Φ c rx ry k Q q
  obtain ⟨h1, h2, h3, h4, k⟩ := k
  exact ⟨_, _, rp_dp c.bs.fH x v h1 rx, rp_dp c.bs.fH y w h2 ry, h3, h4, q _ H (.bl _) F (Ex.refl _) c rfl k⟩
theorem od_ne {K : PySem.W.Frag} : OpD K (rNeD K) dNe := by
  intro Z M σ H Δ F x y v w Φ c rx ry k Q q
  obtain ⟨h1, h2, h3, h4, k⟩ := k
  exact ⟨_, _, rp_dp c.bs.fH x v h1 rx, rp_dp c.bs.fH y w h2 ry, h3, h4, q _ H (.bl _) F (Ex.refl _) c rfl k⟩
/-- == of two ints, texts or truth values -/
def dEqS : D → D → (D → Prop) → Prop := fun x y Φ => match x, y with
  | .int i, .int j => Φ (.bl (decide (i = j)))
  | .str i, .str j => Φ (.bl (decide (i = j)))
  | .bl i, .bl j => Φ (.bl (decide (i = j)))
  | _, _ => False
def dNeS : D → D → (D → Prop) → Prop := fun x y Φ => match x, y with
  | .int i, .int j => Φ (.bl (!decide (i = j)))
  | .str i, .str j => Φ (.bl (!decide (i = j)))
  | .bl i, .bl j => Φ (.bl (!decide (i = j)))
  | _, _ => False
theorem dec_vi {i j : Int} : decide (V.int i = V.int j) = decide (i = j) := by simp
theorem dec_vs {i j : Str} : decide (V.str i = V.str j) = decide (i = j) := by simp
theorem dec_vb {i j : Bool} : decide (V.bl i = V.bl j) = decide (i = j) := by simp
theorem od_eqS {K : PySem.W.Frag} : OpD K rEq dEqS := by
  intro Z M σ H Δ F x y v w Φ c rx ry k Q q
  unfold dEqS at k
  split at k
  · cases rx; cases ry
    exact ⟨rfl, by rw [dec_vi]; exact q _ H (.bl _) F (Ex.refl _) c rfl k⟩
  · cases rx; cases ry
    exact ⟨rfl, by rw [dec_vs]; exact q _ H (.bl _) F (Ex.refl _) c rfl k⟩
  · cases rx; cases ry
    exact ⟨rfl, by rw [dec_vb]; exact q _ H (.bl _) F (Ex.refl _) c rfl k⟩
  · exact k.elim
theorem od_neS {K : PySem.W.Frag} : OpD K rNe dNeS := by
  intro Z M σ H Δ F x y v w Φ c rx ry k Q q
  unfold dNeS at k
  split at k
  · cases rx; cases ry
    exact ⟨rfl, by rw [dec_vi]; exact q _ H (.bl _) F (Ex.refl _) c rfl k⟩
  · cases rx; cases ry
    exact ⟨rfl, by rw [dec_vs]; exact q _ H (.bl _) F (Ex.refl _) c rfl k⟩
  · cases rx; cases ry
    exact ⟨rfl, by rw [dec_vb]; exact q _ H (.bl _) F (Ex.refl _) c rfl k⟩
  · exact k.elim
/-- is, is not of truth values; is None -/
def dIsB : D → D → (D → Prop) → Prop := fun x y Φ => match x, y with
  | .bl i, .bl j => Φ (.bl (decide (i = j)))
  | _, _ => False
def dNotB : D → D → (D → Prop) → Prop := fun x y Φ => match x, y with
  | .bl i, .bl j => Φ (.bl (!decide (i = j)))
  | _, _ => False
theorem od_isB {K : PySem.W.Frag} : OpD K rIsB dIsB := by
  intro Z M σ H Δ F x y v w Φ c rx ry k Q q
  unfold dIsB at k
  split at k
  · exact ⟨_, _, rx, ry, q _ H (.bl _) F (Ex.refl _) c rfl k⟩
  · exact k.elim
theorem od_notB {K : PySem.W.Frag} : OpD K rNotB dNotB := by
  intro Z M σ H Δ F x y v w Φ c rx ry k Q q
  unfold dNotB at k
  split at k
  · exact ⟨_, _, rx, ry, q _ H (.bl _) F (Ex.refl _) c rfl k⟩
  · exact k.elim
def D.isNon : D → Bool
  | .non => true
  | _ => false
theorem rp_isNon {K : PySem.W.Frag} {F : Hp} {d : D} {v : V} (h : Rp K F d v) : decide (v = .non) = d.isNon := by
  cases d with
  | non => rw [show v = .non from h] <;> rfl
  | bl b => rw [show v = .bl b from h] <;> rfl
  | int b => rw [show v = .int b from h] <;> rfl
  | str b => rw [show v = .str b from h] <;> rfl
  | tup ds => obtain ⟨a, vs, e, _⟩ := h; rw [e] <;> rfl
  | lst ds => obtain ⟨a, vs, e, _⟩ := h; rw [e] <;> rfl
  | scr ds => obtain ⟨a, e, _⟩ := h; rw [e] <;> rfl
  | ref a => rw [show v = .ref a from h] <;> rfl
def dIsN : D → D → (D → Prop) → Prop := fun x y Φ => match y with
  | .non => Φ (.bl x.isNon)
  | _ => False
def dNotN : D → D → (D → Prop) → Prop := fun x y Φ => match y with
  | .non => Φ (.bl (!x.isNon))
  | _ => False
def rIsNo : R2 := fun x y H Q => y = .non ∧ Q (.bl (decide (x = .non))) H
def rNotNo : R2 := fun x y H Q => y = .non ∧ Q (.bl (!decide (x = .non))) H
theorem op_isNo : OpR X (compareOp .Is) rIsNo := op_isN
theorem op_notNo : OpR X (compareOp .IsNot) rNotNo := op_notN
theorem od_isN {K : PySem.W.Frag} : OpD K rIsNo dIsN := by
  intro Z M σ H Δ F x y v w Φ c rx ry k Q q
  unfold dIsN at k
  split at k
  · exact ⟨ry, by rw [rp_isNon rx]; exact q _ H (.bl _) F (Ex.refl _) c rfl k⟩
  · exact k.elim
theorem od_notN {K : PySem.W.Frag} : OpD K rNotNo dNotN := by
  intro Z M σ H Δ F x y v w Φ c rx ry k Q q
  unfold dNotN at k
  split at k
  · exact ⟨ry, by rw [rp_isNon rx]; exact q _ H (.bl _) F (Ex.refl _) c rfl k⟩
  · exact k.elim
end
end DL

set_option Elab.async false
set_option linter.all false
set_option maxRecDepth 100000
set_option maxHeartbeats 4000000
namespace DL
open PySem L2
open Evl (Ex)
section
variable {X : Cx} {Z : Zx} {e a b c : Expr} {ra rb rc r : RE} {rt ru : RT} {pos : Pos} {es : List Expr} {rl : RA} {n : Nat} {K : PySem.W.Frag}

/-! ### arguments, tuples, lists -/
def dNil : RA := fun Δ M Φ => Φ [] Δ M
def dCons (r : RE) (rl : RA) : RA := fun Δ M Φ => r Δ M fun d Δ1 M1 => rl Δ1 M1 fun ds Δ2 M2 => Φ (d :: ds) Δ2 M2
theorem qa_nil : QA X Z 0 [] dNil := ⟨_, pa_nil, fun M σ H Δ F Φ c h Q q => q [] H [] Δ M F (Ex.refl _) c rfl rfl h⟩
theorem qa_cons (he : QE X Z e r) (hr : QA X Z n es rl) (hs : starEach (e :: es) X.env = (false, eval e X.env) :: starEach es X.env := by rfl) : QA X Z (n + 1) (e :: es) (dCons r rl) := by
  obtain ⟨t, p, s⟩ := he
  obtain ⟨u, p', s'⟩ := hr
  refine ⟨_, pa_cons p p' hs, fun M σ H Δ F Φ c h Q q => ?_⟩
  refine s M σ H Δ F _ c h _ fun v H1 x Δ1 M1 F1 e1 c1 r1 h1 => ?_
  refine s' M1 σ H1 Δ1 F1 _ c1 h1 _ fun vs H2 ds Δ2 M2 F2 e2 c2 r2 hl h2 => ?_
  exact q _ H2 (x :: ds) Δ2 M2 F2 (e1.trans e2) c2 ⟨v, vs, rfl, rp_mono e2 _ _ r1, r2⟩ (by rw [List.length_cons, hl]) h2
def dTup (rl : RA) : RE := fun Δ M Φ => rl Δ M fun ds Δ1 M1 => Φ (.tup ds) Δ1 M1
theorem line_of {n : Nat} (h : n ≤ 1000) : n ≤ sizeLine := Nat.le_trans h (by decide)
theorem qe_tup {x1} (h : QA X Z n es rl) (hn : n ≤ 1000 := by decide) : QE X Z (.Tuple es x1 pos) (dTup rl) := by
  obtain ⟨t, p, s⟩ := h
  refine ⟨_, pe_tup p, fun M σ H Δ F Φ c h Q q => ?_⟩
  refine s M σ H Δ F _ c h _ fun vs H1 ds Δ1 M1 F1 e1 c1 r1 hl h1 => ?_
  refine ⟨by rw [rps_len r1, hl]; exact line_of hn, fun p hp => ?_⟩
  exact q _ _ (.tup ds) Δ1 M1 _ (e1.trans (c1.bs.exF hp _)) (c1.new hp _) ⟨p, vs, rfl, SqT.of upd_same, rps_mono (c1.bs.exF hp _) _ _ r1⟩ h1

/-! ### expressions that make a new list -/
def SimL (K : PySem.W.Frag) (Z : Zx) (t : TE) (r : RA) : Prop := ∀ (M : Mem) (σ : L2.St) (H : Hp) (Δ : List Sl) (F : Hp) (Φ : List D → List Sl → Mem → Prop), Cn K Z M σ H Δ F → r Δ M Φ →
  ∀ Q : VK, (∀ p H1 vs ds Δ' M' F', Ex F F' → Cn K Z M' σ H1 Δ' F' → H1 p = none → Rps K F' ds vs → Φ ds Δ' M' → Q (.ref p) (upd H1 p (.lst vs))) → t σ H Q
def QL (X : Cx) (Z : Zx) (e : Expr) (r : RA) : Prop := ∃ t, PE X e t ∧ SimL X.K Z t r
/-- frozen at once -/
def dFz (rl : RA) : RE := fun Δ M Φ => rl Δ M fun ds Δ1 M1 => Φ (.lst ds) Δ1 M1
theorem qe_fz (h : QL X Z e rl) : QE X Z e (dFz rl) := by
  obtain ⟨t, p, s⟩ := h
  refine ⟨t, p, fun M σ H Δ F Φ c h Q q => ?_⟩
  refine s M σ H Δ F _ c h Q fun p H1 vs ds Δ1 M1 F1 e1 c1 hp r1 h1 => ?_
  exact q _ _ (.lst ds) Δ1 M1 _ (e1.trans (c1.bs.exF hp _)) (c1.new hp _) ⟨p, vs, rfl, upd_same, rps_mono (c1.bs.exF hp _) _ _ r1⟩ h1
theorem ql_lst (h : QA X Z n es rl) (hn : n ≤ 1000 := by decide) : QL X Z (.List es pos) rl := by
  obtain ⟨t, p, s⟩ := h
  refine ⟨_, pe_lst p, fun M σ H Δ F Φ c h Q q => ?_⟩
  refine s M σ H Δ F _ c h _ fun vs H1 ds Δ1 M1 F1 e1 c1 r1 hl h1 => ?_
  exact ⟨by rw [rps_len r1, hl]; exact line_of hn, fun p hp => q p H1 vs ds Δ1 M1 F1 e1 c1 hp r1 h1⟩
theorem qe_lst (h : QA X Z n es rl) (hn : n ≤ 1000 := by decide) : QE X Z (.List es pos) (dFz rl) := qe_fz (ql_lst h hn)

/-! ### truth values -/
def dNot (r : RT) : RT := fun Δ M Φ => r Δ M fun b Δ1 M1 => Φ (!b) Δ1 M1
theorem qt_not (h : QT X Z e rt) : QT X Z (.UnaryOp .Not e pos) (dNot rt) := by
  obtain ⟨t, p, s⟩ := h
  refine ⟨_, pt_not p, fun M σ H Δ F Φ c h Q q => ?_⟩
  exact s M σ H Δ F _ c h _ fun b H1 Δ1 M1 F1 e1 c1 h1 => q (!b) H1 Δ1 M1 F1 e1 c1 h1
def dAnd (r u : RT) : RT := fun Δ M Φ => r Δ M fun b Δ1 M1 => match b with
  | true => u Δ1 M1 Φ
  | false => Φ false Δ1 M1
def dOr (r u : RT) : RT := fun Δ M Φ => r Δ M fun b Δ1 M1 => match b with
  | true => Φ true Δ1 M1
  | false => u Δ1 M1 Φ
theorem simT_and {t u : TT} (h1 : SimT K Z t rt) (h2 : SimT K Z u ru) : SimT K Z (tAnd t u) (dAnd rt ru) := by
  intro M σ H Δ F Φ c h Q q
  refine h1 M σ H Δ F _ c h _ fun b H1 Δ1 M1 F1 e1 c1 k1 => ?_
  cases b with
  | true => exact iteT (h2 M1 σ H1 Δ1 F1 Φ c1 k1 Q fun b H2 Δ2 M2 F2 e2 c2 k2 => q b H2 Δ2 M2 F2 (e1.trans e2) c2 k2)
  | false => exact iteF (q false H1 Δ1 M1 F1 e1 c1 k1)
theorem simT_or {t u : TT} (h1 : SimT K Z t rt) (h2 : SimT K Z u ru) : SimT K Z (tOr t u) (dOr rt ru) := by
  intro M σ H Δ F Φ c h Q q
  refine h1 M σ H Δ F _ c h _ fun b H1 Δ1 M1 F1 e1 c1 k1 => ?_
  cases b with
  | false => exact iteF (h2 M1 σ H1 Δ1 F1 Φ c1 k1 Q fun b H2 Δ2 M2 F2 e2 c2 k2 => q b H2 Δ2 M2 F2 (e1.trans e2) c2 k2)
  | true => exact iteT (q true H1 Δ1 M1 F1 e1 c1 k1)
theorem qw_and1 (h : QT X Z a rt) : QW X Z (.BoolOp .And [a] pos) rt := by
  obtain ⟨t, p, s⟩ := h
  exact ⟨t, pw_and1 p, s⟩
theorem qw_or1 (h : QT X Z a rt) : QW X Z (.BoolOp .Or [a] pos) rt := by
  obtain ⟨t, p, s⟩ := h
  exact ⟨t, pw_or1 p, s⟩
theorem qw_and {rest : List Expr} (h : QT X Z a rt) (h2 : QW X Z (.BoolOp .And (b :: rest) pos) ru) : QW X Z (.BoolOp .And (a :: b :: rest) pos) (dAnd rt ru) := by
  obtain ⟨t, p, s⟩ := h
  obtain ⟨u, p2, s2⟩ := h2
  exact ⟨_, pw_and p p2, simT_and s s2⟩
theorem qw_or {rest : List Expr} (h : QT X Z a rt) (h2 : QW X Z (.BoolOp .Or (b :: rest) pos) ru) : QW X Z (.BoolOp .Or (a :: b :: rest) pos) (dOr rt ru) := by
  obtain ⟨t, p, s⟩ := h
  obtain ⟨u, p2, s2⟩ := h2
  exact ⟨_, pw_or p p2, simT_or s s2⟩
theorem QW.qt (h : QW X Z e rt) : QT X Z e rt := by
  obtain ⟨t, p, s⟩ := h
  exact ⟨t, p.pt, s⟩
/-- as values -/
def dB (r : RT) : RE := fun Δ M Φ => r Δ M fun b Δ1 M1 => Φ (.bl b) Δ1 M1
def dNotV (r : RE) : RE := fun Δ M Φ => r Δ M fun x Δ1 M1 => match x with
  | .bl b => Φ (.bl (!b)) Δ1 M1
  | _ => False
def dAndV (r u : RE) : RE := fun Δ M Φ => r Δ M fun x Δ1 M1 => match x with
  | .bl true => u Δ1 M1 Φ
  | .bl false => Φ (.bl false) Δ1 M1
  | _ => False
def dOrV (r u : RE) : RE := fun Δ M Φ => r Δ M fun x Δ1 M1 => match x with
  | .bl true => Φ (.bl true) Δ1 M1
  | .bl false => u Δ1 M1 Φ
  | _ => False
theorem qe_not (h : QE X Z e r) : QE X Z (.UnaryOp .Not e pos) (dNotV r) := by
  obtain ⟨t, p, s⟩ := h
  refine ⟨_, pe_not p, fun M σ H Δ F Φ c h Q q => ?_⟩
  refine s M σ H Δ F _ c h _ fun v H1 x Δ1 M1 F1 e1 c1 r1 h1 => ?_
  cases x with
  | bl b => exact ⟨b, r1, q _ H1 (.bl (!b)) Δ1 M1 F1 e1 c1 rfl h1⟩
  | _ => exact h1.elim
theorem qe_one {op} (h : QE X Z a r) : QE X Z (.BoolOp op [a] pos) r := by
  obtain ⟨t, p, s⟩ := h
  exact ⟨t, pe_one p, s⟩
theorem qe_and {rest : List Expr} (h : QE X Z a ra) (h2 : QE X Z (.BoolOp .And (b :: rest) pos) rb) : QE X Z (.BoolOp .And (a :: b :: rest) pos) (dAndV ra rb) := by
  obtain ⟨t, p, s⟩ := h
  obtain ⟨u, p2, s2⟩ := h2
  refine ⟨_, pe_and p p2, fun M σ H Δ F Φ c h Q q => ?_⟩
  refine s M σ H Δ F _ c h _ fun v H1 x Δ1 M1 F1 e1 c1 r1 h1 => ?_
  cases x with
  | bl b =>
    refine ⟨b, r1, ?_⟩
    cases b with
    | true => exact iteT (s2 M1 σ H1 Δ1 F1 Φ c1 h1 Q fun v H2 d Δ2 M2 F2 e2 c2 r2 k2 => q v H2 d Δ2 M2 F2 (e1.trans e2) c2 r2 k2)
    | false => exact iteF (q _ H1 (.bl false) Δ1 M1 F1 e1 c1 rfl h1)
  | _ => exact h1.elim
theorem qe_or {rest : List Expr} (h : QE X Z a ra) (h2 : QE X Z (.BoolOp .Or (b :: rest) pos) rb) : QE X Z (.BoolOp .Or (a :: b :: rest) pos) (dOrV ra rb) := by
  obtain ⟨t, p, s⟩ := h
  obtain ⟨u, p2, s2⟩ := h2
  refine ⟨_, pe_or p p2, fun M σ H Δ F Φ c h Q q => ?_⟩
  refine s M σ H Δ F _ c h _ fun v H1 x Δ1 M1 F1 e1 c1 r1 h1 => ?_
  cases x with
  | bl b =>
    refine ⟨b, r1, ?_⟩
    cases b with
    | true => exact iteT (q _ H1 (.bl true) Δ1 M1 F1 e1 c1 rfl h1)
    | false => exact iteF (s2 M1 σ H1 Δ1 F1 Φ c1 h1 Q fun v H2 d Δ2 M2 F2 e2 c2 r2 k2 => q v H2 d Δ2 M2 F2 (e1.trans e2) c2 r2 k2)
  | _ => exact h1.elim
/-- a if t else b -/
def dIf (t : RT) (ra rb : RE) : RE := fun Δ M Φ => t Δ M fun k Δ1 M1 => (k = true → ra Δ1 M1 Φ) ∧ (k = false → rb Δ1 M1 Φ)
theorem qe_if {t : Expr} (ht : QT X Z t rt) (ha : QE X Z a ra) (hb : QE X Z b rb) : QE X Z (.IfExp t a b pos) (dIf rt ra rb) := by
  obtain ⟨u, p, s⟩ := ht
  obtain ⟨ta, p1, s1⟩ := ha
  obtain ⟨tb, p2, s2⟩ := hb
  refine ⟨_, pe_ifExp p p1 p2, fun M σ H Δ F Φ c h Q q => ?_⟩
  refine s M σ H Δ F _ c h _ fun k H1 Δ1 M1 F1 e1 c1 h1 => ?_
  cases k with
  | true => exact iteT (s1 M1 σ H1 Δ1 F1 Φ c1 (h1.1 rfl) Q fun v H2 d Δ2 M2 F2 e2 c2 r2 k2 => q v H2 d Δ2 M2 F2 (e1.trans e2) c2 r2 k2)
  | false => exact iteF (s2 M1 σ H1 Δ1 F1 Φ c1 (h1.2 rfl) Q fun v H2 d Δ2 M2 F2 e2 c2 r2 k2 => q v H2 d Δ2 M2 F2 (e1.trans e2) c2 r2 k2)

/-! ### subscripts, len -/
def dIx : D → D → (D → Prop) → Prop := fun x y Φ => match x, y with
  | .lst ds, .int i => ∃ d, atI ds i = some d ∧ Φ d
  | .tup ds, .int i => ∃ d, atI ds i = some d ∧ Φ d
  | .scr ns, .int i => ∃ n, atI ns i = some n ∧ Φ (.int n)
  | .str z, .int i => z.length ≤ sizeLine ∧ ∃ k, atI z.cps.toList i = some k ∧ Φ (.str ⟨#[k]⟩)
  | _, _ => False
theorem atI_rps {F : Hp} {ds : List D} {vs : List V} {i : Int} {d : D} (h : Rps K F ds vs) (ha : atI ds i = some d) : ∃ v, atI vs i = some v ∧ Rp K F d v := by
  unfold atI at ha ⊢
  rw [rps_len h]
  cases hj : ixN ds.length i with
  | none => rw [hj] at ha; cases ha
  | some j =>
    rw [hj] at ha
    exact rps_get h ha
theorem atI_map {α β : Type} (f : α → β) {xs : List α} {i : Int} {x : α} (h : atI xs i = some x) : atI (xs.map f) i = some (f x) := by
  unfold atI at h ⊢
  rw [List.length_map]
  cases hj : ixN xs.length i with
  | none => rw [hj] at h; cases h
  | some j =>
    rw [hj] at h
    have h' : xs[j]? = some x := h
    show (xs.map f)[j]? = some (f x)
    rw [List.getElem?_map, h'] <;> rfl
theorem od_ix : OpD K (rIx K) dIx := by
  intro Z M σ H Δ F x y v w Φ c rx ry k Q q
  unfold dIx at k
  split at k
  · obtain ⟨a, vs, e1, h1, h2⟩ := rx
    obtain ⟨d, k1, k2⟩ := k
    obtain ⟨u, h3, h4⟩ := atI_rps h2 k1
    exact .inl ⟨a, vs, _, u, e1, ry, SqL.of (c.bs.fH _ _ h1), h3, q u H d F (Ex.refl _) c h4 k2⟩
  · obtain ⟨a, vs, e1, h1, h2⟩ := rx
    obtain ⟨d, k1, k2⟩ := k
    obtain ⟨u, h3, h4⟩ := atI_rps h2 k1
    exact .inr (.inl ⟨a, vs, _, u, e1, ry, Evl.ex_t c.bs.fH h1, h3, q u H d F (Ex.refl _) c h4 k2⟩)
  · obtain ⟨a, e1, h1⟩ := rx
    obtain ⟨n, k1, k2⟩ := k
    exact .inl ⟨a, _, _, .int n, e1, ry, Evl.ex_l c.bs.fH h1, atI_map V.int k1, q _ H (.int n) F (Ex.refl _) c rfl k2⟩
  · obtain ⟨k0, n, k1, k2⟩ := k
    exact .inr (.inr ⟨_, _, n, rx, ry, k0, k1, q _ H (.str _) F (Ex.refl _) c rfl k2⟩)
  · exact k.elim
theorem qe_ix (ha : QE X Z a ra) (hb : QE X Z b rb) (hs : PlainIx b := by intro _ _; rfl) : QE X Z (.Subscript a b pos) (dOp dIx ra rb) := by
  obtain ⟨ta, pa, sa⟩ := ha
  obtain ⟨tb, pb, sb⟩ := hb
  exact ⟨_, pe_ix ix_seq pa pb hs, sim_op od_ix sa sb⟩
/-- xs[i], xs an own list's name -/
def dIxV (j : Nat) (rb : RE) : RE := fun Δ M Φ => rb Δ M fun y Δ1 M1 => match Δ1[j]?, y with
  | some (.own ds), .int i => ∃ d, atI ds i = some d ∧ Φ d Δ1 M1
  | _, _ => False
/-- a slot that holds a list of its own -/
def isOwn (Δ : List Sl) (j : Nat) : Prop := ∃ ds, Δ[j]? = some (.own ds)
def dIxO (j : Nat) (rb : RE) : RE := fun Δ M Φ => isOwn Δ j ∧ dIxV j rb Δ M Φ
theorem qe_ixO (j : Nat) {x : Str} {p2 : Pos} (hb : QE X Z b rb) (hN : X.N[j]? = some x := by rfl) (hv : Vis X.env.scope x := by first | exact Or.inl rfl | exact Or.inr (Or.inl rfl) | exact Or.inr (Or.inr rfl)) (hd : (x == ("__debug__" : Str)) = false := by decide)
    (hcd : (x == ("__classdict__" : Str)) = false := by decide) (hs : PlainIx b := by intro _ _; rfl) : QE X Z (.Subscript (.Name x p2) b pos) (dIxO j rb) := by
  obtain ⟨tb, pb, sb⟩ := hb
  refine ⟨_, pe_ix ix_seq (pe_var (i := j) hN hv hd hcd) pb hs, ?_⟩
  rintro M σ H Δ F Φ c ⟨⟨ds0, h0⟩, h⟩ Q q
  obtain ⟨p0, vs0, hv0, _⟩ := c.slot j _ h0
  refine ⟨_, hv0, ?_⟩
  refine sb M σ H Δ F _ c h _ fun w H1 y Δ1 M1 F1 e1 c1 r1 h1 => ?_
  split at h1
  · rename_i ds i hd
    obtain ⟨d, k1, k2⟩ := h1
    obtain ⟨p, vs, e2, g1, g2, g3, g4, g5⟩ := c1.slot j _ hd
    rw [hv0] at e2
    cases e2
    obtain ⟨u, h3, h4⟩ := atI_rps g2 k1
    exact .inl ⟨p0, vs, _, u, rfl, r1, SqL.of g1, h3, q u H1 d Δ1 M1 F1 e1 c1 h4 k2⟩
  · exact h1.elim

/-! ### built-in functions on values -/
/-- a call on data that makes nothing but new frozen objects -/
def CallD (K : PySem.W.Frag) (rv : List V → Hp → VK → Prop) (dr : List D → (D → Prop) → Prop) : Prop := ∀ (Z : Zx) (M : Mem) (σ : L2.St) (H : Hp) (Δ : List Sl) (F : Hp) (xs : List D) (vs : List V) (Φ : D → Prop), Cn K Z M σ H Δ F → Rps K F xs vs → dr xs Φ →
  ∀ Q : VK, (∀ u H' d F', Ex F F' → Cn K Z M σ H' Δ F' → Rp K F' d u → Φ d → Q u H') → rv vs H Q
def dCB (dr : List D → (D → Prop) → Prop) (rl : RA) : RE := fun Δ M Φ => rl Δ M fun ds Δ1 M1 => dr ds fun d => Φ d Δ1 M1
theorem sim_cb {rv : List V → Hp → VK → Prop} {dr : List D → (D → Prop) → Prop} {t : TA} (hc : CallD K rv dr) (h : SimA K Z n t rl) : Sim K Z (tCB rv t) (dCB dr rl) := by
  intro M σ H Δ F Φ c k Q q
  refine h M σ H Δ F _ c k _ fun vs H1 ds Δ1 M1 F1 e1 c1 r1 hl h1 => ?_
  exact hc Z M1 σ H1 Δ1 F1 ds vs _ c1 r1 h1 Q fun u H2 d F2 e2 c2 r2 k2 => q u H2 d Δ1 M1 F2 (e1.trans e2) c2 r2 k2
theorem CallD.or {r1 r2 : List V → Hp → VK → Prop} {d1 d2 dr : List D → (D → Prop) → Prop} (h1 : CallD K r1 d1) (h2 : CallD K r2 d2) (h : ∀ xs Φ, dr xs Φ → d1 xs Φ ∨ d2 xs Φ) : CallD K (fun xs H Q => r1 xs H Q ∨ r2 xs H Q) dr := by
  intro Z M σ H Δ F xs vs Φ c rx k Q q
  rcases h xs Φ k with k | k
  · exact .inl (h1 Z M σ H Δ F xs vs Φ c rx k Q q)
  · exact .inr (h2 Z M σ H Δ F xs vs Φ c rx k Q q)
theorem qe_cb {id : String} {x : Str} {p : Pos} {rv : List V → Hp → VK → Prop} {dr : List D → (D → Prop) → Prop} (hr : CallR X (.builtin id) rv) (hd : CallD X.K rv dr) (hg : Gl X x) (hm : X.mg x = none) (hb : bootBuiltins x = some (.builtin id)) (ha : QA X Z n (e :: es) rl) (hn : x ≠ "__name__" := by decide) (hdb : (x == ("__debug__" : Str)) = false := by decide)
    (he : starEach (e :: es) X.env = (false, eval e X.env) :: starEach es X.env := by rfl) (hpl : (backTo pos (starEach es X.env)).any (·.1) = false := by rfl) : QE X Z (.Call (.Name x p) (e :: es) [] pos) (dCB dr rl) := by
  obtain ⟨t, pa, s⟩ := ha
  exact ⟨_, pe_callB hr hg hm hb pa hn hdb he hpl, sim_cb hd s⟩
theorem qe_cty {T : String} {x : Str} {p : Pos} {rv : List V → Hp → VK → Prop} {dr : List D → (D → Prop) → Prop} (hr : CallR X (.type T) rv) (hd : CallD X.K rv dr) (hg : Gl X x) (hm : X.mg x = none) (hb : bootBuiltins x = some (.type T)) (ha : QA X Z n (e :: es) rl) (hn : x ≠ "__name__" := by decide) (hdb : (x == ("__debug__" : Str)) = false := by decide)
    (he : starEach (e :: es) X.env = (false, eval e X.env) :: starEach es X.env := by rfl) (hpl : (backTo pos (starEach es X.env)).any (·.1) = false := by rfl) : QE X Z (.Call (.Name x p) (e :: es) [] pos) (dCB dr rl) := by
  obtain ⟨t, pa, s⟩ := ha
  exact ⟨_, pe_callTy hr hg hm hb pa hn hdb he hpl, sim_cb hd s⟩
/-- a module's own name for a built-in function -/
theorem qe_cbf {id : String} {x : Str} {p : Pos} {rv : List V → Hp → VK → Prop} {dr : List D → (D → Prop) → Prop} (hr : CallR X (.builtin id) rv) (hd : CallD X.K rv dr) (hg : Gl X x) (hm : X.mg x = some (.builtin id)) (ha : QA X Z n (e :: es) rl) (hdb : (x == ("__debug__" : Str)) = false := by decide)
    (he : starEach (e :: es) X.env = (false, eval e X.env) :: starEach es X.env := by rfl) (hpl : (backTo pos (starEach es X.env)).any (·.1) = false := by rfl) : QE X Z (.Call (.Name x p) (e :: es) [] pos) (dCB dr rl) := by
  obtain ⟨t, pa, s⟩ := ha
  exact ⟨_, pe_callBfun hr hg hm pa hdb he hpl, sim_cb hd s⟩
theorem vals1 {F : Hp} {x : D} {vs : List V} (h : Rps K F [x] vs) : ∃ v, vs = [v] ∧ Rp K F x v := by
  obtain ⟨v, r, e, h1, h2⟩ := h
  rw [show r = [] from h2] at e
  exact ⟨v, e, h1⟩
theorem vals2 {F : Hp} {x y : D} {vs : List V} (h : Rps K F [x, y] vs) : ∃ v w, vs = [v, w] ∧ Rp K F x v ∧ Rp K F y w := by
  obtain ⟨v, r, e, h1, h2⟩ := h
  obtain ⟨w, e2, h3⟩ := vals1 h2
  exact ⟨v, w, by rw [e, e2], h1, h3⟩
/-- len -/
def dLen : List D → (D → Prop) → Prop := fun xs Φ => match xs with
  | [.lst ds] => Φ (.int (ds.length : Nat))
  | [.tup ds] => Φ (.int (ds.length : Nat))
  | [.scr ns] => Φ (.int (ns.length : Nat))
  | [.str z] => z.length ≤ sizeLine ∧ Φ (.int (z.length : Nat))
  | _ => False
def rLenAll (K : PySem.W.Frag) : List V → Hp → VK → Prop := fun xs H Q => (∃ p ys, xs = [.ref p] ∧ (SqL K H p ys ∨ SqT K H p ys) ∧ Q (.int ys.length) H) ∨ (∃ z, xs = [.str z] ∧ z.length ≤ sizeLine ∧ Q (.int z.length) H)
theorem cr_lenAll : CallR X (.builtin "len") (rLenAll X.K) := CallR.or call_len_seq call_len_str
theorem cd_len : CallD K (rLenAll K) dLen := by
  intro Z M σ H Δ F xs vs Φ c rx k Q q
  unfold dLen at k
  split at k
  · obtain ⟨v, rfl, a, ws, e1, h1, h2⟩ := vals1 rx
    refine .inl ⟨a, ws, by rw [e1], .inl (SqL.of (c.bs.fH _ _ h1)), ?_⟩
    rw [rps_len h2]
    exact q _ H (.int _) F (Ex.refl _) c rfl k
  · obtain ⟨v, rfl, a, ws, e1, h1, h2⟩ := vals1 rx
    refine .inl ⟨a, ws, by rw [e1], .inr (Evl.ex_t c.bs.fH h1), ?_⟩
    rw [rps_len h2]
    exact q _ H (.int _) F (Ex.refl _) c rfl k
  · obtain ⟨v, rfl, a, e1, h1⟩ := vals1 rx
    refine .inl ⟨a, _, by rw [e1], .inl (Evl.ex_l c.bs.fH h1), ?_⟩
    rw [List.length_map]
    exact q _ H (.int _) F (Ex.refl _) c rfl k
  · obtain ⟨v, rfl, e1⟩ := vals1 rx
    exact .inr ⟨_, by rw [show v = _ from e1], k.1, q _ H (.int _) F (Ex.refl _) c rfl k.2⟩
  · exact k.elim
theorem qe_len {p : Pos} (hg : Gl X "len") (hm : X.mg "len" = none) (ha : QA X Z n (e :: es) rl) (he : starEach (e :: es) X.env = (false, eval e X.env) :: starEach es X.env := by rfl) (hpl : (backTo pos (starEach es X.env)).any (·.1) = false := by rfl) :
    QE X Z (.Call (.Name "len" p) (e :: es) [] pos) (dCB dLen rl) := qe_cb cr_lenAll cd_len hg hm boot_len ha (by decide) (by decide) he hpl
/-- len of an own list -/
def dLenO (j : Nat) : RE := fun Δ M Φ => match Δ[j]? with
  | some (.own ds) => Φ (.int (ds.length : Nat)) Δ M
  | _ => False
theorem qe_lenO (j : Nat) {x : Str} {p p2 : Pos} (hg : Gl X "len") (hm : X.mg "len" = none) (hN : X.N[j]? = some x := by rfl) (hv : Vis X.env.scope x := by first | exact Or.inl rfl | exact Or.inr (Or.inl rfl) | exact Or.inr (Or.inr rfl)) (hd : (x == ("__debug__" : Str)) = false := by decide)
    (hcd : (x == ("__classdict__" : Str)) = false := by decide) (he : starEach [.Name x p2] X.env = (false, eval (.Name x p2) X.env) :: starEach [] X.env := by rfl) (hpl : (backTo pos (starEach [] X.env)).any (·.1) = false := by rfl) :
    QE X Z (.Call (.Name "len" p) [.Name x p2] [] pos) (dLenO j) := by
  refine ⟨_, pe_callB cr_lenAll hg hm boot_len (pa_cons (pe_var (i := j) hN hv hd hcd) pa_nil he) (by decide) (by decide) he hpl, ?_⟩
  intro M σ H Δ F Φ c h Q q
  unfold dLenO at h
  split at h
  · rename_i ds hj
    obtain ⟨a, vs, hv0, g1, g2, _⟩ := c.slot j _ hj
    refine ⟨_, hv0, .inl ⟨a, vs, rfl, .inl (SqL.of g1), ?_⟩⟩
    rw [rps_len g2]
    exact q _ H (.int _) Δ M F (Ex.refl _) c rfl h
  · exact h.elim
/-- abs, int, gcd, max, min of ints -/
def dAbs : List D → (D → Prop) → Prop := fun xs Φ => match xs with
  | [.int i] => Φ (.int (if i < 0 then -i else i))
  | _ => False
def rAbs : List V → Hp → VK → Prop := fun xs H Q => ∃ i, xs = [.int i] ∧ Q (.int (if i < 0 then -i else i)) H
theorem cr_abs : CallR X (.builtin "abs") rAbs := call_abs
theorem cd_abs : CallD K rAbs dAbs := by
  intro Z M σ H Δ F xs vs Φ c rx k Q q
  unfold dAbs at k
  split at k
  · obtain ⟨v, rfl, e1⟩ := vals1 rx
    exact ⟨_, by rw [show v = _ from e1], q _ H (.int _) F (Ex.refl _) c rfl k⟩
  · exact k.elim
theorem qe_abs {p : Pos} (hg : Gl X "abs") (hm : X.mg "abs" = none) (ha : QA X Z n (e :: es) rl) (he : starEach (e :: es) X.env = (false, eval e X.env) :: starEach es X.env := by rfl) (hpl : (backTo pos (starEach es X.env)).any (·.1) = false := by rfl) :
    QE X Z (.Call (.Name "abs" p) (e :: es) [] pos) (dCB dAbs rl) := qe_cb cr_abs cd_abs hg hm (by decide +kernel) ha (by decide) (by decide) he hpl
def dInt : List D → (D → Prop) → Prop := fun xs Φ => match xs with
  | [.int i] => Φ (.int i)
  | [.bl k] => Φ (.int (if k then 1 else 0))
  | _ => False
def rInt : List V → Hp → VK → Prop := fun xs H Q => (∃ i, xs = [.int i] ∧ Q (.int i) H) ∨ ∃ k, xs = [.bl k] ∧ Q (.int (if k then 1 else 0)) H
theorem cr_int : CallR X (.type "int") rInt := call_int1
theorem cd_int : CallD K rInt dInt := by
  intro Z M σ H Δ F xs vs Φ c rx k Q q
  unfold dInt at k
  split at k
  · obtain ⟨v, rfl, e1⟩ := vals1 rx
    exact .inl ⟨_, by rw [show v = _ from e1], q _ H (.int _) F (Ex.refl _) c rfl k⟩
  · obtain ⟨v, rfl, e1⟩ := vals1 rx
    exact .inr ⟨_, by rw [show v = _ from e1], q _ H (.int _) F (Ex.refl _) c rfl k⟩
  · exact k.elim
theorem qe_int1 {p : Pos} (hg : Gl X "int") (hm : X.mg "int" = none) (ha : QA X Z n (e :: es) rl) (he : starEach (e :: es) X.env = (false, eval e X.env) :: starEach es X.env := by rfl) (hpl : (backTo pos (starEach es X.env)).any (·.1) = false := by rfl) :
    QE X Z (.Call (.Name "int" p) (e :: es) [] pos) (dCB dInt rl) := qe_cty cr_int cd_int hg hm (by decide +kernel) ha (by decide) (by decide) he hpl
def dI2 (g : Int → Int → D) : List D → (D → Prop) → Prop := fun xs Φ => match xs with
  | [.int i, .int j] => Φ (g i j)
  | _ => False
theorem cd_I2 {g : Int → Int → V} {g' : Int → Int → D} (hg : ∀ F i j, Rp K F (g' i j) (g i j)) : CallD K (fun xs H Q => ∃ i j, xs = [.int i, .int j] ∧ Q (g i j) H) (dI2 g') := by
  intro Z M σ H Δ F xs vs Φ c rx k Q q
  unfold dI2 at k
  split at k
  · obtain ⟨v, w, rfl, e1, e2⟩ := vals2 rx
    exact ⟨_, _, by rw [show v = _ from e1, show w = _ from e2], q _ H _ F (Ex.refl _) c (hg F _ _) k⟩
  · exact k.elim
theorem qe_gcd {p : Pos} {x : Str} (hg : Gl X x) (hm : X.mg x = some (.builtin "math.gcd")) (ha : QA X Z n (e :: es) rl) (hdb : (x == ("__debug__" : Str)) = false := by decide) (he : starEach (e :: es) X.env = (false, eval e X.env) :: starEach es X.env := by rfl) (hpl : (backTo pos (starEach es X.env)).any (·.1) = false := by rfl) :
    QE X Z (.Call (.Name x p) (e :: es) [] pos) (dCB (dI2 fun i j => .int ((Nat.gcd i.natAbs j.natAbs : Nat) : Int)) rl) := qe_cbf cr_gcd (cd_I2 fun _ _ _ => rfl) hg hm ha hdb he hpl
theorem qe_max2 {p : Pos} (hc : X.calm = true) (hg : Gl X "max") (hm : X.mg "max" = none) (ha : QA X Z n (e :: es) rl) (he : starEach (e :: es) X.env = (false, eval e X.env) :: starEach es X.env := by rfl) (hpl : (backTo pos (starEach es X.env)).any (·.1) = false := by rfl) :
    QE X Z (.Call (.Name "max" p) (e :: es) [] pos) (dCB (dI2 fun i j => .int (if j > i then j else i)) rl) := qe_cb (call_max2 hc) (cd_I2 fun _ _ _ => rfl) hg hm (by decide +kernel) ha (by decide) (by decide) he hpl
theorem qe_min2 {p : Pos} (hc : X.calm = true) (hg : Gl X "min") (hm : X.mg "min" = none) (ha : QA X Z n (e :: es) rl) (he : starEach (e :: es) X.env = (false, eval e X.env) :: starEach es X.env := by rfl) (hpl : (backTo pos (starEach es X.env)).any (·.1) = false := by rfl) :
    QE X Z (.Call (.Name "min" p) (e :: es) [] pos) (dCB (dI2 fun i j => .int (if j < i then j else i)) rl) := qe_cb (call_min2 hc) (cd_I2 fun _ _ _ => rfl) hg hm (by decide +kernel) ha (by decide) (by decide) he hpl
/-- -x -/
def dNeg (r : RE) : RE := fun Δ M Φ => r Δ M fun x Δ1 M1 => match x with
  | .int i => Φ (.int (-i)) Δ1 M1
  | _ => False
theorem qe_neg (h : QE X Z e r) : QE X Z (.UnaryOp .USub e pos) (dNeg r) := by
  obtain ⟨t, p, s⟩ := h
  refine ⟨_, pe_un un_neg p, fun M σ H Δ F Φ c h Q q => ?_⟩
  refine s M σ H Δ F _ c h _ fun v H1 x Δ1 M1 F1 e1 c1 r1 h1 => ?_
  cases x with
  | int i => exact ⟨i, r1, q _ H1 (.int (-i)) Δ1 M1 F1 e1 c1 rfl h1⟩
  | _ => exact h1.elim
/-- isinstance(x, T), T a built-in type -/
def D.ty : D → String
  | .non => "NoneType" | .bl _ => "bool" | .int _ => "int" | .str _ => "str" | .tup _ => "tuple" | .lst _ => "list" | .scr _ => "list" | .ref _ => "?"
def D.isDat : D → Prop
  | .bl _ | .int _ | .str _ | .tup _ | .lst _ => True
  | _ => False
def dIsi (T : String) (r : RE) : RE := fun Δ M Φ => r Δ M fun x Δ1 M1 => match x with
  | .bl _ | .int _ | .str _ | .tup _ | .lst _ => ∃ b, kitB x.ty T = some b ∧ Φ (.bl b) Δ1 M1
  | _ => False
theorem rp_tyx {F H : Hp} (e : Ex F H) {d : D} {v : V} (h : Rp K F d v) : d.isDat → TyX K H v (.type d.ty) := by
  intro hd
  cases d with
  | bl b => rw [show v = .bl b from h]; exact .base (.bl b)
  | int b => rw [show v = .int b from h]; exact .base (.int b)
  | str b => rw [show v = .str b from h]; exact .base (.str b)
  | tup ds =>
    obtain ⟨a, vs, e1, h1, h2⟩ := h
    rw [e1]
    rcases Evl.ex_t e h1 with (h1 | ⟨o, h1⟩) | ⟨o, its, n, hk, hc, _⟩
    · exact .base (.tup h1)
    · exact .fTuple h1
    · exact .kTuple hk hc
  | lst ds =>
    obtain ⟨a, vs, e1, h1, h2⟩ := h
    rw [e1]
    exact .base (.lst (e _ _ h1))
  | _ => exact hd.elim
theorem qe_isi {T : String} {x : Str} {p p2 : Pos} (h : QE X Z e r) (hg : Gl X "isinstance") (hm : X.mg "isinstance" = none) (hg2 : Gl X x) (hm2 : X.mg x = none) (hb : bootBuiltins x = some (.type T)) (hn : x ≠ "__name__" := by decide) (hdb : (x == ("__debug__" : Str)) = false := by decide)
    (he : starEach [e, .Name x p2] X.env = (false, eval e X.env) :: starEach [.Name x p2] X.env := by rfl) (he2 : starEach [.Name x p2] X.env = (false, eval (.Name x p2) X.env) :: starEach [] X.env := by rfl) (hpl : (backTo pos (starEach [.Name x p2] X.env)).any (·.1) = false := by rfl) :
    QE X Z (.Call (.Name "isinstance" p) [e, .Name x p2] [] pos) (dIsi T r) := by
  obtain ⟨t, pe, s⟩ := h
  refine ⟨_, pe_callB call_isi hg hm (by decide +kernel) (pa_cons pe (pa_cons (pe_bltn hg2 hm2 hb (v := .ty T) rfl hn hdb) pa_nil he2) he) (by decide) (by decide) he hpl, fun M σ H Δ F Φ c h Q q => ?_⟩
  refine s M σ H Δ F _ c h _ fun v H1 y Δ1 M1 F1 e1 c1 r1 h1 => ?_
  have hd : y.isDat ∧ ∃ b, kitB y.ty T = some b ∧ Φ (.bl b) Δ1 M1 := by
    cases y <;> first
      | exact ⟨True.intro, h1⟩
      | exact h1.elim
  obtain ⟨hd, b, k1, k2⟩ := hd
  exact ⟨v, .ty T, _, _, b, rfl, .ty T, rp_tyx c1.bs.fH r1 hd, kit_ty k1, q _ H1 (.bl b) Δ1 M1 F1 e1 c1 rfl k2⟩
end
end DL

set_option Elab.async false
set_option linter.all false
set_option maxRecDepth 100000
set_option maxHeartbeats 4000000
namespace DL
open PySem L2
open Evl (Ex)
section
variable {X : Cx} {Z : Zx} {e a b c : Expr} {ra rb rc r : RE} {rt ru : RT} {pos : Pos} {es : List Expr} {rl : RA} {n : Nat} {K : PySem.W.Frag} {st : Stmt} {sts : List Stmt} {s1 s2 s3 : RS}

/-! ### statements -/
def dNext : RS := fun D Δ M => D.nx Δ M
def dSeq (r u : RS) : RS := fun D Δ M => r { D with nx := fun Δ1 M1 => u D Δ1 M1 } Δ M
def dBrk : RS := fun D Δ M => D.bk Δ M
def dCt : RS := fun D Δ M => D.ct Δ M
theorem qss_nil : QSs X Z [] dNext := ⟨_, pss_nil, fun M σ H Δ F De c h Dv ok => ok.nx _ _ _ _ _ (Ex.refl _) c h⟩
theorem qss_one (h : QS X Z st s1) : QSs X Z [st] s1 := by
  obtain ⟨t, p, s⟩ := h
  exact ⟨t, pss_one p, s⟩
theorem simS_seq {t u : TS} (h1 : SimS K Z t s1) (h2 : SimS K Z u s2) : SimS K Z (tSeq t u) (dSeq s1 s2) := by
  intro M σ H Δ F De c h Dv ok
  exact h1 M σ H Δ F _ c h _ ⟨fun σ' H' Δ' M' F' e c' k => h2 M' σ' H' Δ' F' De c' k Dv (ok.mono e), ok.rt, ok.bk, ok.ct⟩
theorem qss_cons (h : QS X Z st s1) (h2 : QSs X Z sts s2) : QSs X Z (st :: sts) (dSeq s1 s2) := by
  obtain ⟨t, p, s⟩ := h
  obtain ⟨u, p2, s2⟩ := h2
  exact ⟨_, pss_cons p p2, simS_seq s s2⟩
theorem qs_pass : QS X Z (.Pass pos) dNext := ⟨_, ps_pass, fun M σ H Δ F De c h Dv ok => ok.nx _ _ _ _ _ (Ex.refl _) c h⟩
theorem qs_brk : QS X Z (.Break pos) dBrk := ⟨_, ps_break, fun M σ H Δ F De c h Dv ok => ok.bk _ _ _ _ _ (Ex.refl _) c h⟩
theorem qs_ct : QS X Z (.Continue pos) dCt := ⟨_, ps_continue, fun M σ H Δ F De c h Dv ok => ok.ct _ _ _ _ _ (Ex.refl _) c h⟩
theorem qs_doc {x j pos'} : QS X Z (.Expr (.Constant (.str x) j pos) pos') dNext := ⟨_, ps_doc, fun M σ H Δ F De c h Dv ok => ok.nx _ _ _ _ _ (Ex.refl _) c h⟩
def dRet (r : RE) : RS := fun D Δ M => r Δ M fun d _ M1 => D.rt d M1
theorem qs_ret (h : QE X Z e r) : QS X Z (.Return (some e) pos) (dRet r) := by
  obtain ⟨t, p, s⟩ := h
  refine ⟨_, ps_ret p, fun M σ H Δ F De c h Dv ok => ?_⟩
  exact s M σ H Δ F _ c h _ fun v H1 d Δ1 M1 F1 e1 c1 r1 h1 => ok.rt v H1 d M1 F1 e1 c1.bs r1 h1
def dRetN : RS := fun D _ M => D.rt .non M
theorem qs_retN : QS X Z (.Return none pos) dRetN := ⟨_, ps_retN, fun M σ H Δ F De c h Dv ok => ok.rt .non H .non M F (Ex.refl _) c.bs rfl h⟩
def dDrop (r : RE) : RS := fun D Δ M => r Δ M fun _ Δ1 M1 => D.nx Δ1 M1
theorem qs_expr (h : QE X Z e r) (hs : swapsWith e none pos.line X.env = pure false := by rfl) : QS X Z (.Expr e pos) (dDrop r) := by
  obtain ⟨t, p, s⟩ := h
  refine ⟨_, ps_expr p hs, fun M σ H Δ F De c h Dv ok => ?_⟩
  exact s M σ H Δ F _ c h _ fun v H1 d Δ1 M1 F1 e1 c1 r1 h1 => ok.nx σ H1 Δ1 M1 F1 e1 c1 h1
def dIfS (t : RT) (u v : RS) : RS := fun D Δ M => t Δ M fun k Δ1 M1 => (k = true → u D Δ1 M1) ∧ (k = false → v D Δ1 M1)
theorem qs_if {u v : List Stmt} (ht : QT X Z e rt) (h1 : QSs X Z u s1) (h2 : QSs X Z v s2) : QS X Z (.If e u v pos) (dIfS rt s1 s2) := by
  obtain ⟨t, p, s⟩ := ht
  obtain ⟨t1, p1, q1⟩ := h1
  obtain ⟨t2, p2, q2⟩ := h2
  refine ⟨_, ps_if p p1 p2, fun M σ H Δ F De c h Dv ok => ?_⟩
  refine s M σ H Δ F _ c h _ fun k H1 Δ1 M1 F1 e1 c1 h1 => ?_
  cases k with
  | true => exact iteT (q1 M1 σ H1 Δ1 F1 De c1 (h1.1 rfl) Dv (ok.mono e1))
  | false => exact iteF (q2 M1 σ H1 Δ1 F1 De c1 (h1.2 rfl) Dv (ok.mono e1))
/-- x = e -/
def dSet (i : Nat) (r : RE) : RS := fun D Δ M => r Δ M fun d Δ1 M1 => D.nx (Δ1.set i (.d d)) M1
theorem qs_set {i : Nat} {x : Str} {pos' : Pos} (hN : X.N.Nodup) (h : QE X Z e r) (hi : X.N[i]? = some x := by rfl) (hx : Loc X.env.scope x := by first | exact Or.inl rfl | exact Or.inr rfl) (hs : swapsWith e (some (.Name x pos')) pos.line X.env = pure false := by rfl)
    (hf : X.fn x = true ∨ X.env.scope.names.lookup x = some .local := by first | exact .inl rfl | exact .inr rfl) : QS X Z (.Assign [.Name x pos'] e pos) (dSet i r) := by
  obtain ⟨t, p, s⟩ := h
  refine ⟨_, ps_set (i := i) hN hi hx p hs hf, fun M σ H Δ F De c h Dv ok => ?_⟩
  exact s M σ H Δ F _ c h _ fun v H1 d Δ1 M1 F1 e1 c1 r1 h1 => ok.nx _ H1 _ M1 F1 e1 (c1.set r1 i) h1
/-- x = a new list, which x owns -/
def dSetO (i : Nat) (rl : RA) : RS := fun D Δ M => rl Δ M fun ds Δ1 M1 => D.nx (Δ1.set i (.own ds)) M1
theorem qs_setO {i : Nat} {x : Str} {pos' : Pos} (hN : X.N.Nodup) (h : QL X Z e rl) (hi : X.N[i]? = some x := by rfl) (hx : Loc X.env.scope x := by first | exact Or.inl rfl | exact Or.inr rfl) (hs : swapsWith e (some (.Name x pos')) pos.line X.env = pure false := by rfl)
    (hf : X.fn x = true ∨ X.env.scope.names.lookup x = some .local := by first | exact .inl rfl | exact .inr rfl) : QS X Z (.Assign [.Name x pos'] e pos) (dSetO i rl) := by
  obtain ⟨t, p, s⟩ := h
  refine ⟨_, ps_set (i := i) hN hi hx p hs hf, fun M σ H Δ F De c h Dv ok => ?_⟩
  exact s M σ H Δ F _ c h _ fun p H1 vs ds Δ1 M1 F1 e1 c1 hp r1 h1 => ok.nx _ _ _ M1 F1 e1 (c1.setOwn hp r1 i) h1
/-- x, y = e -/
def dUnp : List Nat → RE → RS := fun is r D Δ M => r Δ M fun x Δ1 M1 => match x with
  | .tup ds => ds.length = is.length ∧ D.nx ((is.zip ds).foldl (fun Δ p => Δ.set p.1 (.d p.2)) Δ1) M1
  | _ => False
/-- targets that are names -/
def gNames : List Nat → TGs
  | [] => gNil
  | i :: is => gCons (gName i) (gNames is)
theorem simG_names {M : Mem} {H F : Hp} {Q : L2.St → Hp → Prop} : ∀ (is : List Nat) (ds : List D) (vs : List V) (σ : L2.St) (Δ : List Sl), Cn K Z M σ H Δ F → Rps K F ds vs → ds.length = is.length →
    (∀ σ', Cn K Z M σ' H ((is.zip ds).foldl (fun Δ p => Δ.set p.1 (.d p.2)) Δ) F → Q σ' H) → gNames is vs σ H Q
  | [], ds, vs, σ, Δ, c, r, hl, q => by
    have e : ds = [] := List.length_eq_zero_iff.mp hl
    subst e
    exact ⟨r, q σ c⟩
  | i :: is, [], vs, σ, Δ, c, r, hl, q => by cases hl
  | i :: is, d :: ds, vs, σ, Δ, c, r, hl, q => by
    obtain ⟨v, ws, e, h1, h2⟩ := r
    exact ⟨v, ws, e, simG_names is ds ws _ _ (c.set h1 i) h2 (by simpa using hl) q⟩
theorem qs_unp {is : List Nat} {tgs : List Expr} {k : Nat} {tp : Pos} (hc : X.calm = true) (h : QE X Z e r) (hg : PGs X tgs (gNames is)) (hn : tgs.length = is.length := by rfl) (hs : swapsWithSole [.Tuple tgs k tp] e pos.line X.env = pure false := by rfl) (hw : swappedStores [.Tuple tgs k tp] e X.env = pure none := by rfl)
    (hp : tgs.length = is.length := by rfl)
    (hpg : PGs X tgs (gNames is) → PG X (.Tuple tgs k tp) (gTup X.K is.length (gNames is)) := by intro hg; exact pg_tup rfl hg) : QS X Z (.Assign [.Tuple tgs k tp] e pos) (dUnp is r) := by
  obtain ⟨t, p, s⟩ := h
  refine ⟨_, ps_asg p (hpg hg) hs hw, fun M σ H Δ F De c h Dv ok => ?_⟩
  refine s M σ H Δ F _ c h _ fun v H1 x Δ1 M1 F1 e1 c1 r1 h1 => ?_
  cases x with
  | tup ds =>
    obtain ⟨a, vs, e2, h2, h3⟩ := r1
    refine ⟨a, vs, e2, Evl.ex_t c1.bs.fH h2, by rw [rps_len h3]; exact h1.1, ?_⟩
    exact simG_names is ds vs σ Δ1 c1 h3 h1.1 fun σ' c' => ok.nx σ' H1 _ M1 F1 e1 c' h1.2
  | _ => exact h1.elim
/-- x, y = a, b -/
def dPar (i j : Nat) (rl : RA) : RS := fun D Δ M => rl Δ M fun ds Δ1 M1 => match ds with
  | [x, y] => D.nx ((Δ1.set i (.d x)).set j (.d y)) M1
  | _ => False
theorem qs_par {i j : Nat} {x y : Str} {px py pt : Pos} {kt k2 pt2} (hN : X.N.Nodup) (h : QA X Z 2 [a, b] rl) (hc : X.calm = true := by rfl) (hi : X.N[i]? = some x := by rfl) (hj : X.N[j]? = some y := by rfl) (hij : i ≠ j := by decide) (hx : X.env.scope.names.lookup x = some .local := by rfl) (hy : X.env.scope.names.lookup y = some .local := by rfl)
    (hw : swappedStores [.Tuple [.Name x px, .Name y py] kt pt] (.Tuple [a, b] k2 pt2) X.env = pure (some [x, y]) := by rfl)
    (hs : swapsWithSole [.Tuple [.Name x px, .Name y py] kt pt] (.Tuple [a, b] k2 pt2) pos.line X.env = pure false := by rfl) : QS X Z (.Assign [.Tuple [.Name x px, .Name y py] kt pt] (.Tuple [a, b] k2 pt2) pos) (dPar i j rl) := by
  obtain ⟨t, p, s⟩ := h
  refine ⟨_, ps_par hc hN hi hj hij hx hy p hw hs, fun M σ H Δ F De c h Dv ok => ?_⟩
  refine s M σ H Δ F _ c h _ fun vs H1 ds Δ1 M1 F1 e1 c1 r1 hl h1 => ?_
  match ds, r1, h1 with
  | [d1, d2], r1, h1 =>
    obtain ⟨v, w, e2, q1, q2⟩ := vals2 r1
    exact ⟨v, w, e2, ok.nx _ H1 _ M1 F1 e1 ((c1.set q1 i).set q2 j) h1⟩
/-- x += e -/
def dAug (i : Nat) (dr : D → D → (D → Prop) → Prop) (r : RE) : RS := fun D Δ M => match Δ[i]? with
  | some (.d x) => r Δ M fun y Δ1 M1 => dr x y fun z => D.nx (Δ1.set i (.d z)) M1
  | _ => False
theorem qs_aug {i : Nat} {x : Str} {pos' : Pos} {op : Operator} {ti : TIp} {dr : D → D → (D → Prop) → Prop} (ho : PIp X op ti) (hd : OpD X.K ti dr) (hN : X.N.Nodup) (h : QE X Z e r) (hi : X.N[i]? = some x := by rfl) (hx : Loc X.env.scope x := by first | exact Or.inl rfl | exact Or.inr rfl)
    (hf : X.fn x = true ∨ X.env.scope.names.lookup x = some .local := by first | exact .inl rfl | exact .inr rfl) : QS X Z (.AugAssign (.Name x pos') op e pos) (dAug i dr r) := by
  obtain ⟨t, p, s⟩ := h
  refine ⟨_, ps_aug (i := i) hN hi hx p ho hf, fun M σ H Δ F De c h Dv ok => ?_⟩
  unfold dAug at h
  split at h
  · rename_i x0 hj
    obtain ⟨v, hv, rv⟩ := c.slot i _ hj
    refine ⟨v, hv, ?_⟩
    refine s M σ H Δ F _ c h _ fun w H1 y Δ1 M1 F1 e1 c1 r1 h1 => ?_
    exact hd Z M1 σ H1 Δ1 F1 x0 y v w _ c1 (rp_mono e1 _ _ rv) r1 h1 _ fun u H2 d F2 e2 c2 r2 k2 => ok.nx _ H2 _ M1 F2 (e1.trans e2) (c2.set r2 i) k2
  · exact h.elim
def dPlus : D → D → (D → Prop) → Prop := dI fun i j => .int (i + j)
def dMinus : D → D → (D → Prop) → Prop := dI fun i j => .int (i - j)
theorem od_ip {g : Int → Int → Int} : OpD K (ipI g) (dI fun i j => .int (g i j)) := by
  intro Z M σ H Δ F x y v w Φ c rx ry k Q q
  unfold dI at k
  split at k
  · exact ⟨_, _, rx, ry, q _ H (.int _) F (Ex.refl _) c rfl k⟩
  · exact k.elim
theorem qs_inc {i : Nat} {x : Str} {pos' : Pos} (hN : X.N.Nodup) (h : QE X Z e r) (hi : X.N[i]? = some x := by rfl) (hx : Loc X.env.scope x := by first | exact Or.inl rfl | exact Or.inr rfl)
    (hf : X.fn x = true ∨ X.env.scope.names.lookup x = some .local := by first | exact .inl rfl | exact .inr rfl) : QS X Z (.AugAssign (.Name x pos') .Add e pos) (dAug i dPlus r) := qs_aug ip_add od_ip hN h hi hx hf
/-- x.append(e), x an own list -/
def dApp (j : Nat) (r : RE) : RS := fun D Δ M => isOwn Δ j ∧ r Δ M fun d Δ1 M1 => match Δ1[j]? with
  | some (.own ds) => ds.length < sizeLine ∧ D.nx (Δ1.set j (.own (ds ++ [d]))) M1
  | _ => False
theorem qs_app {j : Nat} {x : Str} {p1 p2 pos' : Pos} (h : QE X Z e r) (hN : X.N[j]? = some x := by rfl) (hv : Vis X.env.scope x := by first | exact Or.inl rfl | exact Or.inr (Or.inl rfl) | exact Or.inr (Or.inr rfl)) (hd : (x == ("__debug__" : Str)) = false := by decide) (hcd : (x == ("__classdict__" : Str)) = false := by decide)
    (hpe : ∀ t, PE X e t → PE X (.Call (.Attribute (.Name x p1) "append" p2) [e] [] pos) (tBM X.K "list" rAppend (tVar j) (tCons t tNil)) := by intro t ht; exact pe_bm PySem.F.plainAttrs_list PySem.F.slot_list_append PySem.F.type_list_append mt_append (pv _) (pa_cons ht pa_nil))
    (hs : swapsWith (.Call (.Attribute (.Name x p1) "append" p2) [e] [] pos) none pos'.line X.env = pure false := by rfl) : QS X Z (.Expr (.Call (.Attribute (.Name x p1) "append" p2) [e] [] pos) pos') (dApp j r) := by
  obtain ⟨t, p, s⟩ := h
  refine ⟨_, ps_expr (hpe t p) hs, ?_⟩
  rintro M σ H Δ F De c ⟨⟨ds0, h0⟩, h⟩ Dv ok
  obtain ⟨a, vs0, hv0, g0, _⟩ := c.slot j _ h0
  refine ⟨_, hv0, .inl ⟨rfl, _, SqL.of g0⟩, ?_⟩
  refine s M σ H Δ F _ c h _ fun w H1 y Δ1 M1 F1 e1 c1 r1 h1 => ?_
  split at h1
  · rename_i ds hj
    obtain ⟨a', vs, hv1, g1, g2, g3, g4, g5⟩ := c1.slot j _ hj
    rw [hv0] at hv1
    cases hv1
    refine ⟨a, vs, w, rfl, rfl, g1, by rw [rps_len g2]; exact h1.1, ?_⟩
    exact ok.nx σ _ _ M1 F1 e1 (c1.change hj hv0 g3 g4 g5 (rps_app g2 (rps_one r1))) h1.2
  · exact h1.elim

/-! ### loops -/
def fgt : List Nat → List Sl → List Sl
  | [], Δ => Δ
  | j :: js, Δ => fgt js (Δ.set j .un)
theorem cn_fgt {M : Mem} {σ : L2.St} {H F : Hp} : ∀ (js : List Nat) (Δ : List Sl), Cn K Z M σ H Δ F → Cn K Z M σ H (fgt js Δ) F
  | [], _, c => c
  | j :: js, Δ, c => cn_fgt js _ (c.drop j)
/-- a loop over the items xs, the target in slot j; js: slots that are forgotten at each turn's end; Pv: what holds between the turns -/
def dLoop (j : Nat) (js : List Nat) (xs : List D) (u : RS) : RS := fun D Δ M => ∃ Pv : Nat → List Sl → Mem → Prop, Pv 0 (fgt js Δ) M ∧
  (∀ i d Δ1 M1, xs[i]? = some d → Pv i Δ1 M1 → u { D with nx := fun Δ2 M2 => Pv (i + 1) (fgt js Δ2) M2, ct := fun Δ2 M2 => Pv (i + 1) (fgt js Δ2) M2, bk := D.nx } (Δ1.set j (.d d)) M1) ∧ ∀ Δ1 M1, Pv xs.length Δ1 M1 → D.nx Δ1 M1
theorem endsLoop {F F1 : Hp} {De : DE} {Dv : Ends} {js : List Nat} {i : Nat} {Pv : Nat → List Sl → Mem → Prop} (ok : EndsOk K Z F De Dv) (e : Ex F F1) {N : L2.St → Hp → Prop} (hN : ∀ σ H Δ M F', Ex F1 F' → Cn K Z M σ H Δ F' → Pv (i + 1) Δ M → N σ H) :
    EndsOk K Z F1 { De with nx := fun Δ2 M2 => Pv (i + 1) (fgt js Δ2) M2, ct := fun Δ2 M2 => Pv (i + 1) (fgt js Δ2) M2, bk := De.nx } { Dv with nx := N, ct := N, bk := Dv.nx } :=
  ⟨fun σ' H' Δ' M' F' e1 c' k => hN _ _ _ _ _ e1 (cn_fgt js _ c') k, (ok.mono e).rt, (ok.mono e).nx, fun σ' H' Δ' M' F' e1 c' k => hN _ _ _ _ _ e1 (cn_fgt js _ c') k⟩
theorem loop_list {a : Addr} {xs : List V} {ds : List D} {j : Nat} {js : List Nat} {t : TS} {u : RS} (hu : SimS K Z t u) {M : Mem} {σ : L2.St} {H F : Hp} {Δ : List Sl} {De : DE} {Dv : Ends} (c : Cn K Z M σ H Δ F)
    (hx : SqL K F a xs) (hr : Rps K F ds xs) (h : dLoop j js ds u De Δ M) (ok : EndsOk K Z F De Dv) :
    ∃ W : Nat → Nat → L2.St → Hp → Prop, (∃ m, W 0 m σ H) ∧ ∀ i m σ H, W i m σ H →
      ((Itl K a).stop i H ∧ Dv.nx σ H) ∨ ((Itl K a).go i H ∧ ∃ N : L2.St → Hp → Prop, (∀ σ' H', N σ' H' → ∃ m', m' < m ∧ W (i + 1) m' σ' H') ∧ ∀ x H', (Itl K a).yld i H x H' → gName j x σ H' fun σ2 H2 => t { Dv with nx := N, ct := N, bk := Dv.nx } σ2 H2) := by
  obtain ⟨Pv, h0, hs, hd⟩ := h
  have hlen : xs.length = ds.length := rps_len hr
  refine for_list (K := K) (a := a) (xs := xs) (fun i σ H => ∃ Δ M F', Ex F F' ∧ Cn K Z M σ H Δ F' ∧ Pv i Δ M) ⟨_, M, F, Ex.refl _, cn_fgt js _ c, h0⟩ ?_ ?_ ?_
  · rintro i σ H _ ⟨Δ, M, F', e, c, _⟩
    exact Evl.ex_l c.bs.fH (Evl.ex_l e hx)
  · rintro i x σ H hi ⟨Δ, M, F', e, c, hp⟩
    obtain ⟨d, hd', r⟩ := rps_get' (rps_mono e _ _ hr) hi
    exact hu M _ H _ F' _ (c.set r j) (hs i d Δ M hd' hp) _ (endsLoop (js := js) (Pv := Pv) ok e fun σ' H' Δ' M' F'' e1 c' k => ⟨Δ', M', F'', e.trans e1, c', k⟩)
  · rintro σ H ⟨Δ, M, F', e, c, hp⟩
    rw [hlen] at hp
    exact ok.nx σ H Δ M F' e c (hd _ _ hp)
theorem loop_tup {a : Addr} {xs : List V} {ds : List D} {j : Nat} {js : List Nat} {t : TS} {u : RS} (hu : SimS K Z t u) {M : Mem} {σ : L2.St} {H F : Hp} {Δ : List Sl} {De : DE} {Dv : Ends} (c : Cn K Z M σ H Δ F)
    (hx : SqT K F a xs) (hr : Rps K F ds xs) (h : dLoop j js ds u De Δ M) (ok : EndsOk K Z F De Dv) :
    ∃ W : Nat → Nat → L2.St → Hp → Prop, (∃ m, W 0 m σ H) ∧ ∀ i m σ H, W i m σ H →
      ((Itt K a).stop i H ∧ Dv.nx σ H) ∨ ((Itt K a).go i H ∧ ∃ N : L2.St → Hp → Prop, (∀ σ' H', N σ' H' → ∃ m', m' < m ∧ W (i + 1) m' σ' H') ∧ ∀ x H', (Itt K a).yld i H x H' → gName j x σ H' fun σ2 H2 => t { Dv with nx := N, ct := N, bk := Dv.nx } σ2 H2) := by
  obtain ⟨Pv, h0, hs, hd⟩ := h
  have hlen : xs.length = ds.length := rps_len hr
  refine for_tup (K := K) (a := a) (xs := xs) (fun i σ H => ∃ Δ M F', Ex F F' ∧ Cn K Z M σ H Δ F' ∧ Pv i Δ M) ⟨_, M, F, Ex.refl _, cn_fgt js _ c, h0⟩ ?_ ?_ ?_
  · rintro i σ H _ ⟨Δ, M, F', e, c, _⟩
    exact Evl.ex_t c.bs.fH (Evl.ex_t e hx)
  · rintro i x σ H hi ⟨Δ, M, F', e, c, hp⟩
    obtain ⟨d, hd', r⟩ := rps_get' (rps_mono e _ _ hr) hi
    exact hu M _ H _ F' _ (c.set r j) (hs i d Δ M hd' hp) _ (endsLoop (js := js) (Pv := Pv) ok e fun σ' H' Δ' M' F'' e1 c' k => ⟨Δ', M', F'', e.trans e1, c', k⟩)
  · rintro σ H ⟨Δ, M, F', e, c, hp⟩
    rw [hlen] at hp
    exact ok.nx σ H Δ M F' e c (hd _ _ hp)
def rangeD (lo : Int) (n : Nat) : List D := (List.range n).map fun i => .int (lo + (i : Nat))
theorem rangeD_get {lo : Int} {n i : Nat} (h : i < n) : (rangeD lo n)[i]? = some (.int (lo + (i : Nat))) := by
  unfold rangeD
  rw [List.getElem?_map, List.getElem?_range h] <;> rfl
theorem rangeD_len {lo : Int} {n : Nat} : (rangeD lo n).length = n := by
  unfold rangeD
  rw [List.length_map, List.length_range]
theorem loop_range {lo : Int} {m : Nat} {j : Nat} {js : List Nat} {t : TS} {u : RS} (hu : SimS K Z t u) {M : Mem} {σ : L2.St} {H F : Hp} {Δ : List Sl} {De : DE} {Dv : Ends} (c : Cn K Z M σ H Δ F)
    (h : dLoop j js (rangeD lo m) u De Δ M) (ok : EndsOk K Z F De Dv) :
    ∃ W : Nat → Nat → L2.St → Hp → Prop, (∃ m, W 0 m σ H) ∧ ∀ i k σ H, W i k σ H →
      ((Itr lo m).stop i H ∧ Dv.nx σ H) ∨ ((Itr lo m).go i H ∧ ∃ N : L2.St → Hp → Prop, (∀ σ' H', N σ' H' → ∃ m', m' < k ∧ W (i + 1) m' σ' H') ∧ ∀ x H', (Itr lo m).yld i H x H' → gName j x σ H' fun σ2 H2 => t { Dv with nx := N, ct := N, bk := Dv.nx } σ2 H2) := by
  obtain ⟨Pv, h0, hs, hd⟩ := h
  refine for_range (lo := lo) (n := m) (fun i σ H => ∃ Δ M F', Ex F F' ∧ Cn K Z M σ H Δ F' ∧ Pv i Δ M) ⟨_, M, F, Ex.refl _, cn_fgt js _ c, h0⟩ ?_ ?_
  · rintro i σ H hi ⟨Δ, M, F', e, c, hp⟩
    exact hu M _ H _ F' _ (c.set (d := .int (lo + (i : Nat))) rfl j) (hs i _ Δ M (rangeD_get hi) hp) _ (endsLoop (js := js) (Pv := Pv) ok e fun σ' H' Δ' M' F'' e1 c' k => ⟨Δ', M', F'', e.trans e1, c', k⟩)
  · rintro σ H ⟨Δ, M, F', e, c, hp⟩
    rw [rangeD_len] at hd
    exact ok.nx σ H Δ M F' e c (hd _ _ hp)
/-- for x in e: a list, a tuple (which, the writer says) -/
def dForL (j : Nat) (js : List Nat) (r : RE) (u : RS) : RS := fun D Δ M => r Δ M fun x Δ1 M1 => match x with
  | .lst ds => dLoop j js ds u D Δ1 M1
  | .scr ns => dLoop j js (ns.map .int) u D Δ1 M1
  | _ => False
def dForT (j : Nat) (js : List Nat) (r : RE) (u : RS) : RS := fun D Δ M => r Δ M fun x Δ1 M1 => match x with
  | .tup ds => dLoop j js ds u D Δ1 M1
  | _ => False
theorem qs_forL {j : Nat} {js : List Nat} {x : Str} {px : Pos} {body : List Stmt} {iter : Expr} {u : RS} (hp : PassesOwn (model X.prog X.w) X.A X.env X.xe) (hc : X.calm = true) (hN : X.N.Nodup) (h : QE X Z iter r) (hb : QSs X Z body u) (hi : X.N[j]? = some x := by rfl) (hx : Loc X.env.scope x := by first | exact Or.inl rfl | exact Or.inr rfl)
    (hf : X.fn x = true ∨ X.env.scope.names.lookup x = some .local := by first | exact .inl rfl | exact .inr rfl) (hs : ∀ x, foldedSetIterable iter X.env x = pure x := by intro _; rfl) : QS X Z (.For (.Name x px) iter body [] pos) (dForL j js r u) := by
  obtain ⟨t, p, s⟩ := h
  obtain ⟨tb, pb, sb⟩ := hb
  refine ⟨_, ps_for hp hc (pi_list p) (pg_name (i := j) hN hi hx hf) pb hs, fun M σ H Δ F De c h Dv ok => ?_⟩
  refine s M σ H Δ F _ c h _ fun v H1 y Δ1 M1 F1 e1 c1 r1 h1 => ?_
  cases y with
  | lst ds =>
    obtain ⟨a, vs, e2, g1, g2⟩ := r1
    exact ⟨a, e2, ⟨_, SqL.of (c1.bs.fH _ _ g1)⟩, loop_list sb c1 (SqL.of g1) g2 h1 (ok.mono e1)⟩
  | scr ns =>
    obtain ⟨a, e2, g1⟩ := r1
    exact ⟨a, e2, ⟨_, Evl.ex_l c1.bs.fH g1⟩, loop_list sb c1 g1 (ints_rps ns) h1 (ok.mono e1)⟩
  | _ => exact h1.elim
theorem qs_forT {j : Nat} {js : List Nat} {x : Str} {px : Pos} {body : List Stmt} {iter : Expr} {u : RS} (hp : PassesOwn (model X.prog X.w) X.A X.env X.xe) (hc : X.calm = true) (hN : X.N.Nodup) (h : QE X Z iter r) (hb : QSs X Z body u) (hi : X.N[j]? = some x := by rfl) (hx : Loc X.env.scope x := by first | exact Or.inl rfl | exact Or.inr rfl)
    (hf : X.fn x = true ∨ X.env.scope.names.lookup x = some .local := by first | exact .inl rfl | exact .inr rfl) (hs : ∀ x, foldedSetIterable iter X.env x = pure x := by intro _; rfl) : QS X Z (.For (.Name x px) iter body [] pos) (dForT j js r u) := by
  obtain ⟨t, p, s⟩ := h
  obtain ⟨tb, pb, sb⟩ := hb
  refine ⟨_, ps_for hp hc (pi_tup p) (pg_name (i := j) hN hi hx hf) pb hs, fun M σ H Δ F De c h Dv ok => ?_⟩
  refine s M σ H Δ F _ c h _ fun v H1 y Δ1 M1 F1 e1 c1 r1 h1 => ?_
  cases y with
  | tup ds =>
    obtain ⟨a, vs, e2, g1, g2⟩ := r1
    exact ⟨a, e2, ⟨_, Evl.ex_t c1.bs.fH g1⟩, loop_tup sb c1 g1 g2 h1 (ok.mono e1)⟩
  | _ => exact h1.elim
/-- for x in range(e), range(a, b) -/
def dForR (j : Nat) (js : List Nat) (r : RE) (u : RS) : RS := fun D Δ M => r Δ M fun x Δ1 M1 => match x with
  | .int k => (-(2 ^ 62) ≤ k ∧ k < 2 ^ 62) ∧ dLoop j js (rangeD 0 k.toNat) u D Δ1 M1
  | _ => False
def dForR2 (j : Nat) (js : List Nat) (ra rb : RE) (u : RS) : RS := fun D Δ M => ra Δ M fun x Δ1 M1 => rb Δ1 M1 fun y Δ2 M2 => match x, y with
  | .int lo, .int hi => (-(2 ^ 62) ≤ lo ∧ lo < 2 ^ 62 ∧ -(2 ^ 62) ≤ hi ∧ hi < 2 ^ 62) ∧ dLoop j js (rangeD lo (hi - lo).toNat) u D Δ2 M2
  | _, _ => False
theorem qs_forR {j : Nat} {js : List Nat} {x : Str} {px p1 p2 : Pos} {body : List Stmt} {u : RS} (hp : PassesOwn (model X.prog X.w) X.A X.env X.xe) (hc : X.calm = true) (hN : X.N.Nodup) (hg : Gl X "range") (hm : X.mg "range" = none) (h : QE X Z e r) (hb : QSs X Z body u) (hi : X.N[j]? = some x := by rfl) (hx : Loc X.env.scope x := by first | exact Or.inl rfl | exact Or.inr rfl)
    (hf : X.fn x = true ∨ X.env.scope.names.lookup x = some .local := by first | exact .inl rfl | exact .inr rfl) (hs : ∀ x, foldedSetIterable (.Call (.Name "range" p1) [e] [] p2) X.env x = pure x := by intro _; rfl) (hst : starEach [e] X.env = [(false, eval e X.env)] := by rfl) : QS X Z (.For (.Name x px) (.Call (.Name "range" p1) [e] [] p2) body [] pos) (dForR j js r u) := by
  obtain ⟨t, p, s⟩ := h
  obtain ⟨tb, pb, sb⟩ := hb
  refine ⟨_, ps_for hp hc (pi_range1 hg hm (pa_cons p pa_nil hst) hst) (pg_name (i := j) hN hi hx hf) pb hs, fun M σ H Δ F De c h Dv ok => ?_⟩
  refine s M σ H Δ F _ c h _ fun v H1 y Δ1 M1 F1 e1 c1 r1 h1 => ?_
  cases y with
  | int k => exact ⟨k, by rw [show v = .int k from r1], h1.1.1, h1.1.2, loop_range sb c1 h1.2 (ok.mono e1)⟩
  | _ => exact h1.elim
theorem qs_forR2 {j : Nat} {js : List Nat} {x : Str} {px p1 p2 : Pos} {body : List Stmt} {u : RS} (hp : PassesOwn (model X.prog X.w) X.A X.env X.xe) (hc : X.calm = true) (hN : X.N.Nodup) (hg : Gl X "range") (hm : X.mg "range" = none) (ha : QE X Z a ra) (hb' : QE X Z b rb) (hb : QSs X Z body u) (hi : X.N[j]? = some x := by rfl) (hx : Loc X.env.scope x := by first | exact Or.inl rfl | exact Or.inr rfl)
    (hf : X.fn x = true ∨ X.env.scope.names.lookup x = some .local := by first | exact .inl rfl | exact .inr rfl) (hs : ∀ x, foldedSetIterable (.Call (.Name "range" p1) [a, b] [] p2) X.env x = pure x := by intro _; rfl) (hst : starEach [a, b] X.env = [(false, eval a X.env), (false, eval b X.env)] := by rfl) (hst1 : starEach [a, b] X.env = (false, eval a X.env) :: starEach [b] X.env := by rfl) (hst2 : starEach [b] X.env = [(false, eval b X.env)] := by rfl) :
    QS X Z (.For (.Name x px) (.Call (.Name "range" p1) [a, b] [] p2) body [] pos) (dForR2 j js ra rb u) := by
  obtain ⟨t, p, s⟩ := ha
  obtain ⟨t', p', s'⟩ := hb'
  obtain ⟨tb, pb, sb⟩ := hb
  refine ⟨_, ps_for hp hc (pi_range2 hg hm (pa_cons p (pa_cons p' pa_nil hst2) hst1) hst hst2) (pg_name (i := j) hN hi hx hf) pb hs, fun M σ H Δ F De c h Dv ok => ?_⟩
  refine s M σ H Δ F _ c h _ fun v H1 y Δ1 M1 F1 e1 c1 r1 h1 => ?_
  refine s' M1 σ H1 Δ1 F1 _ c1 h1 _ fun v2 H2 y2 Δ2 M2 F2 e2 c2 r2 h2 => ?_
  split at h2
  · exact ⟨_, _, by rw [show v = _ from r1, show v2 = _ from r2], h2.1, loop_range sb c2 h2.2 (ok.mono (e1.trans e2))⟩
  · exact h2.elim
/-- while c -/
def dWhile (js : List Nat) (t : RT) (u : RS) : RS := fun D Δ M => ∃ Pv : Nat → List Sl → Mem → Prop, (∃ m, Pv m (fgt js Δ) M) ∧ ∀ m Δ1 M1, Pv m Δ1 M1 → t Δ1 M1 fun k Δ2 M2 =>
  (k = true → u { D with nx := fun Δ3 M3 => ∃ m', m' < m ∧ Pv m' (fgt js Δ3) M3, ct := fun Δ3 M3 => ∃ m', m' < m ∧ Pv m' (fgt js Δ3) M3, bk := D.nx } Δ2 M2) ∧ (k = false → D.nx Δ2 M2)
theorem qs_while {js : List Nat} {body : List Stmt} {u : RS} (hp : PassesOwn (model X.prog X.w) X.A X.env X.xe) (ht : QT X Z e rt) (hb : QSs X Z body u) : QS X Z (.While e body [] pos) (dWhile js rt u) := by
  obtain ⟨t, p, s⟩ := ht
  obtain ⟨tb, pb, sb⟩ := hb
  refine ⟨_, ps_while hp p pb, fun M σ H Δ F De c h Dv ok => ?_⟩
  obtain ⟨Pv, ⟨m0, h0⟩, hs⟩ := h
  refine ⟨fun m σ H => ∃ Δ M F', Ex F F' ∧ Cn X.K Z M σ H Δ F' ∧ Pv m Δ M, ⟨m0, _, M, F, Ex.refl _, cn_fgt js _ c, h0⟩, ?_⟩
  rintro m σ H ⟨Δ, M, F', e, c, hp'⟩
  refine s M σ H Δ F' _ c (hs m Δ M hp') _ fun k H1 Δ1 M1 F1 e1 c1 h1 => ?_
  cases k with
  | false => exact iteF (ok.nx σ H1 Δ1 M1 F1 (e.trans e1) c1 (h1.2 rfl))
  | true =>
    refine iteT ⟨fun σ' H' => ∃ m', m' < m ∧ ∃ Δ M F', Ex F F' ∧ Cn X.K Z M σ' H' Δ F' ∧ Pv m' Δ M, fun σ' H' n => n, ?_⟩
    refine sb M1 σ H1 Δ1 F1 _ c1 (h1.1 rfl) _ ⟨?_, ((ok.mono e).mono e1).rt, ((ok.mono e).mono e1).nx, ?_⟩
    · rintro σ' H' Δ' M' F'' e2 c' ⟨m', hm, k⟩
      exact ⟨m', hm, _, M', F'', (e.trans e1).trans e2, cn_fgt js _ c', k⟩
    · rintro σ' H' Δ' M' F'' e2 c' ⟨m', hm, k⟩
      exact ⟨m', hm, _, M', F'', (e.trans e1).trans e2, cn_fgt js _ c', k⟩
end
end DL

set_option Elab.async false
set_option linter.all false
set_option maxRecDepth 100000
set_option maxHeartbeats 4000000
namespace DL
open PySem PySem.Spec PyProof.Rows L2
open Evl (Ex)

/-! ### defs: a promise over data -/
/-- what is wanted of an exception: its class, its fields -/
abbrev DX := Addr → List (Str × D) → Mem → Prop
abbrev DSp := List D → Mem → (D → Mem → Prop) → DX → Prop
/-- an exception's own dict -/
def XRep (K : PySem.W.Frag) (F H : Hp) (fs : List (Str × D)) : Option Addr → Prop
  | none => fs = []
  | some d => ∃ vfs, H d = some (.xd vfs) ∧ vfs.map Prod.fst = fs.map Prod.fst ∧ Rps K F (fs.map Prod.snd) (vfs.map Prod.snd)
def spOf (K : PySem.W.Frag) (S : DSp) : Sp := fun vs H Q E => ∃ (R F : Hp) (M : Mem) (ds : List D) (Φ : D → Mem → Prop) (Ψ : DX), Bs K ⟨R, F⟩ M H F ∧ Rps K F ds vs ∧ S ds M Φ Ψ ∧
  (∀ v H' d M' F', Bs K ⟨R, F⟩ M' H' F' → Rp K F' d v → Φ d M' → Q v H') ∧
  (∀ C fs M' dd H' F', Bs K ⟨R, F⟩ M' H' F' → XRep K F' H' fs dd → Ψ C fs M' → E (.ref C) dd H')
/-- the promise is about n arguments -/
def Arity (S : DSp) (n : Nat) : Prop := ∀ ds M Φ Ψ, S ds M Φ Ψ → ds.length = n
theorem spOf_len {K : PySem.W.Frag} {S : DSp} {n : Nat} (h : Arity S n) : ∀ vs H Q E, spOf K S vs H Q E → vs.length = n := by
  rintro vs H Q E ⟨R, F, M, ds, Φ, Ψ, b, r, s, _, _⟩
  rw [rps_len r]
  exact h ds M Φ Ψ s

/-- the slots at the entry -/
def startD (N : Nat) (ds : List D) : List Sl := ds.map Sl.d ++ List.replicate (N - ds.length) .un
theorem cn_start {K : PySem.W.Frag} {Z : Zx} {M : Mem} {H F : Hp} {N : List Str} {ds : List D} {vs : List V} (b : Bs K Z M H F) (r : Rps K F ds vs) : Cn K Z M (L2.start N vs) H (startD N.length ds) F where
  bs := b
  len := by
    unfold startD L2.start
    rw [List.length_append, List.length_append, List.length_map, List.length_map, List.length_replicate, List.length_replicate, rps_len r]
  slot := fun i s h => by
    unfold startD at h
    by_cases hi : i < ds.length
    · rw [List.getElem?_append_left (by rw [List.length_map]; exact hi), List.getElem?_map, List.getElem?_eq_getElem hi] at h
      cases h
      obtain ⟨v, h1, h2⟩ := rps_get r (List.getElem?_eq_getElem hi)
      refine ⟨v, ?_, h2⟩
      unfold L2.start
      rw [List.getElem?_append_left (by rw [List.length_map, rps_len r]; exact hi), List.getElem?_map, h1] <;> rfl
    · rw [List.getElem?_append_right (by rw [List.length_map]; omega), List.getElem?_replicate] at h
      split at h
      · cases h
        exact True.intro
      · cases h
  sep := fun i j a es fs hne h1 h2 h3 h4 => by
    unfold startD at h1
    by_cases hi : i < ds.length
    · rw [List.getElem?_append_left (by rw [List.length_map]; exact hi), List.getElem?_map, List.getElem?_eq_getElem hi] at h1
      cases h1
    · rw [List.getElem?_append_right (by rw [List.length_map]; omega), List.getElem?_replicate] at h1
      split at h1 <;> cases h1

section
variable {P : Program} {w : World} {K : PySem.W.Frag} {mg : Str → Option Value} {base : Heap}
/-- THE RULE for a def that raises nothing -/
theorem fn_ok {x qual : Str} {st : Stmt} {f : Addr} {fd : FuncData} {N ps : List Str} {k : Nat} {S : DSp} (F : Fun K x qual st f fd) (Sc : FnScope N ps (defScope st)) (hl : Arity S ps.length)
    (hbody : ∀ (cdv : Value) (A : Around) (outer : List Env) (s : Shared) (H : Hp) (E : XK) (Z : Zx), Room k (A.deeper (envOfC qual (defScope st) s.heap.objs.size f cdv)) →
      ∃ r : RS, QSs (cxOf CX0 P w K mg base N qual (defScope st) f cdv A outer s H E).nox Z (defBody st) r ∧
        ∀ ds M Φ Ψ, S ds M Φ Ψ → r { nx := fun _ M' => Φ .non M', rt := Φ } (startD N.length ds) M) : FnOk P w K mg base CX0 (k + 1) f fd ps (spOf K S) := by
  refine F.ok Sc (spOf_len hl) fun cdv A outer s H vs Q E hr h => ?_
  obtain ⟨R, F0, M, ds, Φ, Ψ, b, r, hS, hq, hx⟩ := h
  obtain ⟨rs, ⟨t, p, sim⟩, red⟩ := hbody cdv A outer s H E ⟨R, F0⟩ hr
  refine ⟨t, p, sim M _ H _ F0 _ (cn_start b r) (red ds M Φ Ψ hS) _ ⟨?_, ?_, ?_, ?_⟩⟩
  · intro σ' H' Δ' M' F' e c k
    exact hq .non H' .non M' F' c.bs rfl k
  · intro v H' d M' F' e c rr k
    exact hq v H' d M' F' c rr k
  · intro σ' H' Δ' M' F' e c k
    exact k.elim
  · intro σ' H' Δ' M' F' e c k
    exact k.elim
end

/-! ### calls -/
open Classical in
/-- the rest of the heap at a call: what is neither handed over nor frozen: the caller's own lists too -/
noncomputable def restAt (Z : Zx) (σ : L2.St) (Δ : List Sl) (H : Hp) : Hp := fun a => if ∃ (i : Nat) (ds : List D), Δ[i]? = some (.own ds) ∧ σ[i]? = some (some (.ref a)) then H a else Z.R a
section
variable {K : PySem.W.Frag} {Z : Zx} {M M' : Mem} {σ : L2.St} {H H' F F' : Hp} {Δ : List Sl}
theorem rest_own {i : Nat} {ds : List D} {a : Addr} (h1 : Δ[i]? = some (.own ds)) (h2 : σ[i]? = some (some (.ref a))) : restAt Z σ Δ H a = H a := by
  unfold restAt
  rw [if_pos ⟨i, ds, h1, h2⟩]
theorem rest_other {a : Addr} (h : ¬ ∃ (i : Nat) (ds : List D), Δ[i]? = some (.own ds) ∧ σ[i]? = some (some (.ref a))) : restAt Z σ Δ H a = Z.R a := by
  unfold restAt
  rw [if_neg h]
theorem call_in (c : Cn K Z M σ H Δ F) : Bs K ⟨restAt Z σ Δ H, F⟩ M H F where
  f0 := Ex.refl _
  fH := c.bs.fH
  rH := fun a o h => by
    replace h : restAt Z σ Δ H a = some o := h
    by_cases hx : ∃ (i : Nat) (ds : List D), Δ[i]? = some (.own ds) ∧ σ[i]? = some (some (.ref a))
    · obtain ⟨i, ds, h1, h2⟩ := hx
      rw [rest_own h1 h2] at h
      exact h
    · rw [rest_other hx] at h
      exact c.bs.rH a o h
  fr := fun a o h => by
    by_cases hx : ∃ (i : Nat) (ds : List D), Δ[i]? = some (.own ds) ∧ σ[i]? = some (some (.ref a))
    · obtain ⟨i, ds, h1, h2⟩ := hx
      obtain ⟨b, vs, e, g1, g2, g3, _⟩ := c.slot i _ h1
      rw [h2] at e
      cases e
      rw [g3] at h
      cases h
    · show restAt Z σ Δ H a = none
      rw [rest_other hx]
      exact c.bs.fr a o h
  mm := fun a o h => by
    obtain ⟨h1, h2, h3⟩ := c.bs.mm a o h
    refine ⟨h1, ?_, h3⟩
    show restAt Z σ Δ H a = none
    by_cases hx : ∃ (i : Nat) (ds : List D), Δ[i]? = some (.own ds) ∧ σ[i]? = some (some (.ref a))
    · obtain ⟨i, ds, g1, g2⟩ := hx
      obtain ⟨b, vs, e, _, _, _, _, g5⟩ := c.slot i _ g1
      rw [g2] at e
      cases e
      rw [g5] at h
      cases h
    · rw [rest_other hx]
      exact h2
theorem call_out (c : Cn K Z M σ H Δ F) (b : Bs K ⟨restAt Z σ Δ H, F⟩ M' H' F') : Cn K Z M' σ H' Δ F' := by
  have own : ∀ (i : Nat) (ds : List D) (a : Addr) (vs : List V), Δ[i]? = some (.own ds) → σ[i]? = some (some (.ref a)) → H a = some (.lst vs) → F' a = none ∧ H' a = some (.lst vs) ∧ M' a = none := fun i ds a vs h1 h2 h3 => by
    have e : restAt Z σ Δ H a = some (.lst vs) := (rest_own h1 h2).trans h3
    refine ⟨?_, b.rH a _ e, ?_⟩
    · cases h : F' a with
      | none => rfl
      | some o =>
        have := b.fr a o h
        rw [show (⟨restAt Z σ Δ H, F⟩ : Zx).R a = restAt Z σ Δ H a from rfl, e] at this
        cases this
    · cases h : M' a with
      | none => rfl
      | some o =>
        have := (b.mm a o h).2.1
        rw [show (⟨restAt Z σ Δ H, F⟩ : Zx).R a = restAt Z σ Δ H a from rfl, e] at this
        cases this
  have rz : ∀ a, restAt Z σ Δ H a = none → Z.R a = none := fun a h => by
    by_cases hx : ∃ (i : Nat) (ds : List D), Δ[i]? = some (.own ds) ∧ σ[i]? = some (some (.ref a))
    · obtain ⟨i, ds, g1, g2⟩ := hx
      obtain ⟨b, vs, e, g3, _⟩ := c.slot i _ g1
      rw [g2] at e
      cases e
      rw [rest_own g1 g2, g3] at h
      cases h
    · rw [rest_other hx] at h
      exact h
  refine ⟨⟨c.bs.f0.trans b.f0, b.fH, fun a o h => ?_, fun a o h => rz a (b.fr a o h), fun a o h => ⟨(b.mm a o h).1, rz a (b.mm a o h).2.1, (b.mm a o h).2.2⟩⟩, c.len, fun i s h => ?_, c.sep⟩
  · refine b.rH a o ?_
    show restAt Z σ Δ H a = some o
    by_cases hx : ∃ (i : Nat) (ds : List D), Δ[i]? = some (.own ds) ∧ σ[i]? = some (some (.ref a))
    · obtain ⟨i, ds, g1, g2⟩ := hx
      obtain ⟨b, vs, e, _, _, _, g4, _⟩ := c.slot i _ g1
      rw [g2] at e
      cases e
      rw [g4] at h
      cases h
    · rw [rest_other hx]
      exact h
  · have k := c.slot i s h
    cases s with
    | un => exact True.intro
    | d d =>
      obtain ⟨v, e, r⟩ := k
      exact ⟨v, e, rp_mono b.f0 _ _ r⟩
    | own ds =>
      obtain ⟨a, vs, e, h1, h2, h3, h4, h5⟩ := k
      obtain ⟨q1, q2, q3⟩ := own i ds a vs h e h1
      exact ⟨a, vs, e, q2, rps_mono b.f0 _ _ h2, q1, h4, q3⟩
end
def noX : DX := fun _ _ _ => False
/-- f(..): the callee's promise -/
def dCall (S : DSp) (rl : RA) : RE := fun Δ M Φ => rl Δ M fun ds Δ1 M1 => S ds M1 (fun d M2 => Φ d Δ1 M2) noX
section
variable {X : Cx} {Z : Zx} {e : Expr} {pos : Pos} {es : List Expr} {rl : RA} {n k : Nat} {f : Addr} {fd : FuncData} {ps : List Str} {x : Str} {p : Pos} {S : DSp}
theorem sim_call {K : PySem.W.Frag} {t : TA} (h : SimA K Z n t rl) : Sim K Z (tCall (spOf K S) [] E0 t) (dCall S rl) := by
  intro M σ H Δ F Φ c k Q q
  refine h M σ H Δ F _ c k _ fun vs H1 ds Δ1 M1 F1 e1 c1 r1 hl h1 => ?_
  show spOf K S (vs ++ []) H1 Q E0
  rw [List.append_nil]
  refine ⟨restAt Z σ Δ1 H1, F1, M1, ds, _, noX, call_in c1, r1, h1, fun v H' d M' F' b rr hΦ => ?_, fun C fs M' dd H' F' b rr hΨ => hΨ.elim⟩
  exact q v H' d Δ1 M' F' (e1.trans b.f0) (call_out c1 b) rr hΦ
theorem qe_call (Fn : FnOk X.prog X.w X.K X.mg X.base CX0 k f fd ps (spOf X.K S)) (hr : Room k X.A) (hg : Gl X x) (hm : X.mg x = some (.ref f)) (hk : PySem.W.keepIn X.K (.ref f) = true) (hb : Binds X.K fd ps []) (ha : QA X Z n (e :: es) rl) (hdb : (x == ("__debug__" : Str)) = false := by decide)
    (he : starEach (e :: es) X.env = (false, eval e X.env) :: starEach es X.env := by rfl) (hpl : (backTo pos (starEach es X.env)).any (·.1) = false := by rfl) : QE X Z (.Call (.Name x p) (e :: es) [] pos) (dCall S rl) := by
  obtain ⟨t, pa, s⟩ := ha
  exact ⟨_, pe_call Fn hr hg hm hk hb .nil pass0 pa hdb he hpl, sim_call s⟩
theorem qe_call0 (Fn : FnOk X.prog X.w X.K X.mg X.base CX0 k f fd ps (spOf X.K S)) (hr : Room k X.A) (hg : Gl X x) (hm : X.mg x = some (.ref f)) (hk : PySem.W.keepIn X.K (.ref f) = true) (hb : Binds X.K fd ps []) (hdb : (x == ("__debug__" : Str)) = false := by decide) :
    QE X Z (.Call (.Name x p) [] [] pos) (dCall S dNil) := by
  refine ⟨_, pe_call0 Fn hr hg hm hk hb .nil pass0 hdb, sim_call (n := 0) fun M σ H Δ F Φ c h Q q => q [] H [] Δ M F (Ex.refl _) c rfl rfl h⟩
end
/-! ### the law -/
/-- the law's own promise: True for every script -/
def lawSp : DSp := fun ds M Φ _ => ∃ ns : List Int, ds = [.scr ns] ∧ ns.length ≤ 63 ∧ ∀ M', Φ (.bl true) M'
theorem law_start {K : PySem.W.Frag} {H : Hp} {a : Addr} {ns : List Int} (hl : ns.length ≤ 63) (hS : SqL K H a (ns.map V.int)) : spOf K lawSp [.ref a] H (fun v _ => v = .bl true) fun _ _ _ => False := by
  refine ⟨fun _ => none, H, fun _ => none, [.scr ns], fun d _ => d = .bl true, noX, ⟨Ex.refl _, Ex.refl _, fun a o h => (by cases h), fun _ _ _ => rfl, fun a o h => (by cases h)⟩, ⟨.ref a, [], rfl, ⟨a, rfl, hS⟩, rfl⟩, ⟨ns, rfl, hl, fun _ => rfl⟩, fun v H' d M' F' b r e => ?_, fun C fs M' dd H' F' b r e => e.elim⟩
  subst e
  exact r
end DL

set_option Elab.async false
set_option linter.all false
set_option maxRecDepth 100000
set_option maxHeartbeats 4000000
namespace DL
open PySem PySem.Spec PyProof.Rows L2
open Evl (Ex)
section
variable {X : Cx} {Z : Zx} {e a b c : Expr} {ra rb rc r : RE} {rt ru : RT} {pos : Pos} {es : List Expr} {rl : RA} {n : Nat} {K : PySem.W.Frag}
/-! ### products and quotients of any size -/
def CMulA (i j : Int) : Prop := CMul i j ∨ CMulW i j
theorem op_mulA : OpR X (binaryOp .Mult) (rI CMulA fun i j => .int (i * j)) := by
  intro pins s σ H x y v u Q I rx ry h
  obtain ⟨i, j, h1, h2, hc, q⟩ := h
  rcases hc with hc | hc
  · exact op_mul pins s σ H x y v u Q I rx ry ⟨i, j, h1, h2, hc, q⟩
  · exact op_mulW pins s σ H x y v u Q I rx ry ⟨i, j, h1, h2, hc, q⟩
theorem qe_mulA (ha : QE X Z a ra) (hb : QE X Z b rb) : QE X Z (.BinOp a .Mult b pos) (dOp (dIC CMulA fun i j => .int (i * j)) ra rb) := qe_bin op_mulA (opD_IC fun _ _ _ => rfl) ha hb
def CDivA (i j : Int) : Prop := 0 < j ∧ (j < 1073741824 ∨ j.natAbs.log2 < 9000)
theorem op_fdivA : OpR X (binaryOp .FloorDiv) (rI CDivA fun i j => .int (i / j)) := by
  intro pins s σ H x y v u Q I rx ry h
  obtain ⟨i, j, h1, h2, hc, q⟩ := h
  rcases hc.2 with h | h
  · exact op_fdiv pins s σ H x y v u Q I rx ry ⟨i, j, h1, h2, ⟨hc.1, h⟩, q⟩
  · exact op_fdivW pins s σ H x y v u Q I rx ry ⟨i, j, h1, h2, ⟨hc.1, h⟩, q⟩
theorem qe_fdivA (ha : QE X Z a ra) (hb : QE X Z b rb) : QE X Z (.BinOp a .FloorDiv b pos) (dOp (dIC CDivA fun i j => .int (i / j)) ra rb) := qe_bin op_fdivA (opD_IC fun _ _ _ => rfl) ha hb

/-! ### == of anything -/
def dEqA : D → D → (D → Prop) → Prop := fun x y Φ => match x, y with
  | .int i, .int j => Φ (.bl (decide (i = j)))
  | .str i, .str j => Φ (.bl (decide (i = j)))
  | .bl i, .bl j => Φ (.bl (decide (i = j)))
  | x, y => dEq x y Φ
def dNeA : D → D → (D → Prop) → Prop := fun x y Φ => match x, y with
  | .int i, .int j => Φ (.bl (!decide (i = j)))
  | .str i, .str j => Φ (.bl (!decide (i = j)))
  | .bl i, .bl j => Φ (.bl (!decide (i = j)))
  | x, y => dNe x y Φ
def rEqA (K : PySem.W.Frag) : R2 := fun x y H Q => rEq x y H Q ∨ rEqD K x y H Q
def rNeA (K : PySem.W.Frag) : R2 := fun x y H Q => rNe x y H Q ∨ rNeD K x y H Q
theorem op_eqA (hu : X.A.units + 64 < cLine) : OpR X (compareOp .Eq) (rEqA X.K) := OpR.or op_eq (op_eqD hu)
theorem op_neA (hu : X.A.units + 64 < cLine) : OpR X (compareOp .NotEq) (rNeA X.K) := OpR.or op_ne (op_neD hu)
theorem od_eqA : OpD K (rEqA K) dEqA := OpD.or od_eqS od_eq fun x y Φ k => by
  unfold dEqA at k
  split at k
  · exact .inl k
  · exact .inl k
  · exact .inl k
  · exact .inr k
theorem od_neA : OpD K (rNeA K) dNeA := OpD.or od_neS od_ne fun x y Φ k => by
  unfold dNeA at k
  split at k
  · exact .inl k
  · exact .inl k
  · exact .inl k
  · exact .inr k

/-! ### in -/
def D.flat : D → Bool
  | .non | .bl _ | .int _ | .str _ => true
  | _ => false
def D.v : D → V
  | .non => .non | .bl b => .bl b | .int i => .int i | .str x => .str x | _ => .non
theorem rp_flat {F : Hp} {d : D} {v : V} (h : Rp K F d v) (f : d.flat = true) : v = d.v ∧ flatV v = true := by
  cases d with
  | non => exact ⟨h, by rw [show v = .non from h] <;> rfl⟩
  | bl b => exact ⟨h, by rw [show v = .bl b from h] <;> rfl⟩
  | int b => exact ⟨h, by rw [show v = .int b from h] <;> rfl⟩
  | str b => exact ⟨h, by rw [show v = .str b from h] <;> rfl⟩
  | _ => cases f
theorem rps_flat {F : Hp} : ∀ {ds : List D} {vs : List V}, Rps K F ds vs → ds.all D.flat = true → vs = ds.map D.v ∧ vs.all flatV = true
  | [], vs, h, _ => by rw [show vs = [] from h]; exact ⟨rfl, rfl⟩
  | d :: ds, vs, h, f => by
    obtain ⟨v, r, e, h1, h2⟩ := h
    rw [List.all_cons, Bool.and_eq_true] at f
    obtain ⟨g1, g2⟩ := rp_flat h1 f.1
    obtain ⟨g3, g4⟩ := rps_flat h2 f.2
    rw [e]
    exact ⟨by rw [List.map_cons, ← g1, ← g3], by rw [List.all_cons, g2, g4] <;> rfl⟩
def inD (x : D) (ds : List D) : Bool := inV x.v (ds.map D.v)
def dInA (neg : Bool) : D → D → (D → Prop) → Prop := fun x y Φ => match y with
  | .tup ds => x.flat = true ∧ ds.all D.flat = true ∧ Φ (.bl (if neg then !inD x ds else inD x ds))
  | .lst ds => x.flat = true ∧ ds.all D.flat = true ∧ Φ (.bl (if neg then !inD x ds else inD x ds))
  | .str z => ∃ k : Nat, x = .str ⟨#[k]⟩ ∧ Φ (.bl (if neg then !decide (k ∈ z.cps.toList) else decide (k ∈ z.cps.toList)))
  | _ => False
def rInSg (neg : Bool) : R2 := fun x y H Q => ∃ (c : Nat) (z : Str), x = .str ⟨#[c]⟩ ∧ y = .str z ∧ Q (.bl (if neg then !decide (c ∈ z.cps.toList) else decide (c ∈ z.cps.toList))) H
def rInA (K : PySem.W.Frag) (neg : Bool) : R2 := fun x y H Q => rIn K neg x y H Q ∨ rInSg neg x y H Q
theorem op_inA : OpR X (compareOp .In) (rInA X.K false) := OpR.or op_in_seq (by
  intro pins s σ H x y v u Q I rx ry h
  obtain ⟨c, z, h1, h2, q⟩ := h
  exact op_in_sign pins s σ H x y v u Q I rx ry ⟨c, z, h1, h2, q⟩)
theorem op_ninA : OpR X (compareOp .NotIn) (rInA X.K true) := OpR.or op_notIn_seq (by
  intro pins s σ H x y v u Q I rx ry h
  obtain ⟨c, z, h1, h2, q⟩ := h
  exact op_notIn_sign pins s σ H x y v u Q I rx ry ⟨c, z, h1, h2, q⟩)
theorem od_inA {neg : Bool} : OpD K (rInA K neg) (dInA neg) := by
  intro Z M σ H Δ F x y v w Φ c rx ry k Q q
  unfold dInA at k
  split at k
  · obtain ⟨p, vs, e1, h1, h2⟩ := ry
    obtain ⟨f1, f2, k⟩ := k
    obtain ⟨g1, g2⟩ := rp_flat rx f1
    obtain ⟨g3, g4⟩ := rps_flat h2 f2
    refine .inl ⟨p, vs, e1, .inr (Evl.ex_t c.bs.fH h1), g2, g4, ?_⟩
    rw [g1, g3]
    exact q _ H (.bl _) F (Ex.refl _) c rfl k
  · obtain ⟨p, vs, e1, h1, h2⟩ := ry
    obtain ⟨f1, f2, k⟩ := k
    obtain ⟨g1, g2⟩ := rp_flat rx f1
    obtain ⟨g3, g4⟩ := rps_flat h2 f2
    refine .inl ⟨p, vs, e1, .inl (SqL.of (c.bs.fH _ _ h1)), g2, g4, ?_⟩
    rw [g1, g3]
    exact q _ H (.bl _) F (Ex.refl _) c rfl k
  · obtain ⟨j, e1, k⟩ := k
    subst e1
    exact .inr ⟨j, _, rx, ry, q _ H (.bl _) F (Ex.refl _) c rfl k⟩
  · exact k.elim

/-! ### chains, truth -/
def dChain (d1 d2 : D → D → (D → Prop) → Prop) (ra rb rc : RE) : RE := fun Δ M Φ => ra Δ M fun x Δ1 M1 => rb Δ1 M1 fun y Δ2 M2 => d1 x y fun z => match z with
  | .bl true => rc Δ2 M2 fun w Δ3 M3 => d2 y w fun u => Φ u Δ3 M3
  | .bl false => Φ (.bl false) Δ2 M2
  | _ => False
theorem sim_chain {r1 r2 : R2} {d1 d2 : D → D → (D → Prop) → Prop} {ta tb tc : TE} (h1 : OpD K r1 d1) (h2 : OpD K r2 d2) (ha : Sim K Z ta ra) (hb : Sim K Z tb rb) (hc : Sim K Z tc rc) : Sim K Z (tChain r1 r2 ta tb tc) (dChain d1 d2 ra rb rc) := by
  intro M σ H Δ F Φ c h Q q
  refine ha M σ H Δ F _ c h _ fun v H1 x Δ1 M1 F1 e1 c1 q1 k1 => ?_
  refine hb M1 σ H1 Δ1 F1 _ c1 k1 _ fun w H2 y Δ2 M2 F2 e2 c2 q2 k2 => ?_
  refine h1 Z M2 σ H2 Δ2 F2 x y v w _ c2 (rp_mono e2 _ _ q1) q2 k2 _ fun u H3 z F3 e3 c3 q3 k3 => ?_
  cases z with
  | bl k =>
    refine ⟨k, q3, ?_⟩
    cases k with
    | true =>
      refine iteT (hc M2 σ H3 Δ2 F3 _ c3 k3 _ fun w' H4 y' Δ4 M4 F4 e4 c4 q4 k4 => ?_)
      exact h2 Z M4 σ H4 Δ4 F4 y y' w w' _ c4 (rp_mono e4 _ _ (rp_mono e3 _ _ q2)) q4 k4 Q fun u' H5 d F5 e5 c5 q5 k5 => q u' H5 d Δ4 M4 F5 ((((e1.trans e2).trans e3).trans e4).trans e5) c5 q5 k5
    | false => exact iteF (q _ H3 (.bl false) Δ2 M2 F3 ((e1.trans e2).trans e3) c3 rfl k3)
  | _ => exact k3.elim
theorem qe_chain {op op' : CmpOp} {r1 r2 : R2} {d1 d2 : D → D → (D → Prop) → Prop} (o1 : OpR X (compareOp op) r1) (h1 : OpD X.K r1 d1) (o2 : OpR X (compareOp op') r2) (h2 : OpD X.K r2 d2) (ha : QE X Z a ra) (hb : QE X Z b rb) (hc : QE X Z c rc) (hm : lastMarks [op, op'] [b, c] = false := by with_unfolding_all rfl) :
    QE X Z (.Compare a [op, op'] [b, c] pos) (dChain d1 d2 ra rb rc) := by
  obtain ⟨ta, pa, sa⟩ := ha
  obtain ⟨tb, pb, sb⟩ := hb
  obtain ⟨tc, pc, sc⟩ := hc
  exact ⟨_, pe_chain o1 o2 pa pb pc hm, sim_chain h1 h2 sa sb sc⟩
theorem qt_chain {op op' : CmpOp} {r1 r2 : R2} {d1 d2 : D → D → (D → Prop) → Prop} (o1 : OpR X (compareOp op) r1) (h1 : OpD X.K r1 d1) (o2 : OpR X (compareOp op') r2) (h2 : OpD X.K r2 d2) (ha : QE X Z a ra) (hb : QE X Z b rb) (hc : QE X Z c rc) (hm : lastMarks [op, op'] [b, c] = false := by with_unfolding_all rfl) :
    QT X Z (.Compare a [op, op'] [b, c] pos) (dTest (dChain d1 d2 ra rb rc)) := by
  obtain ⟨ta, pa, sa⟩ := ha
  obtain ⟨tb, pb, sb⟩ := hb
  obtain ⟨tc, pc, sc⟩ := hc
  exact ⟨_, pt_chain o1 o2 pa pb pc hm, simT_test (sim_chain h1 h2 sa sb sc)⟩
def dTruth (r : RE) : RT := fun Δ M Φ => r Δ M fun x Δ1 M1 => match x with
  | .bl k => Φ k Δ1 M1
  | .int i => Φ (i != 0) Δ1 M1
  | .str z => z.length ≤ sizeLine ∧ Φ ((z.length : Int) != 0) Δ1 M1
  | .lst ds => Φ (!ds.isEmpty) Δ1 M1
  | .tup ds => Φ (!ds.isEmpty) Δ1 M1
  | .non => Φ false Δ1 M1
  | _ => False
theorem rps_empty {F : Hp} {ds : List D} {vs : List V} (h : Rps K F ds vs) : vs.isEmpty = ds.isEmpty := by
  have := rps_len h
  cases ds <;> cases vs <;> first | rfl | (simp at this)
theorem qt_truth (h : QE X Z e r) (he : ∀ whole, isTrue e X.env whole = (do let v ← whole; standAt e.pos; holding [v] (truthy v)) := by intro _; rfl) : QT X Z e (dTruth r) := by
  obtain ⟨t, p, s⟩ := h
  refine ⟨_, pt_truth p he, fun M σ H Δ F Φ c h Q q => ?_⟩
  refine s M σ H Δ F _ c h _ fun v H1 x Δ1 M1 F1 e1 c1 r1 h1 => ?_
  cases x with
  | bl k => rw [show v = .bl k from r1]; exact ⟨k, rfl, q k H1 Δ1 M1 F1 e1 c1 h1⟩
  | int i => rw [show v = .int i from r1]; exact ⟨_, rfl, q _ H1 Δ1 M1 F1 e1 c1 h1⟩
  | str z => rw [show v = .str z from r1]; exact ⟨_, ⟨h1.1, rfl⟩, q _ H1 Δ1 M1 F1 e1 c1 h1.2⟩
  | non => rw [show v = .non from r1]; exact ⟨_, rfl, q _ H1 Δ1 M1 F1 e1 c1 h1⟩
  | lst ds =>
    obtain ⟨p, vs, e2, g1, g2⟩ := r1
    rw [e2]
    exact ⟨!ds.isEmpty, .inl ⟨vs, SqL.of (c1.bs.fH _ _ g1), by rw [rps_empty g2]⟩, q _ H1 Δ1 M1 F1 e1 c1 h1⟩
  | tup ds =>
    obtain ⟨p, vs, e2, g1, g2⟩ := r1
    rw [e2]
    exact ⟨!ds.isEmpty, .inr (.inl ⟨vs, Evl.ex_t c1.bs.fH g1, by rw [rps_empty g2]⟩), q _ H1 Δ1 M1 F1 e1 c1 h1⟩
  | _ => exact h1.elim
/-- the truth of an own list -/
def dTruthO (j : Nat) : RT := fun Δ M Φ => match Δ[j]? with
  | some (.own ds) => Φ (!ds.isEmpty) Δ M
  | _ => False
theorem qt_truthO (j : Nat) {x : Str} (hN : X.N[j]? = some x := by rfl) (hv : Vis X.env.scope x := by first | exact Or.inl rfl | exact Or.inr (Or.inl rfl) | exact Or.inr (Or.inr rfl)) (hd : (x == ("__debug__" : Str)) = false := by decide) (hcd : (x == ("__classdict__" : Str)) = false := by decide) : QT X Z (.Name x pos) (dTruthO j) := by
  refine ⟨_, pt_truth (pe_var (i := j) hN hv hd hcd) (by intro _; rfl), fun M σ H Δ F Φ c h Q q => ?_⟩
  unfold dTruthO at h
  split at h
  · rename_i ds hj
    obtain ⟨a, vs, hv0, g1, g2, _⟩ := c.slot j _ hj
    exact ⟨_, hv0, !ds.isEmpty, .inl ⟨vs, SqL.of g1, by rw [rps_empty g2]⟩, q _ H Δ M F (Ex.refl _) c h⟩
  · exact h.elim
end

/-! ### for over a list or a tuple -/
def iSeq (K : PySem.W.Frag) (tl : TE) : TI := fun σ H R => tl σ H fun x H1 => ∃ a, x = .ref a ∧ (((∃ xs, SqL K H1 a xs) ∧ R (Itl K a) H1) ∨ ((∃ xs, SqT K H1 a xs) ∧ R (Itt K a) H1))
theorem pi_seq {X : Cx} {tg l : Expr} {tl : TE} (hl : PE X l tl) : PI X tg l (iSeq X.K tl) := by
  refine ⟨fun pins s σ H R I h => ?_⟩
  refine thn (hl.run pins s σ H _ I h) fun v s1 ⟨x, H1, I1, r1, q1⟩ => ?_
  obtain ⟨a, e, q⟩ := q1
  subst e
  cases r1
  rcases q with ⟨⟨xs, hq⟩, q⟩ | ⟨⟨xs, hq⟩, q⟩
  · obtain ⟨its, rv, p, hz⟩ := I1.list hq
    refine wpAny_pyIter_list p.isList ?_
    refine ⟨s1.heap.objs.size, [s1.heap.objs.size], _, _, H1, rfl, I1.kept (t' := s1.toks) fun b o e => Heap.get?_push_of_some _ e, turn_list a _, ⟨_, Heap.get?_push_size _ rfl, rfl, rfl⟩, fun b hb => ?_, q⟩
    have e : b = s1.heap.objs.size := by simpa using hb
    subst e
    exact I1.fpOk (Nat.le_refl _) (I1.hok.fresh (Nat.le_refl _))
  · obtain ⟨its, rv, p, hz⟩ := I1.tuple hq
    refine wpAny_pyIter_tuple (show s1.heap.IsTuple a its.toArray from p) ?_
    refine ⟨s1.heap.objs.size, [s1.heap.objs.size], _, _, H1, rfl, I1.kept (t' := s1.toks) fun b o e => Heap.get?_push_of_some _ e, turn_tuple a _, ⟨_, Heap.get?_push_size _ rfl, rfl, rfl⟩, fun b hb => ?_, q⟩
    have e : b = s1.heap.objs.size := by simpa using hb
    subst e
    exact I1.fpOk (Nat.le_refl _) (I1.hok.fresh (Nat.le_refl _))
def dFor (j : Nat) (js : List Nat) (r : RE) (u : RS) : RS := fun D Δ M => r Δ M fun x Δ1 M1 => match x with
  | .lst ds => dLoop j js ds u D Δ1 M1
  | .scr ns => dLoop j js (ns.map .int) u D Δ1 M1
  | .tup ds => dLoop j js ds u D Δ1 M1
  | _ => False
theorem qs_for {X : Cx} {Z : Zx} {pos : Pos} {r : RE} {j : Nat} {js : List Nat} {x : Str} {px : Pos} {body : List Stmt} {iter : Expr} {u : RS} (hp : PassesOwn (model X.prog X.w) X.A X.env X.xe) (hc : X.calm = true) (hN : X.N.Nodup) (h : QE X Z iter r) (hb : QSs X Z body u) (hi : X.N[j]? = some x := by rfl) (hx : Loc X.env.scope x := by first | exact Or.inl rfl | exact Or.inr rfl)
    (hf : X.fn x = true ∨ X.env.scope.names.lookup x = some .local := by first | exact .inl rfl | exact .inr rfl) (hs : ∀ x, foldedSetIterable iter X.env x = pure x := by intro _; rfl) : QS X Z (.For (.Name x px) iter body [] pos) (dFor j js r u) := by
  obtain ⟨t, p, s⟩ := h
  obtain ⟨tb, pb, sb⟩ := hb
  refine ⟨_, ps_for hp hc (pi_seq p) (pg_name (i := j) hN hi hx hf) pb hs, fun M σ H Δ F De c h Dv ok => ?_⟩
  refine s M σ H Δ F _ c h _ fun v H1 y Δ1 M1 F1 e1 c1 r1 h1 => ?_
  cases y with
  | lst ds =>
    obtain ⟨a, vs, e2, g1, g2⟩ := r1
    exact ⟨a, e2, .inl ⟨⟨_, SqL.of (c1.bs.fH _ _ g1)⟩, loop_list sb c1 (SqL.of g1) g2 h1 (ok.mono e1)⟩⟩
  | scr ns =>
    obtain ⟨a, e2, g1⟩ := r1
    exact ⟨a, e2, .inl ⟨⟨_, Evl.ex_l c1.bs.fH g1⟩, loop_list sb c1 g1 (ints_rps ns) h1 (ok.mono e1)⟩⟩
  | tup ds =>
    obtain ⟨a, vs, e2, g1, g2⟩ := r1
    exact ⟨a, e2, .inr ⟨⟨_, Evl.ex_t c1.bs.fH g1⟩, loop_tup sb c1 g1 g2 h1 (ok.mono e1)⟩⟩
  | _ => exact h1.elim

/-! ### readings of loops, ready for use -/
/-- a loop whose turns bring the slots from f i to f (i + 1) -/
theorem loop_by {j : Nat} {js : List Nat} {xs : List D} {u : RS} {De : DE} {Δ : List Sl} {M : Mem} (f : Nat → List Sl) (h0 : fgt js Δ = f 0)
    (hs : ∀ i d, xs[i]? = some d → u { De with nx := fun Δ2 M2 => fgt js Δ2 = f (i + 1) ∧ M2 = M, ct := fun Δ2 M2 => fgt js Δ2 = f (i + 1) ∧ M2 = M, bk := De.nx } ((f i).set j (.d d)) M) (hd : De.nx (f xs.length) M) : dLoop j js xs u De Δ M :=
  ⟨fun i Δ' M' => Δ' = f i ∧ M' = M, ⟨h0, rfl⟩, fun i d Δ1 M1 hi ⟨e1, e2⟩ => by subst e1 e2; exact hs i d hi, fun Δ1 M1 ⟨e1, e2⟩ => by subst e1 e2; exact hd⟩
end DL

set_option Elab.async false
set_option linter.all false
set_option maxRecDepth 100000
set_option maxHeartbeats 4000000
namespace My
open PySem PySem.Spec PyProof.Rows L2 DL
open Evl (Ex)
/-! ### the law's own numbers: a row of the script -/
def cellAt (ns : List Int) (k : Int) : Int := if k < (ns.length : Int) then ns.getD k.toNat 0 else 0
def seedAt (s : Int) : Nat → Int
  | 0 => s
  | i + 1 => (seedAt s i * 16807 + (i : Int) * 7919 + 101) % 2147483647
def thAt (c : Int) : Nat → Int
  | 0 => c
  | i + 1 => thAt c i / 1000
def lawRow (ns : List Int) (k : Int) (n : Nat) : List Int :=
  if cellAt ns k ≥ 10 ^ 18 then (List.range n).map fun i => thAt (cellAt ns k) i % 1000
  else (List.range n).map fun i => seedAt ((cellAt ns k * 48271 + k * 69621 + 11) % 2147483647) (i + 1) / 65536 % 1000
theorem lawRow_len (ns : List Int) (k : Int) (n : Nat) : (lawRow ns k n).length = n := by
  unfold lawRow
  split <;> rw [List.length_map, List.length_range]
theorem lawRow_mem {ns : List Int} {k : Int} {n : Nat} : ∀ r ∈ lawRow ns k n, 0 ≤ r ∧ r < 1000 := by
  intro r hr
  unfold lawRow at hr
  split at hr
  · obtain ⟨i, _, rfl⟩ := List.mem_map.mp hr
    omega
  · obtain ⟨i, _, rfl⟩ := List.mem_map.mp hr
    omega
/-- the i-th number of a row -/
theorem lawRow_at {ns : List Int} {k : Int} {n i : Nat} (h : i < n) : ∃ r, atI ((lawRow ns k n).map D.int) (i : Int) = some (.int r) ∧ (lawRow ns k n)[i]? = some r ∧ 0 ≤ r ∧ r < 1000 := by
  have hl : i < (lawRow ns k n).length := by rw [lawRow_len]; exact h
  refine ⟨(lawRow ns k n)[i], ?_, List.getElem?_eq_getElem hl, lawRow_mem _ (List.getElem_mem hl)⟩
  refine atI_nat ?_
  rw [List.getElem?_map, List.getElem?_eq_getElem hl] <;> rfl
def S_law_row : DSp := fun ds M Φ _ => ∃ (ns : List Int) (k : Int) (n : Nat), ds = [.scr ns, .int k, .int n] ∧ 0 ≤ k ∧ k < 1000000 ∧ n ≤ 1000 ∧ Φ (.lst ((lawRow ns k n).map .int)) M
theorem ar_law_row : Arity S_law_row 3 := by
  rintro ds M Φ Ψ ⟨ns, k, n, rfl, _⟩
  rfl
theorem seedAt_lo {s : Int} (h : 0 ≤ s ∧ s < 2147483647) : ∀ i, 0 ≤ seedAt s i ∧ seedAt s i < 2147483647
  | 0 => h
  | i + 1 => by
    show 0 ≤ (seedAt s i * 16807 + (i : Int) * 7919 + 101) % 2147483647 ∧ (seedAt s i * 16807 + (i : Int) * 7919 + 101) % 2147483647 < 2147483647
    omega
/-! _law_row: slots 0 _law_script 1 _law_k 2 _law_count 3 _law_cell_here 4 _law_row_here 5 _law_at 6 _law_seed -/
def b_law_row_6 : RS := (dSeq (dApp 4 (dOp (dIC (fun _ j => 0 < j) fun i j => .int (i % j)) (dCB dInt (dCons (dVar 3) dNil)) (dC (.int 1000))))
    (dSet 3 (dOp (dIC CDivA fun i j => .int (i / j)) (dVar 3) (dC (.int 1000)))))
def b_law_row_11 : RS := (dSeq (dSet 6 (dOp (dIC (fun _ j => 0 < j) fun i j => .int (i % j)) (dCB dInt (dCons (dOp dAdd (dOp dAdd (dOp (dIC CMulA fun i j => .int (i * j)) (dVar 6) (dC (.int 16807))) (dOp (dIC CMulA fun i j => .int (i * j)) (dVar 5) (dC (.int 7919)))) (dC (.int 101))) dNil)) (dC (.int 2147483647))))
    (dApp 4 (dOp (dIC (fun _ j => 0 < j) fun i j => .int (i % j)) (dOp (dIC CDivA fun i j => .int (i / j)) (dVar 6) (dC (.int 65536))) (dC (.int 1000)))))
def r_law_row_6 : RS := (dRet (dVar 4))
def r_law_row_5 : RS := dSeq (dForR 5 [5] (dVar 2) b_law_row_11) r_law_row_6
def r_law_row_4 : RS := dSeq (dSet 6 (dOp (dIC (fun _ j => 0 < j) fun i j => .int (i % j)) (dCB dInt (dCons (dOp dAdd (dOp dAdd (dOp (dIC CMulA fun i j => .int (i * j)) (dVar 3) (dC (.int 48271))) (dOp (dIC CMulA fun i j => .int (i * j)) (dVar 1) (dC (.int 69621)))) (dC (.int 11))) dNil)) (dC (.int 2147483647)))) r_law_row_5
def r_law_row_3 : RS := dSeq (dIfS (dTest (dOp dGe (dVar 3) (dOp (dIC CPow fun i j => .int (i ^ j.toNat)) (dC (.int 10)) (dC (.int 18))))) (dSeq (dForR 5 [5] (dVar 2) b_law_row_6)
    (dRet (dVar 4))) dNext) r_law_row_4
def r_law_row_2 : RS := dSeq (dSetO 4 dNil) r_law_row_3
def r_law_row_1 : RS := dSeq (dIfS (dTest (dOp dLt (dVar 1) (dCB dLen (dCons (dVar 0) dNil)))) (dSet 3 (dCB dInt (dCons (dOp dIx (dVar 0) (dVar 1)) dNil))) dNext) r_law_row_2
def r_law_row : RS := dSeq (dSet 3 (dC (.int 0))) r_law_row_1


theorem getD_of {ns : List Int} {k : Int} (h0 : 0 ≤ k) (h : k < (ns.length : Int)) : atI ns k = some (cellAt ns k) := by
  have hk : k.toNat < ns.length := by omega
  have e : ((k.toNat : Nat) : Int) = k := Int.toNat_of_nonneg h0
  rw [← e]
  unfold cellAt
  rw [if_pos (by omega)]
  refine atI_nat ?_
  rw [Int.toNat_natCast, List.getD_eq_getElem?_getD, List.getElem?_eq_getElem hk] <;> rfl
theorem range_take {α : Type} (g : Nat → α) (i : Nat) : (List.range (i + 1)).map g = (List.range i).map g ++ [g i] := by
  rw [List.range_succ, List.map_append] <;> rfl
theorem line1000 {n : Nat} (h : n ≤ 1000) : n < sizeLine := Nat.lt_of_le_of_lt h (by decide)
theorem rangeD_some {lo : Int} {n i : Nat} {d : D} (h : (rangeD lo n)[i]? = some d) : i < n ∧ d = .int (lo + (i : Nat)) := by
  have hi : i < n := by
    have := (List.getElem?_eq_some_iff.mp h).1
    rw [rangeD_len] at this
    exact this
  rw [rangeD_get hi] at h
  exact ⟨hi, (Option.some.inj h).symm⟩
theorem red_law_row : ∀ ds M Φ Ψ, S_law_row ds M Φ Ψ → r_law_row { nx := fun _ M' => Φ .non M', rt := Φ } (startD 7 ds) M := by
  rintro ds M Φ Ψ ⟨ns, k, n, rfl, hk0, hk1, hn, q⟩
  have key : ∀ c, c = cellAt ns k → r_law_row_2 { nx := fun _ M' => Φ .non M', rt := Φ } [.d (.scr ns), .d (.int k), .d (.int n), .d (.int c), .un, .un, .un] M := by
    intro c hc
    have h10 : (10 : Int) ^ (18 : Int).toNat = 1000000000000000000 := by decide
    have h10' : (10 : Int) ^ 18 = 1000000000000000000 := by decide
    refine ⟨⟨by decide, by decide, by decide⟩, fun hb => ?_, fun hb => ?_⟩
    · -- the digits of a great cell
      have hc18 : cellAt ns k ≥ 10 ^ 18 := by
        have := of_decide_eq_true hb
        rw [h10] at this
        omega
      refine ⟨by omega, ?_⟩
      refine loop_by (fun i => [.d (.scr ns), .d (.int k), .d (.int n), .d (.int (thAt c i)), .own ((List.range i).map fun i => .int (thAt c i % 1000)), .un, .un]) rfl (fun i d hi => ?_) ?_
      · obtain ⟨hi, rfl⟩ := rangeD_some hi
        refine ⟨⟨_, rfl⟩, (by show (0 : Int) < 1000; decide), ?_, ?_⟩
        · rw [List.length_map, List.length_range]
          exact line1000 (by omega)
        · refine ⟨⟨by decide, .inl (by decide)⟩, ?_, rfl⟩
          show [Sl.d (.scr ns), .d (.int k), .d (.int n), .d (.int (thAt c i / 1000)), .own ((List.range i).map (fun i => D.int (thAt c i % 1000)) ++ [.int (thAt c i % 1000)]), .un, .un] = [.d (.scr ns), .d (.int k), .d (.int n), .d (.int (thAt c (i + 1))), .own ((List.range (i + 1)).map fun i => .int (thAt c i % 1000)), .un, .un]
          rw [range_take] <;> rfl
      · rw [rangeD_len, show (↑n : Int).toNat = n from Int.toNat_natCast n]
        have e : (List.range n).map (fun i => D.int (thAt c i % 1000)) = (lawRow ns k n).map .int := by
          unfold lawRow
          rw [if_pos hc18, List.map_map, hc] <;> rfl
        show Φ (.lst ((List.range n).map fun i => D.int (thAt c i % 1000))) M
        rw [e]
        exact q
    · -- a seed
      have hc18 : ¬ cellAt ns k ≥ 10 ^ 18 := by
        have := of_decide_eq_false hb
        rw [h10] at this
        omega
      have e2 : (0 : Int) < 2147483647 := by decide
      let s0 := (c * 48271 + k * 69621 + 11) % 2147483647
      have hs0 : 0 ≤ s0 ∧ s0 < 2147483647 := by omega
      refine ⟨.inl (.inr (by decide)), .inl (.inr (by decide)), e2, by omega, ?_⟩
      refine loop_by (fun i => [.d (.scr ns), .d (.int k), .d (.int n), .d (.int c), .own ((List.range i).map fun i => .int (seedAt s0 (i + 1) / 65536 % 1000)), .un, .d (.int (seedAt s0 i))]) rfl (fun i d hi => ?_) ?_
      · obtain ⟨hi, rfl⟩ := rangeD_some hi
        refine ⟨.inl (.inr (by decide)), .inl (.inr (by decide)), e2, ⟨_, rfl⟩, ⟨by decide, .inl (by decide)⟩, (by show (0 : Int) < 1000; decide), ?_, ?_, rfl⟩
        · rw [List.length_map, List.length_range]
          exact line1000 (by omega)
        · have e3 : (seedAt s0 i * 16807 + (0 + (i : Int)) * 7919 + 101) % 2147483647 = seedAt s0 (i + 1) := by
            show _ = (seedAt s0 i * 16807 + (i : Int) * 7919 + 101) % 2147483647
            rw [Int.zero_add]
          show [Sl.d (.scr ns), .d (.int k), .d (.int n), .d (.int c), .own ((List.range i).map (fun i => D.int (seedAt s0 (i + 1) / 65536 % 1000)) ++ [.int ((seedAt s0 i * 16807 + (0 + (i : Int)) * 7919 + 101) % 2147483647 / 65536 % 1000)]), .un, .d (.int ((seedAt s0 i * 16807 + (0 + (i : Int)) * 7919 + 101) % 2147483647))] = _
          rw [e3, range_take]
      · rw [rangeD_len, show (↑n : Int).toNat = n from Int.toNat_natCast n]
        have e : (List.range n).map (fun i => D.int (seedAt s0 (i + 1) / 65536 % 1000)) = (lawRow ns k n).map .int := by
          unfold lawRow
          rw [if_neg hc18, List.map_map, ← hc] <;> rfl
        show Φ (.lst ((List.range n).map fun i => D.int (seedAt s0 (i + 1) / 65536 % 1000))) M
        rw [e]
        exact q
  refine ⟨fun hb => ?_, fun hb => ?_⟩
  · have hlt : k < (ns.length : Int) := of_decide_eq_true hb
    exact ⟨_, getD_of hk0 hlt, key _ rfl⟩
  · have hge : ¬ k < (ns.length : Int) := of_decide_eq_false hb
    refine key 0 ?_
    unfold cellAt
    rw [if_neg hge]
end My

set_option Elab.async false
set_option linter.all false
set_option maxRecDepth 100000
set_option maxHeartbeats 4000000
namespace My
open PySem PySem.Spec PyProof.Rows L2 DL
open Evl (Ex)
/-! ### fractions -/
def gq (i j : Int) : Int := ((Nat.gcd i.natAbs j.natAbs : Nat) : Int)
def low (i j : Int) : Int × Int := (i / gq i j, j / gq i j)
def dP (p : Int × Int) : D := .tup [.int p.1, .int p.2]
theorem gq_pos {i j : Int} (h : 0 < j) : 0 < gq i j := by
  have : 0 < Nat.gcd i.natAbs j.natAbs := Nat.gcd_pos_of_pos_right _ (by omega)
  unfold gq
  omega
theorem gq_le {i j : Int} (h : 0 < j) : gq i j ≤ j := by
  have : Nat.gcd i.natAbs j.natAbs ≤ j.natAbs := Nat.le_of_dvd (by omega) (Nat.gcd_dvd_right _ _)
  unfold gq
  omega
theorem gq_dvd_l (i j : Int) : gq i j ∣ i := Int.ofNat_dvd_left.mpr (Nat.gcd_dvd_left _ _)
theorem gq_dvd_r (i j : Int) : gq i j ∣ j := Int.ofNat_dvd_left.mpr (Nat.gcd_dvd_right _ _)
theorem low_l {i j : Int} : gq i j * (low i j).1 = i := Int.mul_ediv_cancel' (gq_dvd_l i j)
theorem low_r {i j : Int} : gq i j * (low i j).2 = j := Int.mul_ediv_cancel' (gq_dvd_r i j)
theorem low_pos {i j : Int} (h : 0 < j) : 0 < (low i j).2 := by
  have h1 := gq_pos (i := i) h
  have h2 := low_r (i := i) (j := j)
  refine Int.lt_of_not_ge fun h3 => ?_
  have := Int.mul_nonpos_of_nonneg_of_nonpos (Int.le_of_lt h1) h3
  omega
theorem gq_scale {i j k : Int} (hk : 0 < k) : gq (k * i) (k * j) = k * gq i j := by
  unfold gq
  rw [Int.natAbs_mul, Int.natAbs_mul, Nat.gcd_mul_left, Int.natCast_mul]
  have : ((k.natAbs : Nat) : Int) = k := by omega
  rw [this]
theorem low_scale {i j k : Int} (hk : 0 < k) : low (k * i) (k * j) = low i j := by
  unfold low
  rw [gq_scale hk, Int.mul_ediv_mul_of_pos _ _ hk, Int.mul_ediv_mul_of_pos _ _ hk]
theorem low_cross {x y x' y' : Int} (hy : 0 < y) (hy' : 0 < y') (h : x * y' = x' * y) : low x y = low x' y' := by
  rw [← low_scale (i := x) (j := y) hy', ← low_scale (i := x') (j := y') hy, Int.mul_comm y' x, h, Int.mul_comm y x', Int.mul_comm y' y]
theorem low_val {i j : Int} : (low i j).1 * j = i * (low i j).2 := by
  have h1 := low_l (i := i) (j := j)
  have h2 := low_r (i := i) (j := j)
  calc (low i j).1 * j = (low i j).1 * (gq i j * (low i j).2) := by rw [h2]
    _ = gq i j * (low i j).1 * (low i j).2 := by rw [← Int.mul_assoc, Int.mul_comm (low i j).1 (gq i j)]
    _ = i * (low i j).2 := by rw [h1]
theorem low_bd {i j : Int} (h : 0 < j) : (low i j).1.natAbs ≤ i.natAbs ∧ (low i j).2.natAbs ≤ j.natAbs := by
  have h1 := gq_pos (i := i) h
  have h2 := low_l (i := i) (j := j)
  have h3 := low_r (i := i) (j := j)
  have e1 : i.natAbs = (gq i j).natAbs * (low i j).1.natAbs := by rw [← Int.natAbs_mul, h2]
  have e2 : j.natAbs = (gq i j).natAbs * (low i j).2.natAbs := by rw [← Int.natAbs_mul, h3]
  have h4 : 1 ≤ (gq i j).natAbs := by omega
  exact ⟨by rw [e1]; exact Nat.le_mul_of_pos_left _ h4, by rw [e2]; exact Nat.le_mul_of_pos_left _ h4⟩

/-! sizes: below 2 ^ n -/
def Bd (n : Nat) (p : Int × Int) : Prop := p.1.natAbs < 2 ^ n ∧ p.2.natAbs < 2 ^ n ∧ 0 < p.2
theorem low_Bd {n : Nat} {i j : Int} (hi : i.natAbs < 2 ^ n) (hj : j.natAbs < 2 ^ n) (h : 0 < j) : Bd n (low i j) :=
  ⟨Nat.lt_of_le_of_lt (low_bd h).1 hi, Nat.lt_of_le_of_lt (low_bd h).2 hj, low_pos h⟩
theorem Bd.mono {n m : Nat} {p : Int × Int} (h : Bd n p) (hm : n ≤ m) : Bd m p :=
  ⟨Nat.lt_of_lt_of_le h.1 (Nat.pow_le_pow_right (by decide) hm), Nat.lt_of_lt_of_le h.2.1 (Nat.pow_le_pow_right (by decide) hm), h.2.2⟩
theorem mulOk {i j : Int} {n : Nat} (h0 : 0 < n) (hn : n ≤ 4000) (hi : i.natAbs < 2 ^ n) (hj : j.natAbs < 2 ^ n) : CMulA i j := .inr (wide_mul hi hj h0 h0 (by omega))
theorem divOk {i j : Int} (h : 0 < j) (hj : j.natAbs < 2 ^ 9000) : CDivA i j := ⟨h, .inr (wide_div (i := i) h hj (by decide) (Nat.le_refl _)).2⟩
theorem mul_lt {i j : Int} {n : Nat} (hi : i.natAbs < 2 ^ n) (hj : j.natAbs < 2 ^ n) : (i * j).natAbs < 2 ^ (2 * n) := by
  have := wide_lt hi hj
  rw [show 2 * n = n + n by omega]
  exact this
theorem add_lt {i j : Int} {n : Nat} (hi : i.natAbs < 2 ^ n) (hj : j.natAbs < 2 ^ n) : (i + j).natAbs < 2 ^ (n + 1) := by
  have e : (2 : Nat) ^ (n + 1) = 2 ^ n * 2 := Nat.pow_succ ..
  omega
theorem sub_lt {i j : Int} {n : Nat} (hi : i.natAbs < 2 ^ n) (hj : j.natAbs < 2 ^ n) : (i - j).natAbs < 2 ^ (n + 1) := by
  have e : (2 : Nat) ^ (n + 1) = 2 ^ n * 2 := Nat.pow_succ ..
  omega
theorem up {i : Int} {n m : Nat} (h : i.natAbs < 2 ^ n) (hm : n ≤ m) : i.natAbs < 2 ^ m := Nat.lt_of_lt_of_le h (Nat.pow_le_pow_right (by decide) hm)
theorem mul_pos {i j : Int} (hi : 0 < i) (hj : 0 < j) : 0 < i * j := Int.mul_pos hi hj

/-! ### what each def does -/
def S_lowest : DSp := fun ds M Φ _ => ∃ i j : Int, ds = [.int i, .int j] ∧ 0 < j ∧ j.natAbs < 2 ^ 8000 ∧ Φ (dP (low i j)) M
def fPlus (a b : Int × Int) : Int × Int := low (a.1 * b.2 + b.1 * a.2) (a.2 * b.2)
def fMinus (a b : Int × Int) : Int × Int := low (a.1 * b.2 - b.1 * a.2) (a.2 * b.2)
def fTimes (a b : Int × Int) : Int × Int := low (a.1 * b.1) (a.2 * b.2)
def S2 (f : Int × Int → Int × Int → D) : DSp := fun ds M Φ _ => ∃ a b : Int × Int, ds = [dP a, dP b] ∧ Bd 1500 a ∧ Bd 1500 b ∧ Φ (f a b) M
def S_plus : DSp := S2 fun a b => dP (fPlus a b)
def S_minus : DSp := S2 fun a b => dP (fMinus a b)
def S_times : DSp := S2 fun a b => dP (fTimes a b)
def S_below : DSp := fun ds M Φ _ => ∃ a b : Int × Int, ds = [dP a, dP b] ∧ Bd 1500 a ∧ Bd 1500 b ∧ (a.1 * b.2 < b.1 * a.2 → Φ (.bl true) M) ∧ (¬ a.1 * b.2 < b.1 * a.2 → Φ (.bl false) M)
def S_greater : DSp := fun ds M Φ _ => ∃ a b : Int × Int, ds = [dP a, dP b] ∧ Bd 1500 a ∧ Bd 1500 b ∧ (a.1 * b.2 < b.1 * a.2 → Φ (dP b) M) ∧ (¬ a.1 * b.2 < b.1 * a.2 → Φ (dP a) M)
def fMean (num den : Int) (a b : Int × Int) : Int × Int := fPlus (fTimes (low num den) a) (fTimes (low (den - num) den) b)
def S_mean : DSp := fun ds M Φ _ => ∃ (num den : Int) (a b : Int × Int), ds = [.int num, .int den, dP a, dP b] ∧ 0 ≤ num ∧ num ≤ den ∧ 0 < den ∧ den < 2 ^ 300 ∧ Bd 300 a ∧ Bd 300 b ∧ Φ (dP (fMean num den a b)) M
def S_law_cell : DSp := fun ds M Φ _ => ∃ (ns : List Int) (k : Int), ds = [.scr ns, .int k] ∧ 0 ≤ k ∧ ∀ c : Int, 0 ≤ c → c < 10 ^ 60 → Φ (.int c) M
def S_law_gcd : DSp := fun ds M Φ _ => ∃ a b : Int, ds = [.int a, .int b] ∧ 0 ≤ a ∧ 0 ≤ b ∧ b.natAbs < 2 ^ 1990 ∧ Φ (.int (gq a b)) M
def S_law_lowest : DSp := fun ds M Φ _ => ∃ i j : Int, ds = [.int i, .int j] ∧ 0 < j ∧ j.natAbs < 2 ^ 1990 ∧ Φ (dP (low i j)) M
def S_law_is : DSp := fun ds M Φ _ => ∃ p q : Int × Int, ds = [dP p, dP q] ∧ (p = q → Φ (.bl true) M) ∧ (p ≠ q → Φ (.bl false) M)
def S_law_pair : DSp := fun ds M Φ _ => ∃ (ns : List Int) (k : Int), ds = [.scr ns, .int k] ∧ 0 ≤ k ∧ k < 1000 ∧ ∀ p : Int × Int, Bd 200 p → Φ (dP p) M
abbrev S_law := lawSp
theorem ar_lowest : Arity S_lowest 2 := by rintro ds M Φ Ψ ⟨_, _, rfl, _⟩; rfl
theorem ar_plus : Arity S_plus 2 := by rintro ds M Φ Ψ ⟨_, _, rfl, _⟩; rfl
theorem ar_minus : Arity S_minus 2 := by rintro ds M Φ Ψ ⟨_, _, rfl, _⟩; rfl
theorem ar_times : Arity S_times 2 := by rintro ds M Φ Ψ ⟨_, _, rfl, _⟩; rfl
theorem ar_below : Arity S_below 2 := by rintro ds M Φ Ψ ⟨_, _, rfl, _⟩; rfl
theorem ar_greater : Arity S_greater 2 := by rintro ds M Φ Ψ ⟨_, _, rfl, _⟩; rfl
theorem ar_mean : Arity S_mean 4 := by rintro ds M Φ Ψ ⟨_, _, _, _, rfl, _⟩; rfl
theorem ar_law_cell : Arity S_law_cell 2 := by rintro ds M Φ Ψ ⟨_, _, rfl, _⟩; rfl
theorem ar_law_gcd : Arity S_law_gcd 2 := by rintro ds M Φ Ψ ⟨_, _, rfl, _⟩; rfl
theorem ar_law_lowest : Arity S_law_lowest 2 := by rintro ds M Φ Ψ ⟨_, _, rfl, _⟩; rfl
theorem ar_law_is : Arity S_law_is 2 := by rintro ds M Φ Ψ ⟨_, _, rfl, _⟩; rfl
theorem ar_law_pair : Arity S_law_pair 2 := by rintro ds M Φ Ψ ⟨_, _, rfl, _⟩; rfl
theorem ar_law : Arity S_law 1 := by rintro ds M Φ Ψ ⟨_, rfl, _⟩; rfl
/-! lowest: slots 0 num 1 den 2 common -/
def r_lowest_1 : RS := (dRet (dTup (dCons (dOp (dIC CDivA fun i j => .int (i / j)) (dVar 0) (dVar 2)) (dCons (dOp (dIC CDivA fun i j => .int (i / j)) (dVar 1) (dVar 2)) dNil))))
def r_lowest : RS := dSeq (dSet 2 (dCB (dI2 fun i j => .int ((Nat.gcd i.natAbs j.natAbs : Nat) : Int)) (dCons (dVar 0) (dCons (dVar 1) dNil)))) r_lowest_1

/-! below: slots 0 a 1 b -/
def r_below : RS := (dRet (dOp dLt (dOp (dIC CMulA fun i j => .int (i * j)) (dOp dIx (dVar 0) (dC (.int 0))) (dOp dIx (dVar 1) (dC (.int 1)))) (dOp (dIC CMulA fun i j => .int (i * j)) (dOp dIx (dVar 1) (dC (.int 0))) (dOp dIx (dVar 0) (dC (.int 1))))))

/-! _law_cell: slots 0 _law_script 1 _law_k -/
def r_law_cell_1 : RS := (dRet (dC (.int 0)))
def r_law_cell : RS := dSeq (dIfS (dTest (dOp dLt (dVar 1) (dCB dLen (dCons (dVar 0) dNil)))) (dRet (dOp (dIC (fun _ j => 0 < j) fun i j => .int (i % j)) (dCB dAbs (dCons (dCB dInt (dCons (dOp dIx (dVar 0) (dVar 1)) dNil)) dNil)) (dOp (dIC CPow fun i j => .int (i ^ j.toNat)) (dC (.int 10)) (dC (.int 60))))) dNext) r_law_cell_1

/-! _law_gcd: slots 0 _law_a 1 _law_b 2 _law_turn -/
def b_law_gcd_1 : RS := (dSeq (dIfS (dTest (dOp dEqA (dVar 1) (dC (.int 0)))) dBrk dNext)
    (dPar 0 1 (dCons (dVar 1) (dCons (dOp (dIC (fun _ j => 0 < j) fun i j => .int (i % j)) (dCB dInt (dCons (dVar 0) dNil)) (dVar 1)) dNil))))
def r_law_gcd_1 : RS := (dRet (dVar 0))
def r_law_gcd : RS := dSeq (dForR 2 [2] (dC (.int 4000)) b_law_gcd_1) r_law_gcd_1

/-! _law_is: slots 0 _law_told 1 _law_due 2 _law_part -/
def b_law_is_3 : RS := (dIfS (dOr (dNot (dTruth (dIsi "int" (dVar 2)))) (dTruth (dIsi "bool" (dVar 2)))) (dRet (dC (.bl false))) dNext)
def r_law_is_2 : RS := (dRet (dOp dEqA (dVar 0) (dVar 1)))
def r_law_is_1 : RS := dSeq (dFor 2 [2] (dVar 0) b_law_is_3) r_law_is_2
def r_law_is : RS := dSeq (dIfS (dOr (dNot (dTruth (dIsi "tuple" (dVar 0)))) (dTest (dOp dNeA (dCB dLen (dCons (dVar 0) dNil)) (dC (.int 2))))) (dRet (dC (.bl false))) dNext) r_law_is_1

/-! plus: slots 0 a 1 b -/
def r_plus : RS := (dRet (dCall S_lowest (dCons (dOp dAdd (dOp (dIC CMulA fun i j => .int (i * j)) (dOp dIx (dVar 0) (dC (.int 0))) (dOp dIx (dVar 1) (dC (.int 1)))) (dOp (dIC CMulA fun i j => .int (i * j)) (dOp dIx (dVar 1) (dC (.int 0))) (dOp dIx (dVar 0) (dC (.int 1))))) (dCons (dOp (dIC CMulA fun i j => .int (i * j)) (dOp dIx (dVar 0) (dC (.int 1))) (dOp dIx (dVar 1) (dC (.int 1)))) dNil))))

/-! minus: slots 0 a 1 b -/
def r_minus : RS := (dRet (dCall S_lowest (dCons (dOp (dI fun i j => .int (i - j)) (dOp (dIC CMulA fun i j => .int (i * j)) (dOp dIx (dVar 0) (dC (.int 0))) (dOp dIx (dVar 1) (dC (.int 1)))) (dOp (dIC CMulA fun i j => .int (i * j)) (dOp dIx (dVar 1) (dC (.int 0))) (dOp dIx (dVar 0) (dC (.int 1))))) (dCons (dOp (dIC CMulA fun i j => .int (i * j)) (dOp dIx (dVar 0) (dC (.int 1))) (dOp dIx (dVar 1) (dC (.int 1)))) dNil))))

/-! times: slots 0 a 1 b -/
def r_times : RS := (dRet (dCall S_lowest (dCons (dOp (dIC CMulA fun i j => .int (i * j)) (dOp dIx (dVar 0) (dC (.int 0))) (dOp dIx (dVar 1) (dC (.int 0)))) (dCons (dOp (dIC CMulA fun i j => .int (i * j)) (dOp dIx (dVar 0) (dC (.int 1))) (dOp dIx (dVar 1) (dC (.int 1)))) dNil))))

/-! greater: slots 0 a 1 b -/
def r_greater : RS := (dRet (dIf (dTruth (dCall S_below (dCons (dVar 0) (dCons (dVar 1) dNil)))) (dVar 1) (dVar 0)))

/-! _law_lowest: slots 0 _law_num 1 _law_den 2 _law_common -/
def r_law_lowest_1 : RS := (dRet (dTup (dCons (dOp (dIC CDivA fun i j => .int (i / j)) (dVar 0) (dVar 2)) (dCons (dOp (dIC CDivA fun i j => .int (i / j)) (dVar 1) (dVar 2)) dNil))))
def r_law_lowest : RS := dSeq (dSet 2 (dCall S_law_gcd (dCons (dCB dAbs (dCons (dVar 0) dNil)) (dCons (dVar 1) dNil)))) r_law_lowest_1

/-! _law_pair: slots 0 _law_script 1 _law_k 2 _law_row_here 3 _law_num 4 _law_den -/
def r_law_pair_5 : RS := (dRet (dTup (dCons (dVar 3) (dCons (dVar 4) dNil))))
def r_law_pair_4 : RS := dSeq (dIfS (dTest (dOp dEqA (dOp (dIC (fun _ j => 0 < j) fun i j => .int (i % j)) (dOp dIx (dVar 2) (dC (.int 3))) (dC (.int 3))) (dC (.int 0)))) (dSet 3 (dNeg (dVar 3))) dNext) r_law_pair_5
def r_law_pair_3 : RS := dSeq (dIfS (dTest (dOp dEqA (dOp (dIC (fun _ j => 0 < j) fun i j => .int (i % j)) (dOp dIx (dVar 2) (dC (.int 0))) (dC (.int 2))) (dC (.int 0)))) (dSeq (dSet 3 (dOp (dIC (fun _ j => 0 < j) fun i j => .int (i % j)) (dCB dInt (dCons (dOp dIx (dVar 2) (dC (.int 1))) dNil)) (dC (.int 13))))
    (dSet 4 (dOp dAdd (dC (.int 1)) (dOp (dIC (fun _ j => 0 < j) fun i j => .int (i % j)) (dCB dInt (dCons (dOp dIx (dVar 2) (dC (.int 2))) dNil)) (dC (.int 12)))))) dNext) r_law_pair_4
def r_law_pair_2 : RS := dSeq (dSet 4 (dOp dAdd (dC (.int 1)) (dOp (dIC CDivA fun i j => .int (i / j)) (dCall S_law_cell (dCons (dVar 0) (dCons (dOp dAdd (dVar 1) (dC (.int 2))) dNil))) (dC (.int 11))))) r_law_pair_3
def r_law_pair_1 : RS := dSeq (dSet 3 (dOp (dIC CDivA fun i j => .int (i / j)) (dCall S_law_cell (dCons (dVar 0) (dCons (dOp dAdd (dVar 1) (dC (.int 1))) dNil))) (dC (.int 7)))) r_law_pair_2
def r_law_pair : RS := dSeq (dSet 2 (dCall S_law_row (dCons (dVar 0) (dCons (dVar 1) (dCons (dC (.int 4)) dNil))))) r_law_pair_1

/-! mean: slots 0 num 1 den 2 a 3 b -/
def r_mean : RS := (dRet (dCall S_plus (dCons (dCall S_times (dCons (dCall S_lowest (dCons (dVar 0) (dCons (dVar 1) dNil))) (dCons (dVar 2) dNil))) (dCons (dCall S_times (dCons (dCall S_lowest (dCons (dOp (dI fun i j => .int (i - j)) (dVar 1) (dVar 0)) (dCons (dVar 1) dNil))) (dCons (dVar 3) dNil))) dNil))))

/-! law: slots 0 _law_script 1 _law_num 2 _law_den 3 _law_other 4 _law_under 5 _law_row_here 6 _law_a 7 _law_b 8 _law_less 9 _law_told 10 _law_whole 11 _law_part 12 _law_due -/
def r_law_17 : RS := (dRet (dCall S_law_is (dCons (dCall S_mean (dCons (dVar 11) (dCons (dVar 10) (dCons (dVar 6) (dCons (dVar 7) dNil))))) (dCons (dVar 12) dNil))))
def r_law_16 : RS := dSeq (dSet 12 (dCall S_law_lowest (dCons (dOp dAdd (dOp (dIC CMulA fun i j => .int (i * j)) (dOp (dIC CMulA fun i j => .int (i * j)) (dVar 11) (dOp dIx (dVar 6) (dC (.int 0)))) (dOp dIx (dVar 7) (dC (.int 1)))) (dOp (dIC CMulA fun i j => .int (i * j)) (dOp (dIC CMulA fun i j => .int (i * j)) (dOp (dI fun i j => .int (i - j)) (dVar 10) (dVar 11)) (dOp dIx (dVar 7) (dC (.int 0)))) (dOp dIx (dVar 6) (dC (.int 1))))) (dCons (dOp (dIC CMulA fun i j => .int (i * j)) (dOp (dIC CMulA fun i j => .int (i * j)) (dVar 10) (dOp dIx (dVar 6) (dC (.int 1)))) (dOp dIx (dVar 7) (dC (.int 1)))) dNil)))) r_law_17
def r_law_15 : RS := dSeq (dSet 11 (dOp (dIC (fun _ j => 0 < j) fun i j => .int (i % j)) (dCB dInt (dCons (dOp dIx (dVar 5) (dC (.int 3))) dNil)) (dOp dAdd (dVar 10) (dC (.int 1))))) r_law_16
def r_law_14 : RS := dSeq (dSet 10 (dOp dAdd (dC (.int 1)) (dOp (dIC (fun _ j => 0 < j) fun i j => .int (i % j)) (dCB dInt (dCons (dOp dIx (dVar 5) (dC (.int 2))) dNil)) (dC (.int 12))))) r_law_15
def r_law_13 : RS := dSeq (dIfS (dOr (dTest (dOp dNotB (dCall S_below (dCons (dVar 6) (dCons (dVar 6) dNil))) (dC (.bl false)))) (dOr (dNot (dTruth (dCall S_law_is (dCons (dCall S_greater (dCons (dVar 6) (dCons (dVar 7) dNil))) (dCons (dIf (dTruth (dVar 8)) (dVar 7) (dVar 6)) dNil))))) (dNot (dTruth (dCall S_law_is (dCons (dCall S_greater (dCons (dVar 7) (dCons (dVar 7) dNil))) (dCons (dVar 7) dNil))))))) (dRet (dC (.bl false))) dNext) r_law_14
def r_law_12 : RS := dSeq (dIfS (dOr (dAnd (dTruth (dVar 8)) (dTest (dOp dNotB (dVar 9) (dC (.bl true))))) (dAnd (dNot (dTruth (dVar 8))) (dTest (dOp dNotB (dVar 9) (dC (.bl false)))))) (dRet (dC (.bl false))) dNext) r_law_13
def r_law_11 : RS := dSeq (dSet 9 (dCall S_below (dCons (dVar 6) (dCons (dVar 7) dNil)))) r_law_12
def r_law_10 : RS := dSeq (dSet 8 (dOp dLt (dOp (dIC CMulA fun i j => .int (i * j)) (dOp dIx (dVar 6) (dC (.int 0))) (dOp dIx (dVar 7) (dC (.int 1)))) (dOp (dIC CMulA fun i j => .int (i * j)) (dOp dIx (dVar 7) (dC (.int 0))) (dOp dIx (dVar 6) (dC (.int 1)))))) r_law_11
def r_law_9 : RS := dSeq (dIfS (dNot (dTruth (dCall S_law_is (dCons (dCall S_times (dCons (dVar 6) (dCons (dVar 7) dNil))) (dCons (dCall S_law_lowest (dCons (dOp (dIC CMulA fun i j => .int (i * j)) (dOp dIx (dVar 6) (dC (.int 0))) (dOp dIx (dVar 7) (dC (.int 0)))) (dCons (dOp (dIC CMulA fun i j => .int (i * j)) (dOp dIx (dVar 6) (dC (.int 1))) (dOp dIx (dVar 7) (dC (.int 1)))) dNil))) dNil))))) (dRet (dC (.bl false))) dNext) r_law_10
def r_law_8 : RS := dSeq (dIfS (dNot (dTruth (dCall S_law_is (dCons (dCall S_minus (dCons (dVar 6) (dCons (dVar 7) dNil))) (dCons (dCall S_law_lowest (dCons (dOp (dI fun i j => .int (i - j)) (dOp (dIC CMulA fun i j => .int (i * j)) (dOp dIx (dVar 6) (dC (.int 0))) (dOp dIx (dVar 7) (dC (.int 1)))) (dOp (dIC CMulA fun i j => .int (i * j)) (dOp dIx (dVar 7) (dC (.int 0))) (dOp dIx (dVar 6) (dC (.int 1))))) (dCons (dOp (dIC CMulA fun i j => .int (i * j)) (dOp dIx (dVar 6) (dC (.int 1))) (dOp dIx (dVar 7) (dC (.int 1)))) dNil))) dNil))))) (dRet (dC (.bl false))) dNext) r_law_9
def r_law_7 : RS := dSeq (dIfS (dNot (dTruth (dCall S_law_is (dCons (dCall S_plus (dCons (dVar 6) (dCons (dVar 7) dNil))) (dCons (dCall S_law_lowest (dCons (dOp dAdd (dOp (dIC CMulA fun i j => .int (i * j)) (dOp dIx (dVar 6) (dC (.int 0))) (dOp dIx (dVar 7) (dC (.int 1)))) (dOp (dIC CMulA fun i j => .int (i * j)) (dOp dIx (dVar 7) (dC (.int 0))) (dOp dIx (dVar 6) (dC (.int 1))))) (dCons (dOp (dIC CMulA fun i j => .int (i * j)) (dOp dIx (dVar 6) (dC (.int 1))) (dOp dIx (dVar 7) (dC (.int 1)))) dNil))) dNil))))) (dRet (dC (.bl false))) dNext) r_law_8
def r_law_6 : RS := dSeq (dSet 7 (dCall S_law_lowest (dCons (dVar 3) (dCons (dVar 4) dNil)))) r_law_7
def r_law_5 : RS := dSeq (dSet 6 (dCall S_law_lowest (dCons (dVar 1) (dCons (dVar 2) dNil)))) r_law_6
def r_law_4 : RS := dSeq (dIfS (dOr (dNot (dTruth (dCall S_law_is (dCons (dCall S_lowest (dCons (dVar 1) (dCons (dVar 2) dNil))) (dCons (dCall S_law_lowest (dCons (dVar 1) (dCons (dVar 2) dNil))) dNil))))) (dNot (dTruth (dCall S_law_is (dCons (dCall S_lowest (dCons (dVar 3) (dCons (dVar 4) dNil))) (dCons (dCall S_law_lowest (dCons (dVar 3) (dCons (dVar 4) dNil))) dNil)))))) (dRet (dC (.bl false))) dNext) r_law_5
def r_law_3 : RS := dSeq (dIfS (dTest (dOp dEqA (dOp (dIC (fun _ j => 0 < j) fun i j => .int (i % j)) (dOp dIx (dVar 5) (dC (.int 0))) (dC (.int 5))) (dC (.int 0)))) (dPar 3 4 (dCons (dOp (dIC CMulA fun i j => .int (i * j)) (dVar 1) (dOp dAdd (dC (.int 1)) (dOp (dIC (fun _ j => 0 < j) fun i j => .int (i % j)) (dOp dIx (dVar 5) (dC (.int 1))) (dC (.int 3))))) (dCons (dOp (dIC CMulA fun i j => .int (i * j)) (dVar 2) (dOp dAdd (dC (.int 1)) (dOp (dIC (fun _ j => 0 < j) fun i j => .int (i % j)) (dOp dIx (dVar 5) (dC (.int 1))) (dC (.int 3))))) dNil))) dNext) r_law_4
def r_law_2 : RS := dSeq (dSet 5 (dCall S_law_row (dCons (dVar 0) (dCons (dC (.int 6)) (dCons (dC (.int 4)) dNil))))) r_law_3
def r_law_1 : RS := dSeq (dUnp [3, 4] (dCall S_law_pair (dCons (dVar 0) (dCons (dC (.int 3)) dNil)))) r_law_2
def r_law : RS := dSeq (dUnp [1, 2] (dCall S_law_pair (dCons (dVar 0) (dCons (dC (.int 0)) dNil)))) r_law_1
abbrev ends (Φ : D → Mem → Prop) : DE := { nx := fun _ M' => Φ .non M', rt := Φ }
theorem red_lowest : ∀ ds M Φ Ψ, S_lowest ds M Φ Ψ → r_lowest (ends Φ) (startD 3 ds) M := by
  rintro ds M Φ Ψ ⟨i, j, rfl, h0, hb, q⟩
  have h1 := gq_pos (i := i) h0
  have h2 := gq_le (i := i) h0
  have h3 : (gq i j).natAbs < 2 ^ 9000 := Nat.lt_of_le_of_lt (by omega) (up hb (by decide : 8000 ≤ 9000))
  exact ⟨divOk h1 h3, divOk h1 h3, q⟩
theorem ix0 {x y : D} : atI [x, y] (0 : Int) = some x := rfl
theorem ix1 {x y : D} : atI [x, y] (1 : Int) = some y := rfl
theorem red_below : ∀ ds M Φ Ψ, S_below ds M Φ Ψ → r_below (ends Φ) (startD 2 ds) M := by
  rintro ds M Φ Ψ ⟨a, b, rfl, ha, hb, q1, q2⟩
  have m1 : CMulA a.1 b.2 := mulOk (by decide) (by decide) ha.1 hb.2.1
  have m2 : CMulA b.1 a.2 := mulOk (by decide) (by decide) hb.1 ha.2.1
  refine ⟨_, ix0, _, ix1, m1, _, ix0, _, ix1, m2, ?_⟩
  show Φ (.bl (decide (a.1 * b.2 < b.1 * a.2))) M
  by_cases h : a.1 * b.2 < b.1 * a.2
  · rw [decide_eq_true h]
    exact q1 h
  · rw [decide_eq_false h]
    exact q2 h
theorem red_plus : ∀ ds M Φ Ψ, S_plus ds M Φ Ψ → r_plus (ends Φ) (startD 2 ds) M := by
  rintro ds M Φ Ψ ⟨a, b, rfl, ha, hb, q⟩
  have m1 : CMulA a.1 b.2 := mulOk (by decide) (by decide) ha.1 hb.2.1
  have m2 : CMulA b.1 a.2 := mulOk (by decide) (by decide) hb.1 ha.2.1
  have m3 : CMulA a.2 b.2 := mulOk (by decide) (by decide) ha.2.1 hb.2.1
  exact ⟨_, ix0, _, ix1, m1, _, ix0, _, ix1, m2, _, ix1, _, ix1, m3, _, _, rfl, mul_pos ha.2.2 hb.2.2, up (mul_lt ha.2.1 hb.2.1) (by decide), q⟩
theorem red_minus : ∀ ds M Φ Ψ, S_minus ds M Φ Ψ → r_minus (ends Φ) (startD 2 ds) M := by
  rintro ds M Φ Ψ ⟨a, b, rfl, ha, hb, q⟩
  have m1 : CMulA a.1 b.2 := mulOk (by decide) (by decide) ha.1 hb.2.1
  have m2 : CMulA b.1 a.2 := mulOk (by decide) (by decide) hb.1 ha.2.1
  have m3 : CMulA a.2 b.2 := mulOk (by decide) (by decide) ha.2.1 hb.2.1
  exact ⟨_, ix0, _, ix1, m1, _, ix0, _, ix1, m2, _, ix1, _, ix1, m3, _, _, rfl, mul_pos ha.2.2 hb.2.2, up (mul_lt ha.2.1 hb.2.1) (by decide), q⟩
theorem red_times : ∀ ds M Φ Ψ, S_times ds M Φ Ψ → r_times (ends Φ) (startD 2 ds) M := by
  rintro ds M Φ Ψ ⟨a, b, rfl, ha, hb, q⟩
  have m1 : CMulA a.1 b.1 := mulOk (by decide) (by decide) ha.1 hb.1
  have m3 : CMulA a.2 b.2 := mulOk (by decide) (by decide) ha.2.1 hb.2.1
  exact ⟨_, ix0, _, ix0, m1, _, ix1, _, ix1, m3, _, _, rfl, mul_pos ha.2.2 hb.2.2, up (mul_lt ha.2.1 hb.2.1) (by decide), q⟩
theorem red_greater : ∀ ds M Φ Ψ, S_greater ds M Φ Ψ → r_greater (ends Φ) (startD 2 ds) M := by
  rintro ds M Φ Ψ ⟨a, b, rfl, ha, hb, q1, q2⟩
  exact ⟨a, b, rfl, ha, hb, fun h => ⟨fun _ => q1 h, fun z => Bool.noConfusion z⟩, fun h => ⟨fun z => Bool.noConfusion z, fun _ => q2 h⟩⟩
theorem plus_bd {n : Nat} {a b : Int × Int} (ha : Bd n a) (hb : Bd n b) : Bd (2 * n + 1) (fPlus a b) :=
  low_Bd (add_lt (mul_lt ha.1 hb.2.1) (mul_lt hb.1 ha.2.1)) (up (mul_lt ha.2.1 hb.2.1) (by omega)) (mul_pos ha.2.2 hb.2.2)
theorem times_bd {n : Nat} {a b : Int × Int} (ha : Bd n a) (hb : Bd n b) : Bd (2 * n) (fTimes a b) :=
  low_Bd (mul_lt ha.1 hb.1) (mul_lt ha.2.1 hb.2.1) (mul_pos ha.2.2 hb.2.2)
theorem red_mean : ∀ ds M Φ Ψ, S_mean ds M Φ Ψ → r_mean (ends Φ) (startD 4 ds) M := by
  rintro ds M Φ Ψ ⟨num, den, a, b, rfl, h0, h1, h2, h3, ha, hb, q⟩
  have e : (2 : Int) ^ 300 = ((2 ^ 300 : Nat) : Int) := by rw [Int.natCast_pow] <;> rfl
  have hd : den.natAbs < 2 ^ 300 := by omega
  have hn : num.natAbs < 2 ^ 300 := by omega
  have hn' : (den - num).natAbs < 2 ^ 300 := by omega
  have b1 : Bd 300 (low num den) := low_Bd hn hd h2
  have b2 : Bd 300 (low (den - num) den) := low_Bd hn' hd h2
  refine ⟨num, den, rfl, h2, up hd (by decide), _, a, rfl, b1.mono (by decide), ha.mono (by decide), ?_⟩
  refine ⟨den - num, den, rfl, h2, up hd (by decide), _, b, rfl, b2.mono (by decide), hb.mono (by decide), ?_⟩
  exact ⟨_, _, rfl, (times_bd b1 ha).mono (by decide), (times_bd b2 hb).mono (by decide), q⟩
theorem red_law_cell : ∀ ds M Φ Ψ, S_law_cell ds M Φ Ψ → r_law_cell (ends Φ) (startD 2 ds) M := by
  rintro ds M Φ Ψ ⟨ns, k, rfl, h0, q⟩
  have e : (10 : Int) ^ (60 : Int).toNat = 10 ^ 60 := rfl
  have p : (0 : Int) < 10 ^ 60 := by decide
  refine ⟨fun hb => ?_, fun hb => ?_⟩
  · have hlt : k < (ns.length : Int) := of_decide_eq_true hb
    refine ⟨_, getD_of h0 hlt, ⟨by decide, by decide, by decide⟩, ?_, ?_⟩
    · show (0 : Int) < 10 ^ 60
      exact p
    · exact q _ (Int.emod_nonneg _ (by decide)) (Int.emod_lt_of_pos _ p)
  · exact q 0 (by decide) p
/-- Euclid: what holds at turn i -/
structure Eu (a0 b0 : Int) (i : Nat) (a b : Int) : Prop where
  g : gq a b = gq a0 b0
  a0 : 0 ≤ a
  b0 : 0 ≤ b
  lt : 1 ≤ i → b < a
  ha : 1 ≤ i → a.natAbs * 2 ^ ((i - 1) / 2) < 2 ^ 1990
  hb : b.natAbs * 2 ^ (i / 2) < 2 ^ 1990
theorem Eu.step {a0 b0 a b : Int} {i : Nat} (h : Eu a0 b0 i a b) (hb : b ≠ 0) : Eu a0 b0 (i + 1) b (a % b) where
  g := by
    rw [← h.g]
    unfold gq
    have e : (a % b).natAbs = a.natAbs % b.natAbs := Int.natAbs_emod_of_nonneg h.a0 b
    rw [e, Nat.gcd_comm a.natAbs, Nat.gcd_comm b.natAbs, ← Nat.gcd_rec]
  a0 := h.b0
  b0 := Int.emod_nonneg _ hb
  lt := fun _ => Int.emod_lt_of_pos _ (by have := h.b0; omega)
  ha := fun _ => h.hb
  hb := by
    have hb0 := h.b0
    have ha0 := h.a0
    by_cases hi : i = 0
    · subst hi
      show (a % b).natAbs * 2 ^ 0 < 2 ^ 1990
      have h1 := h.hb
      rw [show 0 / 2 = 0 from rfl, Nat.pow_zero, Nat.mul_one] at h1
      have h2 := Int.emod_lt_of_pos a (show 0 < b by omega)
      have h3 := Int.emod_nonneg a hb
      rw [Nat.pow_zero, Nat.mul_one]
      omega
    · have h1 := h.ha (by omega)
      have h2 := h.lt (by omega)
      have e : (i + 1) / 2 = (i - 1) / 2 + 1 := by omega
      have h3 : (a % b).natAbs * 2 ≤ a.natAbs := by
        have h4 := Int.emod_lt_of_pos a (show 0 < b by omega)
        have h5 := Int.emod_nonneg a hb
        have h6 := Int.mul_ediv_add_emod a b
        have h7 : 1 ≤ a / b := by
          have := Int.ediv_le_ediv (show (0 : Int) < b by omega) (Int.le_of_lt h2)
          rw [Int.ediv_self hb] at this
          exact this
        have h8 : b ≤ b * (a / b) := by
          have := Int.mul_le_mul_of_nonneg_left h7 hb0
          rw [Int.mul_one] at this
          exact this
        omega
      rw [e, Nat.pow_succ, ← Nat.mul_assoc]
      calc (a % b).natAbs * 2 ^ ((i - 1) / 2) * 2 = (a % b).natAbs * 2 * 2 ^ ((i - 1) / 2) := by rw [Nat.mul_assoc, Nat.mul_assoc, Nat.mul_comm (2 ^ _) 2]
        _ ≤ a.natAbs * 2 ^ ((i - 1) / 2) := Nat.mul_le_mul_right _ h3
        _ < 2 ^ 1990 := h1
theorem red_law_gcd : ∀ ds M Φ Ψ, S_law_gcd ds M Φ Ψ → r_law_gcd (ends Φ) (startD 3 ds) M := by
  rintro ds M Φ Ψ ⟨a, b, rfl, ha, hb, hbd, q⟩
  refine ⟨⟨by decide, by decide⟩, ?_⟩
  refine ⟨fun i Δ M' => M' = M ∧ ∃ x y, Δ = [.d (.int x), .d (.int y), .un] ∧ Eu a b i x y, ?_, ?_, ?_⟩
  · exact ⟨rfl, a, b, rfl, rfl, ha, hb, fun h => absurd h (by decide), fun h => absurd h (by decide), by rw [show 0 / 2 = 0 from rfl, Nat.pow_zero, Nat.mul_one]; exact hbd⟩
  · rintro i d Δ1 M1 hi ⟨rfl, x, y, rfl, eu⟩
    refine ⟨fun h => ?_, fun h => ?_⟩
    · have hy : y = 0 := of_decide_eq_true h
      subst hy
      have e := eu.g
      have e2 : gq x 0 = x := by
        unfold gq
        rw [show (0 : Int).natAbs = 0 from rfl, Nat.gcd_zero_right]
        have := eu.a0
        omega
      rw [e2] at e
      show Φ (.int x) _
      rw [e]
      exact q
    · have hy : y ≠ 0 := of_decide_eq_false h
      have := eu.b0
      exact ⟨by show 0 < y; omega, rfl, y, x % y, rfl, eu.step hy⟩
  · rintro Δ1 M1 ⟨rfl, x, y, rfl, eu⟩
    have e : (rangeD 0 (4000 : Int).toNat).length = 4000 := rangeD_len
    rw [e] at eu
    exfalso
    have h1 := eu.lt (by decide)
    have h2 := eu.ha (by decide)
    have h3 := eu.b0
    rw [show (4000 - 1) / 2 = 1990 + 9 from rfl, Nat.pow_add, ← Nat.mul_assoc] at h2
    have h4 : 1 ≤ x.natAbs := by omega
    have h5 : 2 ^ 1990 ≤ x.natAbs * 2 ^ 1990 * 2 ^ 9 := by
      calc 2 ^ 1990 = 1 * 2 ^ 1990 * 1 := by rw [Nat.one_mul, Nat.mul_one]
        _ ≤ x.natAbs * 2 ^ 1990 * 2 ^ 9 := Nat.mul_le_mul (Nat.mul_le_mul_right _ h4) (by decide)
    exact absurd h2 (Nat.not_lt.mpr h5)
theorem gq_abs (i j : Int) : gq (if i < 0 then -i else i) j = gq i j := by
  unfold gq
  split
  · rw [Int.natAbs_neg]
  · rfl
theorem red_law_lowest : ∀ ds M Φ Ψ, S_law_lowest ds M Φ Ψ → r_law_lowest (ends Φ) (startD 3 ds) M := by
  rintro ds M Φ Ψ ⟨i, j, rfl, h0, hb, q⟩
  have h1 := gq_pos (i := i) h0
  have h2 := gq_le (i := i) h0
  have h3 : (gq i j).natAbs < 2 ^ 9000 := Nat.lt_of_le_of_lt (by omega) (up hb (by decide : 1990 ≤ 9000))
  refine ⟨_, j, rfl, ?_, by omega, hb, ?_⟩
  · split <;> omega
  · rw [gq_abs]
    exact ⟨divOk h1 h3, divOk h1 h3, q⟩
theorem eqv_pair (p q : Int × Int) : PyData.eqv (dP p).py (dP q).py = decide (p = q) := by
  obtain ⟨a, b⟩ := p
  obtain ⟨c, d⟩ := q
  show ((a == c) && ((b == d) && true)) = decide ((a, b) = (c, d))
  rw [Bool.eq_iff_iff]
  simp
theorem red_law_is : ∀ ds M Φ Ψ, S_law_is ds M Φ Ψ → r_law_is (ends Φ) (startD 3 ds) M := by
  rintro ds M Φ Ψ ⟨p, q, rfl, k1, k2⟩
  have body : ∀ (De : DE) (x : Int) (Δ : List Sl), De.nx [.d (dP p), .d (dP q), .d (.int x)] M → b_law_is_3 De [.d (dP p), .d (dP q), .d (.int x)] M := by
    intro De x Δ h
    exact ⟨true, rfl, false, rfl, fun h => absurd h (by decide), fun _ => h⟩
  refine ⟨true, rfl, fun h => Bool.noConfusion (show false = true from h), fun _ => ?_⟩
  refine loop_by (fun i => [.d (dP p), .d (dP q), .un]) rfl (fun i d hi => ?_) ?_
  · obtain ⟨x, rfl⟩ : ∃ x, d = .int x := by
      match i, hi with
      | 0, hi => exact ⟨_, (Option.some.inj hi).symm⟩
      | 1, hi => exact ⟨_, (Option.some.inj hi).symm⟩
    exact body _ x [] ⟨rfl, rfl⟩
  · refine ⟨rfl, rfl, rfl, rfl, ?_⟩
    show Φ (.bl (PyData.eqv (dP p).py (dP q).py)) M
    rw [eqv_pair]
    by_cases h : p = q
    · rw [decide_eq_true h]
      exact k1 h
    · rw [decide_eq_false h]
      exact k2 h
theorem scr_ix {ns : List Int} {k : Int} {n i : Nat} (h : i < n) : ∃ r, atI ((lawRow ns k n).map D.int) (i : Int) = some (.int r) ∧ 0 ≤ r ∧ r < 1000 := by
  obtain ⟨r, h1, _, h2, h3⟩ := lawRow_at (ns := ns) (k := k) h
  exact ⟨r, h1, h2, h3⟩
theorem small200 {c : Int} (h0 : 0 ≤ c) (h : c < 10 ^ 60) : c.natAbs < 2 ^ 200 := by
  have e : (10 : Int) ^ 60 = 1000000000000000000000000000000000000000000000000000000000000 := by decide
  have e2 : (2 : Nat) ^ 200 = 1606938044258990275541962092341162602522202993782792835301376 := by decide
  rw [e] at h
  rw [e2]
  omega
theorem red_law_pair : ∀ ds M Φ Ψ, S_law_pair ds M Φ Ψ → r_law_pair (ends Φ) (startD 5 ds) M := by
  rintro ds M Φ Ψ ⟨ns, k, rfl, h0, h1, q⟩
  obtain ⟨r0, a0, b0⟩ := scr_ix (ns := ns) (k := k) (show 0 < 4 by decide)
  obtain ⟨r1, a1, b1⟩ := scr_ix (ns := ns) (k := k) (show 1 < 4 by decide)
  obtain ⟨r2, a2, b2⟩ := scr_ix (ns := ns) (k := k) (show 2 < 4 by decide)
  obtain ⟨r3, a3, b3⟩ := scr_ix (ns := ns) (k := k) (show 3 < 4 by decide)
  have e2 : (2 : Nat) ^ 200 = 1606938044258990275541962092341162602522202993782792835301376 := by decide
  have fin : ∀ num den : Int, num.natAbs < 2 ^ 200 → den.natAbs < 2 ^ 200 → 0 < den → r_law_pair_4 (ends Φ) [.d (.scr ns), .d (.int k), .d (.lst ((lawRow ns k 4).map .int)), .d (.int num), .d (.int den)] M := by
    intro num den hn hd hp
    refine ⟨_, a3, (by show (0 : Int) < 3; decide), fun _ => ?_, fun _ => ?_⟩
    · exact q (-num, den) ⟨by rw [Int.natAbs_neg]; exact hn, hd, hp⟩
    · exact q (num, den) ⟨hn, hd, hp⟩
  refine ⟨ns, k, 4, rfl, h0, by omega, by decide, ?_⟩
  refine ⟨ns, k + 1, rfl, by omega, fun c1 p1 p2 => ⟨⟨by decide, .inl (by decide)⟩, ?_⟩⟩
  refine ⟨ns, k + 2, rfl, by omega, fun c2 p3 p4 => ⟨⟨by decide, .inl (by decide)⟩, ?_⟩⟩
  have s1 := small200 p1 p2
  have s2 := small200 p3 p4
  refine ⟨_, a0, (by show (0 : Int) < 2; decide), fun _ => ?_, fun _ => ?_⟩
  · exact ⟨_, a1, (by show (0 : Int) < 13; decide), _, a2, (by show (0 : Int) < 12; decide), fin (r1 % 13) (1 + r2 % 12) (by omega) (by omega) (by omega)⟩
  · exact fin (c1 / 7) (1 + c2 / 11) (by omega) (by omega) (by omega)
/-- a truth value that is not -/
theorem nt {P : Prop} (h : false = true) : P := Bool.noConfusion h
theorem mean_due {num den : Int} {a b : Int × Int} (h0 : 0 < den) (ha : 0 < a.2) (hb : 0 < b.2) :
    fMean num den a b = low (num * a.1 * b.2 + (den - num) * b.1 * a.2) (den * a.2 * b.2) := by
  unfold fMean fPlus
  have p1 : 0 < (low num den).2 := low_pos h0
  have p2 : 0 < (low (den - num) den).2 := low_pos h0
  have t1 : 0 < (fTimes (low num den) a).2 := low_pos (mul_pos p1 ha)
  have t2 : 0 < (fTimes (low (den - num) den) b).2 := low_pos (mul_pos p2 hb)
  refine low_cross (mul_pos t1 t2) (mul_pos (mul_pos h0 ha) hb) ?_
  have v1 : (low num den).1 * den = num * (low num den).2 := low_val
  have v2 : (low (den - num) den).1 * den = (den - num) * (low (den - num) den).2 := low_val
  have w1 : (fTimes (low num den) a).1 * ((low num den).2 * a.2) = (low num den).1 * a.1 * (fTimes (low num den) a).2 := low_val
  have w2 : (fTimes (low (den - num) den) b).1 * ((low (den - num) den).2 * b.2) = (low (den - num) den).1 * b.1 * (fTimes (low (den - num) den) b).2 := low_val
  revert p1 p2 t1 t2 v1 v2 w1 w2
  generalize (low num den).1 = u1
  generalize (low num den).2 = u2
  generalize (low (den - num) den).1 = x1
  generalize (low (den - num) den).2 = x2
  generalize (fTimes _ a).1 = y1
  generalize (fTimes _ a).2 = y2
  generalize (fTimes _ b).1 = z1
  generalize (fTimes _ b).2 = z2
  intro p1 p2 t1 t2 v1 v2 w1 w2
  -- y1 den a2 u2 = num a1 y2 u2
  have e1 : y1 * (den * a.2) = num * a.1 * y2 := by
    have h : u2 * (y1 * (den * a.2)) = u2 * (num * a.1 * y2) := by grind
    exact Int.eq_of_mul_eq_mul_left (by omega) h
  have e2 : z1 * (den * b.2) = (den - num) * b.1 * z2 := by
    have h : x2 * (z1 * (den * b.2)) = x2 * ((den - num) * b.1 * z2) := by grind
    exact Int.eq_of_mul_eq_mul_left (by omega) h
  grind
theorem is_self {p : Int × Int} {M : Mem} {Φ : D → Mem → Prop} {Ψ : DX} (h : Φ (.bl true) M) : S_law_is [dP p, dP p] M Φ Ψ := ⟨p, p, rfl, fun _ => h, fun z => absurd rfl z⟩
theorem red_law : ∀ ds M Φ Ψ, S_law ds M Φ Ψ → r_law (ends Φ) (startD 13 ds) M := by
  rintro ds M Φ Ψ ⟨ns, rfl, hl, q⟩
  obtain ⟨r0, a0, b0⟩ := scr_ix (ns := ns) (k := 6) (show 0 < 4 by decide)
  obtain ⟨r1, a1, b1⟩ := scr_ix (ns := ns) (k := 6) (show 1 < 4 by decide)
  obtain ⟨r2, a2, b2⟩ := scr_ix (ns := ns) (k := 6) (show 2 < 4 by decide)
  obtain ⟨r3, a3, b3⟩ := scr_ix (ns := ns) (k := 6) (show 3 < 4 by decide)
  refine ⟨ns, 0, rfl, by decide, by decide, fun n1 g1 => ⟨rfl, ?_⟩⟩
  refine ⟨ns, 3, rfl, by decide, by decide, fun n2 g2 => ⟨rfl, ?_⟩⟩
  refine ⟨ns, 6, 4, rfl, by decide, by decide, by decide, ?_⟩
  let L : D := .lst ((lawRow ns 6 4).map .int)
  have main : ∀ p : Int × Int, Bd 250 p → r_law_4 (ends Φ) [.d (.scr ns), .d (.int n1.1), .d (.int n1.2), .d (.int p.1), .d (.int p.2), .d L, .un, .un, .un, .un, .un, .un, .un] M := by
    intro p gp
    have g1' : Bd 250 n1 := g1.mono (by decide)
    refine ⟨n1.1, n1.2, rfl, g1'.2.2, up g1'.2.1 (by decide), n1.1, n1.2, rfl, g1'.2.2, up g1'.2.1 (by decide), ?_⟩
    refine ⟨_, _, rfl, fun _ => ?_, fun z => absurd rfl z⟩
    refine ⟨p.1, p.2, rfl, gp.2.2, up gp.2.1 (by decide), p.1, p.2, rfl, gp.2.2, up gp.2.1 (by decide), ?_⟩
    refine ⟨_, _, rfl, fun _ => ⟨nt, fun _ => ?_⟩, fun z => absurd rfl z⟩
    refine ⟨n1.1, n1.2, rfl, g1'.2.2, up g1'.2.1 (by decide), p.1, p.2, rfl, gp.2.2, up gp.2.1 (by decide), ?_⟩
    -- the two fractions a, b
    have ga : Bd 250 (low n1.1 n1.2) := low_Bd g1'.1 g1'.2.1 g1'.2.2
    have gb : Bd 250 (low p.1 p.2) := low_Bd gp.1 gp.2.1 gp.2.2
    show r_law_7 (ends Φ) [.d (.scr ns), .d (.int n1.1), .d (.int n1.2), .d (.int p.1), .d (.int p.2), .d L, .d (dP (low n1.1 n1.2)), .d (dP (low p.1 p.2)), .un, .un, .un, .un, .un] M
    generalize hA : low n1.1 n1.2 = a at ga
    generalize hB : low p.1 p.2 = b at gb
    have m1 : CMulA a.1 b.2 := mulOk (by decide) (by decide) ga.1 gb.2.1
    have m2 : CMulA b.1 a.2 := mulOk (by decide) (by decide) gb.1 ga.2.1
    have m3 : CMulA a.2 b.2 := mulOk (by decide) (by decide) ga.2.1 gb.2.1
    have m4 : CMulA a.1 b.1 := mulOk (by decide) (by decide) ga.1 gb.1
    have z1 : 0 < a.2 * b.2 := mul_pos ga.2.2 gb.2.2
    have z2 : (a.2 * b.2).natAbs < 2 ^ 1990 := up (mul_lt ga.2.1 gb.2.1) (by decide)
    have ga' : Bd 1500 a := ga.mono (by decide)
    have gb' : Bd 1500 b := gb.mono (by decide)
    -- plus, minus, times
    refine ⟨a, b, rfl, ga', gb', _, ix0, _, ix1, m1, _, ix0, _, ix1, m2, _, ix1, _, ix1, m3, _, _, rfl, z1, z2, _, _, rfl, fun _ => ⟨nt, fun _ => ?_⟩, fun z => absurd rfl z⟩
    refine ⟨a, b, rfl, ga', gb', _, ix0, _, ix1, m1, _, ix0, _, ix1, m2, _, ix1, _, ix1, m3, _, _, rfl, z1, z2, _, _, rfl, fun _ => ⟨nt, fun _ => ?_⟩, fun z => absurd rfl z⟩
    refine ⟨a, b, rfl, ga', gb', _, ix0, _, ix0, m4, _, ix1, _, ix1, m3, _, _, rfl, z1, z2, _, _, rfl, fun _ => ⟨nt, fun _ => ?_⟩, fun z => absurd rfl z⟩
    -- less
    refine ⟨_, ix0, _, ix1, m1, _, ix0, _, ix1, m2, ?_⟩
    -- behind the comparisons
    have tail : ∀ u v : Sl, ∀ P W : Int, 0 ≤ P → P ≤ W → 0 < W → W < 13 → r_law_16 (ends Φ) [.d (.scr ns), .d (.int n1.1), .d (.int n1.2), .d (.int p.1), .d (.int p.2), .d L, .d (dP a), .d (dP b), u, v, .d (.int W), .d (.int P), .un] M := by
      intro u v P W w1 w2 w3 w4
      have e16 : (2 : Nat) ^ 250 = 2 ^ 4 * 2 ^ 246 := by rw [← Nat.pow_add]
      have i246 : 1 ≤ (2 : Nat) ^ 246 := Nat.one_le_two_pow
      have bP : P.natAbs < 2 ^ 250 := by omega
      have bW : W.natAbs < 2 ^ 250 := by omega
      have bWP : (W - P).natAbs < 2 ^ 250 := by omega
      have k1 : CMulA P a.1 := mulOk (by decide) (by decide) bP ga.1
      have k2 : (P * a.1).natAbs < 2 ^ 500 := mul_lt bP ga.1
      have k3 : CMulA (P * a.1) b.2 := mulOk (n := 500) (by decide) (by decide) k2 (up gb.2.1 (by decide))
      have k4 : CMulA (W - P) b.1 := mulOk (by decide) (by decide) bWP gb.1
      have k5 : ((W - P) * b.1).natAbs < 2 ^ 500 := mul_lt bWP gb.1
      have k6 : CMulA ((W - P) * b.1) a.2 := mulOk (n := 500) (by decide) (by decide) k5 (up ga.2.1 (by decide))
      have k7 : CMulA W a.2 := mulOk (by decide) (by decide) bW ga.2.1
      have k8 : (W * a.2).natAbs < 2 ^ 500 := mul_lt bW ga.2.1
      have k9 : CMulA (W * a.2) b.2 := mulOk (n := 500) (by decide) (by decide) k8 (up gb.2.1 (by decide))
      have l1 : 0 < W * a.2 * b.2 := mul_pos (mul_pos w3 ga.2.2) gb.2.2
      have l2 : (W * a.2 * b.2).natAbs < 2 ^ 1990 := up (mul_lt k8 (up gb.2.1 (by decide))) (by decide)
      refine ⟨_, ix0, k1, _, ix1, k3, _, ix0, k4, _, ix1, k6, _, ix1, k7, _, ix1, k9, _, _, rfl, l1, l2, ?_⟩
      have W300 : W < 2 ^ 300 := Int.lt_trans w4 (by decide)
      refine ⟨P, W, a, b, rfl, w1, w2, w3, W300, ga.mono (by decide), gb.mono (by decide), ?_⟩
      rw [mean_due w3 ga.2.2 gb.2.2]
      exact ⟨_, _, rfl, fun _ => q _, fun z => absurd rfl z⟩
    have tail' : ∀ u v : Sl, r_law_14 (ends Φ) [.d (.scr ns), .d (.int n1.1), .d (.int n1.2), .d (.int p.1), .d (.int p.2), .d L, .d (dP a), .d (dP b), u, v, .un, .un, .un] M := by
      intro u v
      refine ⟨_, a2, (by show (0 : Int) < 12; decide), ?_⟩
      refine ⟨_, a3, (by show (0 : Int) < 1 + r2 % 12 + 1; omega), ?_⟩
      exact tail u v (r3 % (1 + r2 % 12 + 1)) (1 + r2 % 12) (Int.emod_nonneg _ (by omega)) (by have := Int.emod_lt_of_pos r3 (show 0 < 1 + r2 % 12 + 1 by omega); omega) (by omega) (by omega)
    by_cases hP : a.1 * b.2 < b.1 * a.2
    · have t : r_law_11 (ends Φ) [.d (.scr ns), .d (.int n1.1), .d (.int n1.2), .d (.int p.1), .d (.int p.2), .d L, .d (dP a), .d (dP b), .d (.bl true), .un, .un, .un, .un] M := by
        refine ⟨a, b, rfl, ga', gb', fun _ => ⟨nt, fun _ => ?_⟩, fun h => absurd hP h⟩
        refine ⟨a, a, rfl, ga', ga', fun h => absurd h (Int.lt_irrefl _), fun _ => ?_⟩
        refine ⟨a, b, rfl, ga', gb', fun _ => ⟨fun _ => ⟨_, _, rfl, fun _ => ?_, fun z => absurd rfl z⟩, fun z => Bool.noConfusion z⟩, fun h => absurd hP h⟩
        refine ⟨b, b, rfl, gb', gb', fun h => absurd h (Int.lt_irrefl _), fun _ => ?_⟩
        exact ⟨_, _, rfl, fun _ => ⟨nt, fun _ => tail' _ _⟩, fun z => absurd rfl z⟩
      rw [← decide_eq_true hP] at t
      exact t
    · have t : r_law_11 (ends Φ) [.d (.scr ns), .d (.int n1.1), .d (.int n1.2), .d (.int p.1), .d (.int p.2), .d L, .d (dP a), .d (dP b), .d (.bl false), .un, .un, .un, .un] M := by
        refine ⟨a, b, rfl, ga', gb', fun h => absurd h hP, fun _ => ⟨nt, fun _ => ?_⟩⟩
        refine ⟨a, a, rfl, ga', ga', fun h => absurd h (Int.lt_irrefl _), fun _ => ?_⟩
        refine ⟨a, b, rfl, ga', gb', fun h => absurd h hP, fun _ => ⟨fun z => Bool.noConfusion z, fun _ => ⟨_, _, rfl, fun _ => ?_, fun z => absurd rfl z⟩⟩⟩
        refine ⟨b, b, rfl, gb', gb', fun h => absurd h (Int.lt_irrefl _), fun _ => ?_⟩
        exact ⟨_, _, rfl, fun _ => ⟨nt, fun _ => tail' _ _⟩, fun z => absurd rfl z⟩
      rw [← decide_eq_false hP] at t
      exact t
  refine ⟨_, a0, (by show (0 : Int) < 5; decide), fun _ => ?_, fun _ => ?_⟩
  · have h3 : 0 < 1 + r1 % 3 ∧ 1 + r1 % 3 < 4 := by omega
    refine ⟨_, a1, (by show (0 : Int) < 3; decide), .inl (.inr ⟨by omega, by omega⟩), _, a1, (by show (0 : Int) < 3; decide), .inl (.inr ⟨by omega, by omega⟩), ?_⟩
    have e2 : (2 : Nat) ^ 200 = 2 ^ 200 := rfl
    have h4 : (1 + r1 % 3).natAbs < 2 ^ 2 := by omega
    exact main (n1.1 * (1 + r1 % 3), n1.2 * (1 + r1 % 3)) ⟨up (wide_lt g1.1 h4) (by decide), up (wide_lt g1.2.1 h4) (by decide), mul_pos g1.2.2 h3.1⟩
  · exact main n2 (g2.mono (by decide))
end My

set_option Elab.async false
set_option linter.all false
set_option maxRecDepth 100000
set_option maxHeartbeats 4000000
namespace My
open PySem PySem.Spec PyProof.Rows L2 DL
open Evl (Ex)
def topS (i : Nat) : Stmt := PySem.Challenge.pw_besideandthrough_k90_fractions.main.body.getD i (.Pass ⟨0, 0, 0, 0⟩)
abbrev s_lowest : Stmt := topS 2
theorem sc_lowest : FnScope ["num", "den", "common"] ["num", "den"] (defScope s_lowest) := ⟨rfl, rfl, rfl, by decide +kernel, rfl, by decide +kernel, by decide +kernel⟩

abbrev s_below : Stmt := topS 6
theorem sc_below : FnScope ["a", "b"] ["a", "b"] (defScope s_below) := ⟨rfl, rfl, rfl, by decide +kernel, rfl, by decide +kernel, by decide +kernel⟩

abbrev s_law_row : Stmt := topS 10
theorem sc_law_row : FnScope ["_law_script", "_law_k", "_law_count", "_law_cell_here", "_law_row_here", "_law_at", "_law_seed"] ["_law_script", "_law_k", "_law_count"] (defScope s_law_row) := ⟨rfl, rfl, rfl, by decide +kernel, rfl, by decide +kernel, by decide +kernel⟩

abbrev s_law_cell : Stmt := topS 11
theorem sc_law_cell : FnScope ["_law_script", "_law_k"] ["_law_script", "_law_k"] (defScope s_law_cell) := ⟨rfl, rfl, rfl, by decide +kernel, rfl, by decide +kernel, by decide +kernel⟩

abbrev s_law_gcd : Stmt := topS 12
theorem sc_law_gcd : FnScope ["_law_a", "_law_b", "_law_turn"] ["_law_a", "_law_b"] (defScope s_law_gcd) := ⟨rfl, rfl, rfl, by decide +kernel, rfl, by decide +kernel, by decide +kernel⟩

abbrev s_law_is : Stmt := topS 14
theorem sc_law_is : FnScope ["_law_told", "_law_due", "_law_part"] ["_law_told", "_law_due"] (defScope s_law_is) := ⟨rfl, rfl, rfl, by decide +kernel, rfl, by decide +kernel, by decide +kernel⟩

abbrev s_plus : Stmt := topS 3
theorem sc_plus : FnScope ["a", "b"] ["a", "b"] (defScope s_plus) := ⟨rfl, rfl, rfl, by decide +kernel, rfl, by decide +kernel, by decide +kernel⟩

abbrev s_minus : Stmt := topS 4
theorem sc_minus : FnScope ["a", "b"] ["a", "b"] (defScope s_minus) := ⟨rfl, rfl, rfl, by decide +kernel, rfl, by decide +kernel, by decide +kernel⟩

abbrev s_times : Stmt := topS 5
theorem sc_times : FnScope ["a", "b"] ["a", "b"] (defScope s_times) := ⟨rfl, rfl, rfl, by decide +kernel, rfl, by decide +kernel, by decide +kernel⟩

abbrev s_greater : Stmt := topS 7
theorem sc_greater : FnScope ["a", "b"] ["a", "b"] (defScope s_greater) := ⟨rfl, rfl, rfl, by decide +kernel, rfl, by decide +kernel, by decide +kernel⟩

abbrev s_law_lowest : Stmt := topS 13
theorem sc_law_lowest : FnScope ["_law_num", "_law_den", "_law_common"] ["_law_num", "_law_den"] (defScope s_law_lowest) := ⟨rfl, rfl, rfl, by decide +kernel, rfl, by decide +kernel, by decide +kernel⟩

abbrev s_law_pair : Stmt := topS 15
theorem sc_law_pair : FnScope ["_law_script", "_law_k", "_law_row_here", "_law_num", "_law_den"] ["_law_script", "_law_k"] (defScope s_law_pair) := ⟨rfl, rfl, rfl, by decide +kernel, rfl, by decide +kernel, by decide +kernel⟩

abbrev s_mean : Stmt := topS 8
theorem sc_mean : FnScope ["num", "den", "a", "b"] ["num", "den", "a", "b"] (defScope s_mean) := ⟨rfl, rfl, rfl, by decide +kernel, rfl, by decide +kernel, by decide +kernel⟩

abbrev s_law : Stmt := topS 16
theorem sc_law : FnScope ["_law_script", "_law_num", "_law_den", "_law_other", "_law_under", "_law_row_here", "_law_a", "_law_b", "_law_less", "_law_told", "_law_whole", "_law_part", "_law_due"] ["_law_script"] (defScope s_law) := ⟨rfl, rfl, rfl, by decide +kernel, rfl, by decide +kernel, by decide +kernel⟩

structure Txt (K : PySem.W.Frag) (mg : Str → Option Value) where
  f_lowest : Addr
  d_lowest : FuncData
  F_lowest : Fun K "lowest" "lowest" s_lowest f_lowest d_lowest
  b_lowest : Binds K d_lowest ["num", "den"] []
  m_lowest : mg "lowest" = some (.ref f_lowest)
  f_below : Addr
  d_below : FuncData
  F_below : Fun K "below" "below" s_below f_below d_below
  b_below : Binds K d_below ["a", "b"] []
  m_below : mg "below" = some (.ref f_below)
  f_law_row : Addr
  d_law_row : FuncData
  F_law_row : Fun K "_law_row" "_law_row" s_law_row f_law_row d_law_row
  b_law_row : Binds K d_law_row ["_law_script", "_law_k", "_law_count"] []
  m_law_row : mg "_law_row" = some (.ref f_law_row)
  f_law_cell : Addr
  d_law_cell : FuncData
  F_law_cell : Fun K "_law_cell" "_law_cell" s_law_cell f_law_cell d_law_cell
  b_law_cell : Binds K d_law_cell ["_law_script", "_law_k"] []
  m_law_cell : mg "_law_cell" = some (.ref f_law_cell)
  f_law_gcd : Addr
  d_law_gcd : FuncData
  F_law_gcd : Fun K "_law_gcd" "_law_gcd" s_law_gcd f_law_gcd d_law_gcd
  b_law_gcd : Binds K d_law_gcd ["_law_a", "_law_b"] []
  m_law_gcd : mg "_law_gcd" = some (.ref f_law_gcd)
  f_law_is : Addr
  d_law_is : FuncData
  F_law_is : Fun K "_law_is" "_law_is" s_law_is f_law_is d_law_is
  b_law_is : Binds K d_law_is ["_law_told", "_law_due"] []
  m_law_is : mg "_law_is" = some (.ref f_law_is)
  f_plus : Addr
  d_plus : FuncData
  F_plus : Fun K "plus" "plus" s_plus f_plus d_plus
  b_plus : Binds K d_plus ["a", "b"] []
  m_plus : mg "plus" = some (.ref f_plus)
  f_minus : Addr
  d_minus : FuncData
  F_minus : Fun K "minus" "minus" s_minus f_minus d_minus
  b_minus : Binds K d_minus ["a", "b"] []
  m_minus : mg "minus" = some (.ref f_minus)
  f_times : Addr
  d_times : FuncData
  F_times : Fun K "times" "times" s_times f_times d_times
  b_times : Binds K d_times ["a", "b"] []
  m_times : mg "times" = some (.ref f_times)
  f_greater : Addr
  d_greater : FuncData
  F_greater : Fun K "greater" "greater" s_greater f_greater d_greater
  b_greater : Binds K d_greater ["a", "b"] []
  m_greater : mg "greater" = some (.ref f_greater)
  f_law_lowest : Addr
  d_law_lowest : FuncData
  F_law_lowest : Fun K "_law_lowest" "_law_lowest" s_law_lowest f_law_lowest d_law_lowest
  b_law_lowest : Binds K d_law_lowest ["_law_num", "_law_den"] []
  m_law_lowest : mg "_law_lowest" = some (.ref f_law_lowest)
  f_law_pair : Addr
  d_law_pair : FuncData
  F_law_pair : Fun K "_law_pair" "_law_pair" s_law_pair f_law_pair d_law_pair
  b_law_pair : Binds K d_law_pair ["_law_script", "_law_k"] []
  m_law_pair : mg "_law_pair" = some (.ref f_law_pair)
  f_mean : Addr
  d_mean : FuncData
  F_mean : Fun K "mean" "mean" s_mean f_mean d_mean
  b_mean : Binds K d_mean ["num", "den", "a", "b"] []
  m_mean : mg "mean" = some (.ref f_mean)
  f_law : Addr
  d_law : FuncData
  F_law : Fun K "law" "law" s_law f_law d_law
  b_law : Binds K d_law ["_law_script"] []
  m_law : mg "law" = some (.ref f_law)
  z_abs : mg "abs" = none
  z_bool : mg "bool" = none
  z_int : mg "int" = none
  z_isinstance : mg "isinstance" = none
  z_len : mg "len" = none
  z_range : mg "range" = none
  z_tuple : mg "tuple" = none
  i_gcd : mg "gcd" = some (.builtin "math.gcd")
section
variable {P : Program} {w : World} {K : PySem.W.Frag} {mg : Str → Option Value} {base : Heap}
theorem ok_lowest (T : Txt K mg) : FnOk P w K mg base CX0 1 T.f_lowest T.d_lowest ["num", "den"] (spOf K S_lowest) := by
  refine fn_ok T.F_lowest sc_lowest ar_lowest fun cdv A outer s H E Z hr => ⟨r_lowest, ?_, red_lowest⟩
  exact (qss_cons (qs_set (i := 2) sc_lowest.nd (qe_gcd (by rfl) T.i_gcd (qa_cons (qe_var 0) (qa_cons (qe_var 1) qa_nil))))
      (qss_one (qs_ret (qe_tup (qa_cons (qe_fdivA (qe_var 0) (qe_var 2)) (qa_cons (qe_fdivA (qe_var 1) (qe_var 2)) qa_nil))))))

theorem ok_below (T : Txt K mg) : FnOk P w K mg base CX0 1 T.f_below T.d_below ["a", "b"] (spOf K S_below) := by
  refine fn_ok T.F_below sc_below ar_below fun cdv A outer s H E Z hr => ⟨r_below, ?_, red_below⟩
  exact (qss_one (qs_ret (qe_cmp op_lt od_lt (qe_mulA (qe_ix (qe_var 0) qe_int) (qe_ix (qe_var 1) qe_int)) (qe_mulA (qe_ix (qe_var 1) qe_int) (qe_ix (qe_var 0) qe_int)))))

theorem ok_law_row (T : Txt K mg) : FnOk P w K mg base CX0 1 T.f_law_row T.d_law_row ["_law_script", "_law_k", "_law_count"] (spOf K S_law_row) := by
  refine fn_ok T.F_law_row sc_law_row ar_law_row fun cdv A outer s H E Z hr => ⟨r_law_row, ?_, red_law_row⟩
  exact (qss_cons (qs_set (i := 3) sc_law_row.nd qe_int)
      (qss_cons (qs_if (qt_cmp op_lt od_lt (qe_var 1) (qe_len (by rfl) T.z_len (qa_cons (qe_var 0) qa_nil))) (qss_one (qs_set (i := 3) sc_law_row.nd (qe_int1 (by rfl) T.z_int (qa_cons (qe_ix (qe_var 0) (qe_var 1)) qa_nil)))) qss_nil)
      (qss_cons (qs_setO (i := 4) sc_law_row.nd (ql_lst qa_nil))
      (qss_cons (qs_if (qt_cmp op_ge od_ge (qe_var 3) (qe_pow qe_int qe_int)) (qss_cons (qs_forR (j := 5) (js := [5]) PassesOwn.never (by rfl) sc_law_row.nd (by rfl) T.z_range (qe_var 2) (qss_cons (qs_app (j := 4) (qe_mod (qe_int1 (by rfl) T.z_int (qa_cons (qe_var 3) qa_nil)) qe_int))
    (qss_one (qs_set (i := 3) sc_law_row.nd (qe_fdivA (qe_var 3) qe_int)))))
    (qss_one (qs_ret (qe_var 4)))) qss_nil)
      (qss_cons (qs_set (i := 6) sc_law_row.nd (qe_mod (qe_int1 (by rfl) T.z_int (qa_cons (qe_add (qe_add (qe_mulA (qe_var 3) qe_int) (qe_mulA (qe_var 1) qe_int)) qe_int) qa_nil)) qe_int))
      (qss_cons (qs_forR (j := 5) (js := [5]) PassesOwn.never (by rfl) sc_law_row.nd (by rfl) T.z_range (qe_var 2) (qss_cons (qs_set (i := 6) sc_law_row.nd (qe_mod (qe_int1 (by rfl) T.z_int (qa_cons (qe_add (qe_add (qe_mulA (qe_var 6) qe_int) (qe_mulA (qe_var 5) qe_int)) qe_int) qa_nil)) qe_int))
    (qss_one (qs_app (j := 4) (qe_mod (qe_fdivA (qe_var 6) qe_int) qe_int)))))
      (qss_one (qs_ret (qe_var 4)))))))))

theorem ok_law_cell (T : Txt K mg) : FnOk P w K mg base CX0 1 T.f_law_cell T.d_law_cell ["_law_script", "_law_k"] (spOf K S_law_cell) := by
  refine fn_ok T.F_law_cell sc_law_cell ar_law_cell fun cdv A outer s H E Z hr => ⟨r_law_cell, ?_, red_law_cell⟩
  exact (qss_cons (qs_if (qt_cmp op_lt od_lt (qe_var 1) (qe_len (by rfl) T.z_len (qa_cons (qe_var 0) qa_nil))) (qss_one (qs_ret (qe_mod (qe_abs (by rfl) T.z_abs (qa_cons (qe_int1 (by rfl) T.z_int (qa_cons (qe_ix (qe_var 0) (qe_var 1)) qa_nil)) qa_nil)) (qe_pow qe_int qe_int)))) qss_nil)
      (qss_one (qs_ret qe_int)))

theorem ok_law_gcd (T : Txt K mg) : FnOk P w K mg base CX0 1 T.f_law_gcd T.d_law_gcd ["_law_a", "_law_b"] (spOf K S_law_gcd) := by
  refine fn_ok T.F_law_gcd sc_law_gcd ar_law_gcd fun cdv A outer s H E Z hr => ⟨r_law_gcd, ?_, red_law_gcd⟩
  exact (qss_cons (qs_forR (j := 2) (js := [2]) PassesOwn.never (by rfl) sc_law_gcd.nd (by rfl) T.z_range qe_int (qss_cons (qs_if (qt_cmp (op_eqA hr.units) od_eqA (qe_var 1) qe_int) (qss_one qs_brk) qss_nil)
    (qss_one (qs_par (i := 0) (j := 1) sc_law_gcd.nd (qa_cons (qe_var 1) (qa_cons (qe_mod (qe_int1 (by rfl) T.z_int (qa_cons (qe_var 0) qa_nil)) (qe_var 1)) qa_nil))))))
      (qss_one (qs_ret (qe_var 0))))

theorem ok_law_is (T : Txt K mg) : FnOk P w K mg base CX0 1 T.f_law_is T.d_law_is ["_law_told", "_law_due"] (spOf K S_law_is) := by
  refine fn_ok T.F_law_is sc_law_is ar_law_is fun cdv A outer s H E Z hr => ⟨r_law_is, ?_, red_law_is⟩
  exact (qss_cons (qs_if (qw_or (qt_not (qt_truth (qe_isi (qe_var 0) (by rfl) T.z_isinstance (by rfl) T.z_tuple (by decide +kernel)))) (qw_or1 (qt_cmp (op_neA hr.units) od_neA (qe_len (by rfl) T.z_len (qa_cons (qe_var 0) qa_nil)) qe_int))).qt (qss_one (qs_ret qe_bl)) qss_nil)
      (qss_cons (qs_for (j := 2) (js := [2]) PassesOwn.never (by rfl) sc_law_is.nd (qe_var 0) (qss_one (qs_if (qw_or (qt_not (qt_truth (qe_isi (qe_var 2) (by rfl) T.z_isinstance (by rfl) T.z_int (by decide +kernel)))) (qw_or1 (qt_truth (qe_isi (qe_var 2) (by rfl) T.z_isinstance (by rfl) T.z_bool (by decide +kernel))))).qt (qss_one (qs_ret qe_bl)) qss_nil)))
      (qss_one (qs_ret (qe_cmp (op_eqA hr.units) od_eqA (qe_var 0) (qe_var 1))))))

theorem ok_plus (T : Txt K mg) : FnOk P w K mg base CX0 2 T.f_plus T.d_plus ["a", "b"] (spOf K S_plus) := by
  refine fn_ok T.F_plus sc_plus ar_plus fun cdv A outer s H E Z hr => ⟨r_plus, ?_, red_plus⟩
  exact (qss_one (qs_ret (qe_call (ok_lowest T) (hr.mono (by decide)) (by rfl) T.m_lowest T.F_lowest.kp T.b_lowest (qa_cons (qe_add (qe_mulA (qe_ix (qe_var 0) qe_int) (qe_ix (qe_var 1) qe_int)) (qe_mulA (qe_ix (qe_var 1) qe_int) (qe_ix (qe_var 0) qe_int))) (qa_cons (qe_mulA (qe_ix (qe_var 0) qe_int) (qe_ix (qe_var 1) qe_int)) qa_nil)))))

theorem ok_minus (T : Txt K mg) : FnOk P w K mg base CX0 2 T.f_minus T.d_minus ["a", "b"] (spOf K S_minus) := by
  refine fn_ok T.F_minus sc_minus ar_minus fun cdv A outer s H E Z hr => ⟨r_minus, ?_, red_minus⟩
  exact (qss_one (qs_ret (qe_call (ok_lowest T) (hr.mono (by decide)) (by rfl) T.m_lowest T.F_lowest.kp T.b_lowest (qa_cons (qe_sub (qe_mulA (qe_ix (qe_var 0) qe_int) (qe_ix (qe_var 1) qe_int)) (qe_mulA (qe_ix (qe_var 1) qe_int) (qe_ix (qe_var 0) qe_int))) (qa_cons (qe_mulA (qe_ix (qe_var 0) qe_int) (qe_ix (qe_var 1) qe_int)) qa_nil)))))

theorem ok_times (T : Txt K mg) : FnOk P w K mg base CX0 2 T.f_times T.d_times ["a", "b"] (spOf K S_times) := by
  refine fn_ok T.F_times sc_times ar_times fun cdv A outer s H E Z hr => ⟨r_times, ?_, red_times⟩
  exact (qss_one (qs_ret (qe_call (ok_lowest T) (hr.mono (by decide)) (by rfl) T.m_lowest T.F_lowest.kp T.b_lowest (qa_cons (qe_mulA (qe_ix (qe_var 0) qe_int) (qe_ix (qe_var 1) qe_int)) (qa_cons (qe_mulA (qe_ix (qe_var 0) qe_int) (qe_ix (qe_var 1) qe_int)) qa_nil)))))

theorem ok_greater (T : Txt K mg) : FnOk P w K mg base CX0 2 T.f_greater T.d_greater ["a", "b"] (spOf K S_greater) := by
  refine fn_ok T.F_greater sc_greater ar_greater fun cdv A outer s H E Z hr => ⟨r_greater, ?_, red_greater⟩
  exact (qss_one (qs_ret (qe_if (qt_truth (qe_call (ok_below T) (hr.mono (by decide)) (by rfl) T.m_below T.F_below.kp T.b_below (qa_cons (qe_var 0) (qa_cons (qe_var 1) qa_nil)))) (qe_var 1) (qe_var 0))))

theorem ok_law_lowest (T : Txt K mg) : FnOk P w K mg base CX0 2 T.f_law_lowest T.d_law_lowest ["_law_num", "_law_den"] (spOf K S_law_lowest) := by
  refine fn_ok T.F_law_lowest sc_law_lowest ar_law_lowest fun cdv A outer s H E Z hr => ⟨r_law_lowest, ?_, red_law_lowest⟩
  exact (qss_cons (qs_set (i := 2) sc_law_lowest.nd (qe_call (ok_law_gcd T) (hr.mono (by decide)) (by rfl) T.m_law_gcd T.F_law_gcd.kp T.b_law_gcd (qa_cons (qe_abs (by rfl) T.z_abs (qa_cons (qe_var 0) qa_nil)) (qa_cons (qe_var 1) qa_nil))))
      (qss_one (qs_ret (qe_tup (qa_cons (qe_fdivA (qe_var 0) (qe_var 2)) (qa_cons (qe_fdivA (qe_var 1) (qe_var 2)) qa_nil))))))

theorem ok_law_pair (T : Txt K mg) : FnOk P w K mg base CX0 2 T.f_law_pair T.d_law_pair ["_law_script", "_law_k"] (spOf K S_law_pair) := by
  refine fn_ok T.F_law_pair sc_law_pair ar_law_pair fun cdv A outer s H E Z hr => ⟨r_law_pair, ?_, red_law_pair⟩
  exact (qss_cons (qs_set (i := 2) sc_law_pair.nd (qe_call (ok_law_row T) (hr.mono (by decide)) (by rfl) T.m_law_row T.F_law_row.kp T.b_law_row (qa_cons (qe_var 0) (qa_cons (qe_var 1) (qa_cons qe_int qa_nil)))))
      (qss_cons (qs_set (i := 3) sc_law_pair.nd (qe_fdivA (qe_call (ok_law_cell T) (hr.mono (by decide)) (by rfl) T.m_law_cell T.F_law_cell.kp T.b_law_cell (qa_cons (qe_var 0) (qa_cons (qe_add (qe_var 1) qe_int) qa_nil))) qe_int))
      (qss_cons (qs_set (i := 4) sc_law_pair.nd (qe_add qe_int (qe_fdivA (qe_call (ok_law_cell T) (hr.mono (by decide)) (by rfl) T.m_law_cell T.F_law_cell.kp T.b_law_cell (qa_cons (qe_var 0) (qa_cons (qe_add (qe_var 1) qe_int) qa_nil))) qe_int)))
      (qss_cons (qs_if (qt_cmp (op_eqA hr.units) od_eqA (qe_mod (qe_ix (qe_var 2) qe_int) qe_int) qe_int) (qss_cons (qs_set (i := 3) sc_law_pair.nd (qe_mod (qe_int1 (by rfl) T.z_int (qa_cons (qe_ix (qe_var 2) qe_int) qa_nil)) qe_int))
    (qss_one (qs_set (i := 4) sc_law_pair.nd (qe_add qe_int (qe_mod (qe_int1 (by rfl) T.z_int (qa_cons (qe_ix (qe_var 2) qe_int) qa_nil)) qe_int))))) qss_nil)
      (qss_cons (qs_if (qt_cmp (op_eqA hr.units) od_eqA (qe_mod (qe_ix (qe_var 2) qe_int) qe_int) qe_int) (qss_one (qs_set (i := 3) sc_law_pair.nd (qe_neg (qe_var 3)))) qss_nil)
      (qss_one (qs_ret (qe_tup (qa_cons (qe_var 3) (qa_cons (qe_var 4) qa_nil))))))))))

theorem ok_mean (T : Txt K mg) : FnOk P w K mg base CX0 3 T.f_mean T.d_mean ["num", "den", "a", "b"] (spOf K S_mean) := by
  refine fn_ok T.F_mean sc_mean ar_mean fun cdv A outer s H E Z hr => ⟨r_mean, ?_, red_mean⟩
  exact (qss_one (qs_ret (qe_call (ok_plus T) (hr.mono (by decide)) (by rfl) T.m_plus T.F_plus.kp T.b_plus (qa_cons (qe_call (ok_times T) (hr.mono (by decide)) (by rfl) T.m_times T.F_times.kp T.b_times (qa_cons (qe_call (ok_lowest T) (hr.mono (by decide)) (by rfl) T.m_lowest T.F_lowest.kp T.b_lowest (qa_cons (qe_var 0) (qa_cons (qe_var 1) qa_nil))) (qa_cons (qe_var 2) qa_nil))) (qa_cons (qe_call (ok_times T) (hr.mono (by decide)) (by rfl) T.m_times T.F_times.kp T.b_times (qa_cons (qe_call (ok_lowest T) (hr.mono (by decide)) (by rfl) T.m_lowest T.F_lowest.kp T.b_lowest (qa_cons (qe_sub (qe_var 1) (qe_var 0)) (qa_cons (qe_var 1) qa_nil))) (qa_cons (qe_var 3) qa_nil))) qa_nil)))))

theorem ok_law (T : Txt K mg) : FnOk P w K mg base CX0 4 T.f_law T.d_law ["_law_script"] (spOf K S_law) := by
  refine fn_ok T.F_law sc_law ar_law fun cdv A outer s H E Z hr => ⟨r_law, ?_, red_law⟩
  exact (qss_cons (qs_unp (is := [1, 2]) rfl (qe_call (ok_law_pair T) (hr.mono (by decide)) (by rfl) T.m_law_pair T.F_law_pair.kp T.b_law_pair (qa_cons (qe_var 0) (qa_cons qe_int qa_nil))) (pgs_cons (pg_name (i := 1) sc_law.nd rfl (Or.inl rfl)) (pgs_cons (pg_name (i := 2) sc_law.nd rfl (Or.inl rfl)) pgs_nil)))
      (qss_cons (qs_unp (is := [3, 4]) rfl (qe_call (ok_law_pair T) (hr.mono (by decide)) (by rfl) T.m_law_pair T.F_law_pair.kp T.b_law_pair (qa_cons (qe_var 0) (qa_cons qe_int qa_nil))) (pgs_cons (pg_name (i := 3) sc_law.nd rfl (Or.inl rfl)) (pgs_cons (pg_name (i := 4) sc_law.nd rfl (Or.inl rfl)) pgs_nil)))
      (qss_cons (qs_set (i := 5) sc_law.nd (qe_call (ok_law_row T) (hr.mono (by decide)) (by rfl) T.m_law_row T.F_law_row.kp T.b_law_row (qa_cons (qe_var 0) (qa_cons qe_int (qa_cons qe_int qa_nil)))))
      (qss_cons (qs_if (qt_cmp (op_eqA hr.units) od_eqA (qe_mod (qe_ix (qe_var 5) qe_int) qe_int) qe_int) (qss_one (qs_par (i := 3) (j := 4) sc_law.nd (qa_cons (qe_mulA (qe_var 1) (qe_add qe_int (qe_mod (qe_ix (qe_var 5) qe_int) qe_int))) (qa_cons (qe_mulA (qe_var 2) (qe_add qe_int (qe_mod (qe_ix (qe_var 5) qe_int) qe_int))) qa_nil)))) qss_nil)
      (qss_cons (qs_if (qw_or (qt_not (qt_truth (qe_call (ok_law_is T) (hr.mono (by decide)) (by rfl) T.m_law_is T.F_law_is.kp T.b_law_is (qa_cons (qe_call (ok_lowest T) (hr.mono (by decide)) (by rfl) T.m_lowest T.F_lowest.kp T.b_lowest (qa_cons (qe_var 1) (qa_cons (qe_var 2) qa_nil))) (qa_cons (qe_call (ok_law_lowest T) (hr.mono (by decide)) (by rfl) T.m_law_lowest T.F_law_lowest.kp T.b_law_lowest (qa_cons (qe_var 1) (qa_cons (qe_var 2) qa_nil))) qa_nil))))) (qw_or1 (qt_not (qt_truth (qe_call (ok_law_is T) (hr.mono (by decide)) (by rfl) T.m_law_is T.F_law_is.kp T.b_law_is (qa_cons (qe_call (ok_lowest T) (hr.mono (by decide)) (by rfl) T.m_lowest T.F_lowest.kp T.b_lowest (qa_cons (qe_var 3) (qa_cons (qe_var 4) qa_nil))) (qa_cons (qe_call (ok_law_lowest T) (hr.mono (by decide)) (by rfl) T.m_law_lowest T.F_law_lowest.kp T.b_law_lowest (qa_cons (qe_var 3) (qa_cons (qe_var 4) qa_nil))) qa_nil))))))).qt (qss_one (qs_ret qe_bl)) qss_nil)
      (qss_cons (qs_set (i := 6) sc_law.nd (qe_call (ok_law_lowest T) (hr.mono (by decide)) (by rfl) T.m_law_lowest T.F_law_lowest.kp T.b_law_lowest (qa_cons (qe_var 1) (qa_cons (qe_var 2) qa_nil))))
      (qss_cons (qs_set (i := 7) sc_law.nd (qe_call (ok_law_lowest T) (hr.mono (by decide)) (by rfl) T.m_law_lowest T.F_law_lowest.kp T.b_law_lowest (qa_cons (qe_var 3) (qa_cons (qe_var 4) qa_nil))))
      (qss_cons (qs_if (qt_not (qt_truth (qe_call (ok_law_is T) (hr.mono (by decide)) (by rfl) T.m_law_is T.F_law_is.kp T.b_law_is (qa_cons (qe_call (ok_plus T) (hr.mono (by decide)) (by rfl) T.m_plus T.F_plus.kp T.b_plus (qa_cons (qe_var 6) (qa_cons (qe_var 7) qa_nil))) (qa_cons (qe_call (ok_law_lowest T) (hr.mono (by decide)) (by rfl) T.m_law_lowest T.F_law_lowest.kp T.b_law_lowest (qa_cons (qe_add (qe_mulA (qe_ix (qe_var 6) qe_int) (qe_ix (qe_var 7) qe_int)) (qe_mulA (qe_ix (qe_var 7) qe_int) (qe_ix (qe_var 6) qe_int))) (qa_cons (qe_mulA (qe_ix (qe_var 6) qe_int) (qe_ix (qe_var 7) qe_int)) qa_nil))) qa_nil))))) (qss_one (qs_ret qe_bl)) qss_nil)
      (qss_cons (qs_if (qt_not (qt_truth (qe_call (ok_law_is T) (hr.mono (by decide)) (by rfl) T.m_law_is T.F_law_is.kp T.b_law_is (qa_cons (qe_call (ok_minus T) (hr.mono (by decide)) (by rfl) T.m_minus T.F_minus.kp T.b_minus (qa_cons (qe_var 6) (qa_cons (qe_var 7) qa_nil))) (qa_cons (qe_call (ok_law_lowest T) (hr.mono (by decide)) (by rfl) T.m_law_lowest T.F_law_lowest.kp T.b_law_lowest (qa_cons (qe_sub (qe_mulA (qe_ix (qe_var 6) qe_int) (qe_ix (qe_var 7) qe_int)) (qe_mulA (qe_ix (qe_var 7) qe_int) (qe_ix (qe_var 6) qe_int))) (qa_cons (qe_mulA (qe_ix (qe_var 6) qe_int) (qe_ix (qe_var 7) qe_int)) qa_nil))) qa_nil))))) (qss_one (qs_ret qe_bl)) qss_nil)
      (qss_cons (qs_if (qt_not (qt_truth (qe_call (ok_law_is T) (hr.mono (by decide)) (by rfl) T.m_law_is T.F_law_is.kp T.b_law_is (qa_cons (qe_call (ok_times T) (hr.mono (by decide)) (by rfl) T.m_times T.F_times.kp T.b_times (qa_cons (qe_var 6) (qa_cons (qe_var 7) qa_nil))) (qa_cons (qe_call (ok_law_lowest T) (hr.mono (by decide)) (by rfl) T.m_law_lowest T.F_law_lowest.kp T.b_law_lowest (qa_cons (qe_mulA (qe_ix (qe_var 6) qe_int) (qe_ix (qe_var 7) qe_int)) (qa_cons (qe_mulA (qe_ix (qe_var 6) qe_int) (qe_ix (qe_var 7) qe_int)) qa_nil))) qa_nil))))) (qss_one (qs_ret qe_bl)) qss_nil)
      (qss_cons (qs_set (i := 8) sc_law.nd (qe_cmp op_lt od_lt (qe_mulA (qe_ix (qe_var 6) qe_int) (qe_ix (qe_var 7) qe_int)) (qe_mulA (qe_ix (qe_var 7) qe_int) (qe_ix (qe_var 6) qe_int))))
      (qss_cons (qs_set (i := 9) sc_law.nd (qe_call (ok_below T) (hr.mono (by decide)) (by rfl) T.m_below T.F_below.kp T.b_below (qa_cons (qe_var 6) (qa_cons (qe_var 7) qa_nil))))
      (qss_cons (qs_if (qw_or (qw_and (qt_truth (qe_var 8)) (qw_and1 (qt_cmp op_notBl od_notB (qe_var 9) qe_bl))).qt (qw_or1 (qw_and (qt_not (qt_truth (qe_var 8))) (qw_and1 (qt_cmp op_notBl od_notB (qe_var 9) qe_bl))).qt)).qt (qss_one (qs_ret qe_bl)) qss_nil)
      (qss_cons (qs_if (qw_or (qt_cmp op_notBl od_notB (qe_call (ok_below T) (hr.mono (by decide)) (by rfl) T.m_below T.F_below.kp T.b_below (qa_cons (qe_var 6) (qa_cons (qe_var 6) qa_nil))) qe_bl) (qw_or (qt_not (qt_truth (qe_call (ok_law_is T) (hr.mono (by decide)) (by rfl) T.m_law_is T.F_law_is.kp T.b_law_is (qa_cons (qe_call (ok_greater T) (hr.mono (by decide)) (by rfl) T.m_greater T.F_greater.kp T.b_greater (qa_cons (qe_var 6) (qa_cons (qe_var 7) qa_nil))) (qa_cons (qe_if (qt_truth (qe_var 8)) (qe_var 7) (qe_var 6)) qa_nil))))) (qw_or1 (qt_not (qt_truth (qe_call (ok_law_is T) (hr.mono (by decide)) (by rfl) T.m_law_is T.F_law_is.kp T.b_law_is (qa_cons (qe_call (ok_greater T) (hr.mono (by decide)) (by rfl) T.m_greater T.F_greater.kp T.b_greater (qa_cons (qe_var 7) (qa_cons (qe_var 7) qa_nil))) (qa_cons (qe_var 7) qa_nil)))))))).qt (qss_one (qs_ret qe_bl)) qss_nil)
      (qss_cons (qs_set (i := 10) sc_law.nd (qe_add qe_int (qe_mod (qe_int1 (by rfl) T.z_int (qa_cons (qe_ix (qe_var 5) qe_int) qa_nil)) qe_int)))
      (qss_cons (qs_set (i := 11) sc_law.nd (qe_mod (qe_int1 (by rfl) T.z_int (qa_cons (qe_ix (qe_var 5) qe_int) qa_nil)) (qe_add (qe_var 10) qe_int)))
      (qss_cons (qs_set (i := 12) sc_law.nd (qe_call (ok_law_lowest T) (hr.mono (by decide)) (by rfl) T.m_law_lowest T.F_law_lowest.kp T.b_law_lowest (qa_cons (qe_add (qe_mulA (qe_mulA (qe_var 11) (qe_ix (qe_var 6) qe_int)) (qe_ix (qe_var 7) qe_int)) (qe_mulA (qe_mulA (qe_sub (qe_var 10) (qe_var 11)) (qe_ix (qe_var 7) qe_int)) (qe_ix (qe_var 6) qe_int))) (qa_cons (qe_mulA (qe_mulA (qe_var 10) (qe_ix (qe_var 6) qe_int)) (qe_ix (qe_var 7) qe_int)) qa_nil))))
      (qss_one (qs_ret (qe_call (ok_law_is T) (hr.mono (by decide)) (by rfl) T.m_law_is T.F_law_is.kp T.b_law_is (qa_cons (qe_call (ok_mean T) (hr.mono (by decide)) (by rfl) T.m_mean T.F_mean.kp T.b_mean (qa_cons (qe_var 11) (qa_cons (qe_var 10) (qa_cons (qe_var 6) (qa_cons (qe_var 7) qa_nil))))) (qa_cons (qe_var 12) qa_nil))))))))))))))))))))))

end
theorem all_mk {l : PySem.W.OpenLaw} {w : World} {K : PySem.W.Frag} {h : Heap} {mg : Str → Option Value} {fa f0 f1 f2 f3 f4 f5 f6 f7 f8 f9 f10 f11 f12 f13 : Addr} (X : K.In h) (G : h.Ns mainGlobals mg) (hfa : mg "law" = some (.ref fa))
    {oc0 kV0 dc0 pm0 cd0 ct0 : Value} {od0 an0 : Option Addr} {sl0 : Array (Option Value)}
    (a0 : PySem.W.nsIn K mainGlobals "lowest" = some (some (.ref f0))) (l0 : K.lookup f0 = some ⟨oc0, od0, .func (PySem.W.fnOf "lowest" "lowest" (defArgs s_lowest) (defBody s_lowest) (defScope s_lowest) .none kV0 dc0 pm0 an0 cd0 ct0), sl0⟩) (c0 : PySem.W.codeIn K cd0 "lowest" = true) (k0 : PySem.W.keepIn K (.ref f0) = true)
    {oc1 kV1 dc1 pm1 cd1 ct1 : Value} {od1 an1 : Option Addr} {sl1 : Array (Option Value)}
    (a1 : PySem.W.nsIn K mainGlobals "below" = some (some (.ref f1))) (l1 : K.lookup f1 = some ⟨oc1, od1, .func (PySem.W.fnOf "below" "below" (defArgs s_below) (defBody s_below) (defScope s_below) .none kV1 dc1 pm1 an1 cd1 ct1), sl1⟩) (c1 : PySem.W.codeIn K cd1 "below" = true) (k1 : PySem.W.keepIn K (.ref f1) = true)
    {oc2 kV2 dc2 pm2 cd2 ct2 : Value} {od2 an2 : Option Addr} {sl2 : Array (Option Value)}
    (a2 : PySem.W.nsIn K mainGlobals "_law_row" = some (some (.ref f2))) (l2 : K.lookup f2 = some ⟨oc2, od2, .func (PySem.W.fnOf "_law_row" "_law_row" (defArgs s_law_row) (defBody s_law_row) (defScope s_law_row) .none kV2 dc2 pm2 an2 cd2 ct2), sl2⟩) (c2 : PySem.W.codeIn K cd2 "_law_row" = true) (k2 : PySem.W.keepIn K (.ref f2) = true)
    {oc3 kV3 dc3 pm3 cd3 ct3 : Value} {od3 an3 : Option Addr} {sl3 : Array (Option Value)}
    (a3 : PySem.W.nsIn K mainGlobals "_law_cell" = some (some (.ref f3))) (l3 : K.lookup f3 = some ⟨oc3, od3, .func (PySem.W.fnOf "_law_cell" "_law_cell" (defArgs s_law_cell) (defBody s_law_cell) (defScope s_law_cell) .none kV3 dc3 pm3 an3 cd3 ct3), sl3⟩) (c3 : PySem.W.codeIn K cd3 "_law_cell" = true) (k3 : PySem.W.keepIn K (.ref f3) = true)
    {oc4 kV4 dc4 pm4 cd4 ct4 : Value} {od4 an4 : Option Addr} {sl4 : Array (Option Value)}
    (a4 : PySem.W.nsIn K mainGlobals "_law_gcd" = some (some (.ref f4))) (l4 : K.lookup f4 = some ⟨oc4, od4, .func (PySem.W.fnOf "_law_gcd" "_law_gcd" (defArgs s_law_gcd) (defBody s_law_gcd) (defScope s_law_gcd) .none kV4 dc4 pm4 an4 cd4 ct4), sl4⟩) (c4 : PySem.W.codeIn K cd4 "_law_gcd" = true) (k4 : PySem.W.keepIn K (.ref f4) = true)
    {oc5 kV5 dc5 pm5 cd5 ct5 : Value} {od5 an5 : Option Addr} {sl5 : Array (Option Value)}
    (a5 : PySem.W.nsIn K mainGlobals "_law_is" = some (some (.ref f5))) (l5 : K.lookup f5 = some ⟨oc5, od5, .func (PySem.W.fnOf "_law_is" "_law_is" (defArgs s_law_is) (defBody s_law_is) (defScope s_law_is) .none kV5 dc5 pm5 an5 cd5 ct5), sl5⟩) (c5 : PySem.W.codeIn K cd5 "_law_is" = true) (k5 : PySem.W.keepIn K (.ref f5) = true)
    {oc6 kV6 dc6 pm6 cd6 ct6 : Value} {od6 an6 : Option Addr} {sl6 : Array (Option Value)}
    (a6 : PySem.W.nsIn K mainGlobals "plus" = some (some (.ref f6))) (l6 : K.lookup f6 = some ⟨oc6, od6, .func (PySem.W.fnOf "plus" "plus" (defArgs s_plus) (defBody s_plus) (defScope s_plus) .none kV6 dc6 pm6 an6 cd6 ct6), sl6⟩) (c6 : PySem.W.codeIn K cd6 "plus" = true) (k6 : PySem.W.keepIn K (.ref f6) = true)
    {oc7 kV7 dc7 pm7 cd7 ct7 : Value} {od7 an7 : Option Addr} {sl7 : Array (Option Value)}
    (a7 : PySem.W.nsIn K mainGlobals "minus" = some (some (.ref f7))) (l7 : K.lookup f7 = some ⟨oc7, od7, .func (PySem.W.fnOf "minus" "minus" (defArgs s_minus) (defBody s_minus) (defScope s_minus) .none kV7 dc7 pm7 an7 cd7 ct7), sl7⟩) (c7 : PySem.W.codeIn K cd7 "minus" = true) (k7 : PySem.W.keepIn K (.ref f7) = true)
    {oc8 kV8 dc8 pm8 cd8 ct8 : Value} {od8 an8 : Option Addr} {sl8 : Array (Option Value)}
    (a8 : PySem.W.nsIn K mainGlobals "times" = some (some (.ref f8))) (l8 : K.lookup f8 = some ⟨oc8, od8, .func (PySem.W.fnOf "times" "times" (defArgs s_times) (defBody s_times) (defScope s_times) .none kV8 dc8 pm8 an8 cd8 ct8), sl8⟩) (c8 : PySem.W.codeIn K cd8 "times" = true) (k8 : PySem.W.keepIn K (.ref f8) = true)
    {oc9 kV9 dc9 pm9 cd9 ct9 : Value} {od9 an9 : Option Addr} {sl9 : Array (Option Value)}
    (a9 : PySem.W.nsIn K mainGlobals "greater" = some (some (.ref f9))) (l9 : K.lookup f9 = some ⟨oc9, od9, .func (PySem.W.fnOf "greater" "greater" (defArgs s_greater) (defBody s_greater) (defScope s_greater) .none kV9 dc9 pm9 an9 cd9 ct9), sl9⟩) (c9 : PySem.W.codeIn K cd9 "greater" = true) (k9 : PySem.W.keepIn K (.ref f9) = true)
    {oc10 kV10 dc10 pm10 cd10 ct10 : Value} {od10 an10 : Option Addr} {sl10 : Array (Option Value)}
    (a10 : PySem.W.nsIn K mainGlobals "_law_lowest" = some (some (.ref f10))) (l10 : K.lookup f10 = some ⟨oc10, od10, .func (PySem.W.fnOf "_law_lowest" "_law_lowest" (defArgs s_law_lowest) (defBody s_law_lowest) (defScope s_law_lowest) .none kV10 dc10 pm10 an10 cd10 ct10), sl10⟩) (c10 : PySem.W.codeIn K cd10 "_law_lowest" = true) (k10 : PySem.W.keepIn K (.ref f10) = true)
    {oc11 kV11 dc11 pm11 cd11 ct11 : Value} {od11 an11 : Option Addr} {sl11 : Array (Option Value)}
    (a11 : PySem.W.nsIn K mainGlobals "_law_pair" = some (some (.ref f11))) (l11 : K.lookup f11 = some ⟨oc11, od11, .func (PySem.W.fnOf "_law_pair" "_law_pair" (defArgs s_law_pair) (defBody s_law_pair) (defScope s_law_pair) .none kV11 dc11 pm11 an11 cd11 ct11), sl11⟩) (c11 : PySem.W.codeIn K cd11 "_law_pair" = true) (k11 : PySem.W.keepIn K (.ref f11) = true)
    {oc12 kV12 dc12 pm12 cd12 ct12 : Value} {od12 an12 : Option Addr} {sl12 : Array (Option Value)}
    (a12 : PySem.W.nsIn K mainGlobals "mean" = some (some (.ref f12))) (l12 : K.lookup f12 = some ⟨oc12, od12, .func (PySem.W.fnOf "mean" "mean" (defArgs s_mean) (defBody s_mean) (defScope s_mean) .none kV12 dc12 pm12 an12 cd12 ct12), sl12⟩) (c12 : PySem.W.codeIn K cd12 "mean" = true) (k12 : PySem.W.keepIn K (.ref f12) = true)
    {oc13 kV13 dc13 pm13 cd13 ct13 : Value} {od13 an13 : Option Addr} {sl13 : Array (Option Value)}
    (a13 : PySem.W.nsIn K mainGlobals "law" = some (some (.ref f13))) (l13 : K.lookup f13 = some ⟨oc13, od13, .func (PySem.W.fnOf "law" "law" (defArgs s_law) (defBody s_law) (defScope s_law) .none kV13 dc13 pm13 an13 cd13 ct13), sl13⟩) (c13 : PySem.W.codeIn K cd13 "law" = true) (k13 : PySem.W.keepIn K (.ref f13) = true)
    (z_abs : PySem.W.nsIn K mainGlobals "abs" = some none)
    (z_bool : PySem.W.nsIn K mainGlobals "bool" = some none)
    (z_int : PySem.W.nsIn K mainGlobals "int" = some none)
    (z_isinstance : PySem.W.nsIn K mainGlobals "isinstance" = some none)
    (z_len : PySem.W.nsIn K mainGlobals "len" = some none)
    (z_range : PySem.W.nsIn K mainGlobals "range" = some none)
    (z_tuple : PySem.W.nsIn K mainGlobals "tuple" = some none)
    (i_gcd : PySem.W.nsIn K mainGlobals "gcd" = some (some (.builtin "math.gcd"))) :
    ∃ fd : FuncData, (∀ (s : Shared) (v : Value), BindsTo s fd ⟨[v], []⟩ [("_law_script", v)]) ∧ ∀ base : Heap, K.In base → base.Ns mainGlobals mg → FnOk l.prog w K mg base CX0 4 fa fd ["_law_script"] (spOf K lawSp) := by
  have e := hfa.symm.trans (PySem.W.mg_of X G a13)
  cases e
  have F0 := fun_mk (st := s_lowest) l0 c0 k0
  have b0 := F0.binds (ps := ["num", "den"]) fun _ _ _ _ _ _ us hl => match us, hl with | [_, _], _ => rfl
  have F1 := fun_mk (st := s_below) l1 c1 k1
  have b1 := F1.binds (ps := ["a", "b"]) fun _ _ _ _ _ _ us hl => match us, hl with | [_, _], _ => rfl
  have F2 := fun_mk (st := s_law_row) l2 c2 k2
  have b2 := F2.binds (ps := ["_law_script", "_law_k", "_law_count"]) fun _ _ _ _ _ _ us hl => match us, hl with | [_, _, _], _ => rfl
  have F3 := fun_mk (st := s_law_cell) l3 c3 k3
  have b3 := F3.binds (ps := ["_law_script", "_law_k"]) fun _ _ _ _ _ _ us hl => match us, hl with | [_, _], _ => rfl
  have F4 := fun_mk (st := s_law_gcd) l4 c4 k4
  have b4 := F4.binds (ps := ["_law_a", "_law_b"]) fun _ _ _ _ _ _ us hl => match us, hl with | [_, _], _ => rfl
  have F5 := fun_mk (st := s_law_is) l5 c5 k5
  have b5 := F5.binds (ps := ["_law_told", "_law_due"]) fun _ _ _ _ _ _ us hl => match us, hl with | [_, _], _ => rfl
  have F6 := fun_mk (st := s_plus) l6 c6 k6
  have b6 := F6.binds (ps := ["a", "b"]) fun _ _ _ _ _ _ us hl => match us, hl with | [_, _], _ => rfl
  have F7 := fun_mk (st := s_minus) l7 c7 k7
  have b7 := F7.binds (ps := ["a", "b"]) fun _ _ _ _ _ _ us hl => match us, hl with | [_, _], _ => rfl
  have F8 := fun_mk (st := s_times) l8 c8 k8
  have b8 := F8.binds (ps := ["a", "b"]) fun _ _ _ _ _ _ us hl => match us, hl with | [_, _], _ => rfl
  have F9 := fun_mk (st := s_greater) l9 c9 k9
  have b9 := F9.binds (ps := ["a", "b"]) fun _ _ _ _ _ _ us hl => match us, hl with | [_, _], _ => rfl
  have F10 := fun_mk (st := s_law_lowest) l10 c10 k10
  have b10 := F10.binds (ps := ["_law_num", "_law_den"]) fun _ _ _ _ _ _ us hl => match us, hl with | [_, _], _ => rfl
  have F11 := fun_mk (st := s_law_pair) l11 c11 k11
  have b11 := F11.binds (ps := ["_law_script", "_law_k"]) fun _ _ _ _ _ _ us hl => match us, hl with | [_, _], _ => rfl
  have F12 := fun_mk (st := s_mean) l12 c12 k12
  have b12 := F12.binds (ps := ["num", "den", "a", "b"]) fun _ _ _ _ _ _ us hl => match us, hl with | [_, _, _, _], _ => rfl
  have F13 := fun_mk (st := s_law) l13 c13 k13
  have b13 := F13.binds (ps := ["_law_script"]) fun _ _ _ _ _ _ us hl => match us, hl with | [_], _ => rfl
  have T : Txt K mg := ⟨_, _, F0, b0, PySem.W.mg_of X G a0, _, _, F1, b1, PySem.W.mg_of X G a1, _, _, F2, b2, PySem.W.mg_of X G a2, _, _, F3, b3, PySem.W.mg_of X G a3, _, _, F4, b4, PySem.W.mg_of X G a4, _, _, F5, b5, PySem.W.mg_of X G a5, _, _, F6, b6, PySem.W.mg_of X G a6, _, _, F7, b7, PySem.W.mg_of X G a7, _, _, F8, b8, PySem.W.mg_of X G a8, _, _, F9, b9, PySem.W.mg_of X G a9, _, _, F10, b10, PySem.W.mg_of X G a10, _, _, F11, b11, PySem.W.mg_of X G a11, _, _, F12, b12, PySem.W.mg_of X G a12, _, _, F13, b13, PySem.W.mg_of X G a13, PySem.W.mg_none_of X G z_abs, PySem.W.mg_none_of X G z_bool, PySem.W.mg_none_of X G z_int, PySem.W.mg_none_of X G z_isinstance, PySem.W.mg_none_of X G z_len, PySem.W.mg_none_of X G z_range, PySem.W.mg_none_of X G z_tuple, PySem.W.mg_of X G i_gcd⟩
  exact ⟨_, fun s v => .of_eq rfl, fun base _ _ => ok_law (T := ⟨_, _, F0, b0, PySem.W.mg_of X G a0, _, _, F1, b1, PySem.W.mg_of X G a1, _, _, F2, b2, PySem.W.mg_of X G a2, _, _, F3, b3, PySem.W.mg_of X G a3, _, _, F4, b4, PySem.W.mg_of X G a4, _, _, F5, b5, PySem.W.mg_of X G a5, _, _, F6, b6, PySem.W.mg_of X G a6, _, _, F7, b7, PySem.W.mg_of X G a7, _, _, F8, b8, PySem.W.mg_of X G a8, _, _, F9, b9, PySem.W.mg_of X G a9, _, _, F10, b10, PySem.W.mg_of X G a10, _, _, F11, b11, PySem.W.mg_of X G a11, _, _, F12, b12, PySem.W.mg_of X G a12, _, _, F13, b13, PySem.W.mg_of X G a13, PySem.W.mg_none_of X G z_abs, PySem.W.mg_none_of X G z_bool, PySem.W.mg_none_of X G z_int, PySem.W.mg_none_of X G z_isinstance, PySem.W.mg_none_of X G z_len, PySem.W.mg_none_of X G z_range, PySem.W.mg_none_of X G z_tuple, PySem.W.mg_of X G i_gcd⟩)⟩
end My
open PySem PySem.W PyProof.Rows
set_option maxHeartbeats 0 in
theorem PySem.Challenge.cw_besideandthrough_k90_fractions_holds : PySem.Challenge.rw_besideandthrough_k90_fractions.Holds := by
  w_on; o_law; k_head; (case hw => w_witness2)
  k_fill
  refine L2.walk_of (l := PySem.Challenge.rw_besideandthrough_k90_fractions) (n := 63) (k := 4) (x := "_law_script") (CX := fun _ => L2.CX0) (sp := fun w => DL.spOf _ DL.lawSp) rfl (by decide) rfl ⟨rfl, by decide, by decide⟩ (fun w h Y => PySem.W.kIn_of Y) ?F (fun _ _ a ns hl _ hS => DL.law_start hl hS) (fun _ _ _ _ _ h => h)
  case F =>
    intro w mg fa h KX G hmg
    refine' My.all_mk KX G hmg ?a0 ?l0 ?c0 ?k0 ?a1 ?l1 ?c1 ?k1 ?a2 ?l2 ?c2 ?k2 ?a3 ?l3 ?c3 ?k3 ?a4 ?l4 ?c4 ?k4 ?a5 ?l5 ?c5 ?k5 ?a6 ?l6 ?c6 ?k6 ?a7 ?l7 ?c7 ?k7 ?a8 ?l8 ?c8 ?k8 ?a9 ?l9 ?c9 ?k9 ?a10 ?l10 ?c10 ?k10 ?a11 ?l11 ?c11 ?k11 ?a12 ?l12 ?c12 ?k12 ?a13 ?l13 ?c13 ?k13 ?z_abs ?z_bool ?z_int ?z_isinstance ?z_len ?z_range ?z_tuple ?i_gcd
    (case a0 => k_is); (case l0 => k_is); (case c0 => k_is); (case k0 => k_is); (case a1 => k_is); (case l1 => k_is); (case c1 => k_is); (case k1 => k_is); (case a2 => k_is); (case l2 => k_is); (case c2 => k_is); (case k2 => k_is); (case a3 => k_is); (case l3 => k_is); (case c3 => k_is); (case k3 => k_is); (case a4 => k_is); (case l4 => k_is); (case c4 => k_is); (case k4 => k_is); (case a5 => k_is); (case l5 => k_is); (case c5 => k_is); (case k5 => k_is); (case a6 => k_is); (case l6 => k_is); (case c6 => k_is); (case k6 => k_is); (case a7 => k_is); (case l7 => k_is); (case c7 => k_is); (case k7 => k_is); (case a8 => k_is); (case l8 => k_is); (case c8 => k_is); (case k8 => k_is); (case a9 => k_is); (case l9 => k_is); (case c9 => k_is); (case k9 => k_is); (case a10 => k_is); (case l10 => k_is); (case c10 => k_is); (case k10 => k_is); (case a11 => k_is); (case l11 => k_is); (case c11 => k_is); (case k11 => k_is); (case a12 => k_is); (case l12 => k_is); (case c12 => k_is); (case k12 => k_is); (case a13 => k_is); (case l13 => k_is); (case c13 => k_is); (case k13 => k_is); (case z_abs => k_is); (case z_bool => k_is); (case z_int => k_is); (case z_isinstance => k_is); (case z_len => k_is); (case z_range => k_is); (case z_tuple => k_is); (case i_gcd => k_is)
