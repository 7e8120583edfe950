import PyProof.Rows.All
import Wide.All
import OpenK.AllK
import Wide.FinOn
import HandS.ForMost
import HandS.Evl
import HandS.Wide
import HandS.Gcd
import HandS.Style
import HandS.IsInst
import PySem.Challenge.RW_besideandthrough_k05_joined_is_least
set_option Elab.async false
set_option linter.all false
set_option maxRecDepth 100000
set_option maxHeartbeats 4000000
/-! Data over the hand layer: values as trees of data, frozen in a part F of the heap; lists that a def owns stand in its slots. -/
namespace DL
open PySem L2
open Evl (Ex)

/-- a value as data -/
inductive D where
  | non | bl (b : Bool) | int (i : Int) | str (x : Str) | tup (xs : List D) | lst (xs : List D) | scr (ns : List Int) | ref (a : Addr)

mutual
def Rp (K : PySem.W.Frag) (F : Hp) : D → V → Prop
  | .non, v => v = .non
  | .bl b, v => v = .bl b
  | .int i, v => v = .int i
  | .str x, v => v = .str x
  | .tup ds, v => ∃ a vs, v = .ref a ∧ SqT K F a vs ∧ Rps K F ds vs
  | .lst ds, v => ∃ a vs, v = .ref a ∧ F a = some (.lst vs) ∧ Rps K F ds vs
  | .scr ns, v => ∃ a, v = .ref a ∧ SqL K F a (ns.map V.int)
  | .ref a, v => v = .ref a
def Rps (K : PySem.W.Frag) (F : Hp) : List D → List V → Prop
  | [], vs => vs = []
  | d :: ds, vs => ∃ v r, vs = v :: r ∧ Rp K F d v ∧ Rps K F ds r
end

section
variable {K : PySem.W.Frag} {F F' : Hp}
mutual
theorem rp_mono (e : Ex F F') : ∀ (d : D) (v : V), Rp K F d v → Rp K F' d v
  | .non, _, h => h
  | .bl _, _, h => h
  | .int _, _, h => h
  | .str _, _, h => h
  | .tup ds, v, h => by
    obtain ⟨a, vs, e1, h1, h2⟩ := h
    exact ⟨a, vs, e1, Evl.ex_t e h1, rps_mono e ds vs h2⟩
  | .lst ds, v, h => by
    obtain ⟨a, vs, e1, h1, h2⟩ := h
    exact ⟨a, vs, e1, e _ _ h1, rps_mono e ds vs h2⟩
  | .scr ns, v, h => by
    obtain ⟨a, e1, h1⟩ := h
    exact ⟨a, e1, Evl.ex_l e h1⟩
  | .ref _, _, h => h
theorem rps_mono (e : Ex F F') : ∀ (ds : List D) (vs : List V), Rps K F ds vs → Rps K F' ds vs
  | [], _, h => h
  | d :: ds, vs, h => by
    obtain ⟨v, r, e1, h1, h2⟩ := h
    exact ⟨v, r, e1, rp_mono e d v h1, rps_mono e ds r h2⟩
end
theorem rps_len : ∀ {ds : List D} {vs : List V}, Rps K F ds vs → vs.length = ds.length
  | [], vs, h => by
    rw [show vs = [] from h]
    rfl
  | d :: ds, vs, h => by
    obtain ⟨v, r, e1, h1, h2⟩ := h
    rw [e1, List.length_cons, List.length_cons, rps_len h2]
theorem rps_get : ∀ {ds : List D} {vs : List V} {i : Nat} {d : D}, Rps K F ds vs → ds[i]? = some d → ∃ v, vs[i]? = some v ∧ Rp K F d v
  | [], _, _, _, _, h => by simp at h
  | d :: ds, vs, 0, e, h, h' => by
    obtain ⟨v, r, e1, h1, h2⟩ := h
    have : d = e := by simpa using h'
    subst this
    exact ⟨v, by rw [e1] <;> rfl, h1⟩
  | d :: ds, vs, i + 1, e, h, h' => by
    obtain ⟨v, r, e1, h1, h2⟩ := h
    obtain ⟨w, h3, h4⟩ := rps_get (i := i) h2 (by simpa using h')
    exact ⟨w, by rw [e1]; simpa using h3, h4⟩
theorem rps_get' : ∀ {ds : List D} {vs : List V} {i : Nat} {v : V}, Rps K F ds vs → vs[i]? = some v → ∃ d, ds[i]? = some d ∧ Rp K F d v := fun {ds vs i v} h h' => by
  have hl := rps_len h
  have hi : i < vs.length := (List.getElem?_eq_some_iff.mp h').1
  have hd : ds[i]? = some ds[i] := List.getElem?_eq_getElem (by omega)
  obtain ⟨w, h1, h2⟩ := rps_get h hd
  rw [h'] at h1
  cases h1
  exact ⟨_, hd, h2⟩
theorem rps_app : ∀ {ds es : List D} {vs ws : List V}, Rps K F ds vs → Rps K F es ws → Rps K F (ds ++ es) (vs ++ ws)
  | [], _, vs, _, h, h' => by
    rw [show vs = [] from h]
    exact h'
  | d :: ds, es, vs, ws, h, h' => by
    obtain ⟨v, r, e1, h1, h2⟩ := h
    exact ⟨v, r ++ ws, by rw [e1] <;> rfl, h1, rps_app h2 h'⟩
theorem rps_one {d : D} {v : V} (h : Rp K F d v) : Rps K F [d] [v] := ⟨v, [], rfl, h, rfl⟩
theorem rps_ints : ∀ (ns : List Int) (vs : List V), Rps K F (ns.map D.int) vs → vs = ns.map V.int
  | [], _, h => h
  | n :: ns, vs, h => by
    obtain ⟨v, r, e1, h1, h2⟩ := h
    rw [e1, show v = V.int n from h1, rps_ints ns r h2] <;> rfl
theorem ints_rps : ∀ (ns : List Int), Rps K F (ns.map D.int) (ns.map V.int)
  | [] => rfl
  | n :: ns => ⟨.int n, ns.map V.int, rfl, rfl, ints_rps ns⟩
theorem rps_take : ∀ {ds : List D} {vs : List V} (n : Nat), Rps K F ds vs → Rps K F (ds.take n) (vs.take n)
  | [], vs, n, h => by
    rw [show vs = [] from h]
    cases n <;> rfl
  | d :: ds, vs, 0, h => by
    rw [List.take_zero, List.take_zero]
    rfl
  | d :: ds, vs, n + 1, h => by
    obtain ⟨v, r, e1, h1, h2⟩ := h
    rw [e1]
    exact ⟨v, r.take n, rfl, h1, rps_take n h2⟩
theorem rps_drop : ∀ {ds : List D} {vs : List V} (n : Nat), Rps K F ds vs → Rps K F (ds.drop n) (vs.drop n)
  | [], vs, n, h => by
    rw [show vs = [] from h]
    cases n <;> rfl
  | d :: ds, vs, 0, h => h
  | d :: ds, vs, n + 1, h => by
    obtain ⟨v, r, e1, h1, h2⟩ := h
    rw [e1]
    exact rps_drop n h2
theorem rps_set : ∀ {ds : List D} {vs : List V} {d : D} {v : V} (i : Nat), Rps K F ds vs → Rp K F d v → Rps K F (ds.set i d) (vs.set i v)
  | [], vs, d, v, i, h, h' => by
    rw [show vs = [] from h]
    rfl
  | e :: ds, vs, d, v, 0, h, h' => by
    obtain ⟨w, r, e1, h1, h2⟩ := h
    rw [e1]
    exact ⟨v, r, rfl, h', h2⟩
  | e :: ds, vs, d, v, i + 1, h, h' => by
    obtain ⟨w, r, e1, h1, h2⟩ := h
    rw [e1]
    exact ⟨w, r.set i v, rfl, h1, rps_set i h2 h'⟩
end

/-! ### memory that may change, frames -/
inductive OD where
  | lst (ds : List D) | ins (C : Addr) (fs : List (Str × D))
abbrev Mem := Addr → Option OD
def RpO (K : PySem.W.Frag) (F : Hp) : OD → Option HO → Prop
  | .lst ds, h => ∃ vs, h = some (.lst vs) ∧ Rps K F ds vs
  | .ins C fs, h => ∃ dx vfs, h = some (.ins C dx vfs) ∧ vfs.map Prod.fst = fs.map Prod.fst ∧ Rps K F (fs.map Prod.snd) (vfs.map Prod.snd)
theorem RpO.mono {K : PySem.W.Frag} {F F' : Hp} (e : Ex F F') {o : OD} {h : Option HO} (x : RpO K F o h) : RpO K F' o h := by
  cases o with
  | lst ds =>
    obtain ⟨vs, e1, h1⟩ := x
    exact ⟨vs, e1, rps_mono e _ _ h1⟩
  | ins C fs =>
    obtain ⟨dx, vfs, e1, h0, h1⟩ := x
    exact ⟨dx, vfs, e1, h0, rps_mono e _ _ h1⟩
theorem RpO.some {K : PySem.W.Frag} {F : Hp} {o : OD} {h : Option HO} (x : RpO K F o h) : ∃ u, h = some u := by
  cases o with
  | lst ds =>
    obtain ⟨vs, e1, h1⟩ := x
    exact ⟨_, e1⟩
  | ins C fs =>
    obtain ⟨dx, vfs, e1, h0, h1⟩ := x
    exact ⟨_, e1⟩

/-- what stays: the rest R of the heap, what was frozen at the entry -/
structure Zx where
  R : Hp
  F0 : Hp
structure Bs (K : PySem.W.Frag) (Z : Zx) (M : Mem) (H F : Hp) : Prop where
  f0 : Ex Z.F0 F
  fH : Ex F H
  rH : Ex Z.R H
  fr : ∀ a o, F a = some o → Z.R a = none
  mm : ∀ a o, M a = some o → F a = none ∧ Z.R a = none ∧ RpO K F o (H a)

inductive Sl where
  | un | d (d : D) | own (ds : List D)
def SlotOk (K : PySem.W.Frag) (Z : Zx) (F : Hp) (M : Mem) (H : Hp) (o : Option (Option V)) : Sl → Prop
  | .un => True
  | .d d => ∃ v, o = some (some v) ∧ Rp K F d v
  | .own ds => ∃ a vs, o = some (some (.ref a)) ∧ H a = some (.lst vs) ∧ Rps K F ds vs ∧ F a = none ∧ Z.R a = none ∧ M a = none
structure Cn (K : PySem.W.Frag) (Z : Zx) (M : Mem) (σ : L2.St) (H : Hp) (Δ : List Sl) (F : Hp) : Prop where
  bs : Bs K Z M H F
  len : Δ.length = σ.length
  slot : ∀ (i : Nat) (s : Sl), Δ[i]? = some s → SlotOk K Z F M H σ[i]? s
  sep : ∀ (i j : Nat) (a : Addr) (ds es : List D), i ≠ j → Δ[i]? = some (.own ds) → Δ[j]? = some (.own es) → σ[i]? = some (some (.ref a)) → σ[j]? = some (some (.ref a)) → False

section
variable {K : PySem.W.Frag} {Z : Zx} {M : Mem} {σ : L2.St} {H F : Hp} {Δ : List Sl} {p : Addr} {o : HO}
theorem Bs.new (b : Bs K Z M H F) (hp : H p = none) (o : HO) : Bs K Z M (upd H p o) (upd F p o) where
  f0 := b.f0.trans (Ex.new (by
    cases h : F p with
    | none => rfl
    | some u => rw [b.fH p u h] at hp; cases hp))
  fH := fun a u h => by
    by_cases e : a = p
    · subst e; rw [upd_same] at h ⊢; exact h
    · rw [upd_ne e] at h ⊢; exact b.fH a u h
  rH := b.rH.trans (Ex.new hp)
  fr := fun a u h => by
    by_cases e : a = p
    · subst e
      cases h : Z.R a with
      | none => rfl
      | some u => rw [b.rH a u h] at hp; cases hp
    · rw [upd_ne e] at h; exact b.fr a u h
  mm := fun a u h => by
    obtain ⟨h1, h2, h3⟩ := b.mm a u h
    obtain ⟨v, hv⟩ := h3.some
    have e : a ≠ p := ne_of_none hv hp
    have eF : Ex F (upd F p o) := Ex.new (by
      cases h : F p with
      | none => rfl
      | some u => rw [b.fH p u h] at hp; cases hp)
    exact ⟨by rw [upd_ne e]; exact h1, h2, by rw [upd_ne e]; exact h3.mono eF⟩
theorem Bs.freeF (b : Bs K Z M H F) (hp : H p = none) : F p = none := by
  cases h : F p with
  | none => rfl
  | some u => rw [b.fH p u h] at hp; cases hp
theorem Bs.freeR (b : Bs K Z M H F) (hp : H p = none) : Z.R p = none := by
  cases h : Z.R p with
  | none => rfl
  | some u => rw [b.rH p u h] at hp; cases hp
theorem Bs.freeM (b : Bs K Z M H F) (hp : H p = none) : M p = none := by
  cases h : M p with
  | none => rfl
  | some u =>
    obtain ⟨h1, h2, h3⟩ := b.mm p u h
    obtain ⟨v, hv⟩ := h3.some
    rw [hp] at hv; cases hv
theorem Bs.newH (b : Bs K Z M H F) (hp : H p = none) (o : HO) : Bs K Z M (upd H p o) F where
  f0 := b.f0
  fH := b.fH.trans (Ex.new hp)
  rH := b.rH.trans (Ex.new hp)
  fr := b.fr
  mm := fun a u h => by
    obtain ⟨h1, h2, h3⟩ := b.mm a u h
    obtain ⟨v, hv⟩ := h3.some
    exact ⟨h1, h2, by rw [upd_ne (ne_of_none hv hp)]; exact h3⟩
theorem Bs.exF (b : Bs K Z M H F) (hp : H p = none) (o : HO) : Ex F (upd F p o) := Ex.new (b.freeF hp)

theorem SlotOk.mono {H' F' : Hp} {so : Option (Option V)} {s : Sl} (h : SlotOk K Z F M H so s) (eF : Ex F F') (hO : ∀ a vs, H a = some (.lst vs) → F a = none → Z.R a = none → M a = none → F' a = none ∧ H' a = some (.lst vs)) : SlotOk K Z F' M H' so s := by
  cases s with
  | un => exact True.intro
  | d d =>
    obtain ⟨v, e, r⟩ := h
    exact ⟨v, e, rp_mono eF _ _ r⟩
  | own ds =>
    obtain ⟨a, vs, e, h1, h2, h3, h4, h5⟩ := h
    obtain ⟨q1, q2⟩ := hO a vs h1 h3 h4 h5
    exact ⟨a, vs, e, q2, rps_mono eF _ _ h2, q1, h4, h5⟩
/-- a new object is laid and frozen -/
theorem Cn.new (c : Cn K Z M σ H Δ F) (hp : H p = none) (o : HO) : Cn K Z M σ (upd H p o) Δ (upd F p o) where
  bs := c.bs.new hp o
  len := c.len
  slot := fun i s h => (c.slot i s h).mono (c.bs.exF hp o) fun a vs h1 h2 _ _ => by
    have e : a ≠ p := ne_of_none h1 hp
    rw [upd_ne e, upd_ne e]
    exact ⟨h2, h1⟩
  sep := c.sep
theorem Cn.newH (c : Cn K Z M σ H Δ F) (hp : H p = none) (o : HO) : Cn K Z M σ (upd H p o) Δ F where
  bs := c.bs.newH hp o
  len := c.len
  slot := fun i s h => (c.slot i s h).mono (Ex.refl _) fun a vs h1 h2 _ _ => by
    have e : a ≠ p := ne_of_none h1 hp
    rw [upd_ne e]
    exact ⟨h2, h1⟩
  sep := c.sep
theorem get_set {α : Type} {xs : List α} {i j : Nat} {x y : α} (h : (xs.set i x)[j]? = some y) : (i = j ∧ i < xs.length ∧ y = x) ∨ (i ≠ j ∧ xs[j]? = some y) := by
  by_cases e : i = j
  · subst e
    left
    by_cases hl : i < xs.length
    · rw [List.getElem?_set_self hl] at h
      exact ⟨rfl, hl, (Option.some.inj h).symm⟩
    · rw [List.getElem?_eq_none_iff.mpr (by rw [List.length_set]; omega)] at h
      cases h
  · right
    rw [List.getElem?_set_ne e] at h
    exact ⟨e, h⟩
/-- a slot is stored -/
theorem Cn.set (c : Cn K Z M σ H Δ F) {d : D} {v : V} (r : Rp K F d v) (i : Nat) : Cn K Z M (σ.set i (some v)) H (Δ.set i (.d d)) F where
  bs := c.bs
  len := by rw [List.length_set, List.length_set, c.len]
  slot := fun j s h => by
    rcases get_set h with ⟨e, hl, e2⟩ | ⟨e, h'⟩
    · subst e e2
      exact ⟨v, by rw [List.getElem?_set_self (by rw [← c.len]; exact hl)], r⟩
    · have q := c.slot j s h'
      rw [List.getElem?_set_ne e]
      exact q
  sep := fun j l a ds es hne h1 h2 h3 h4 => by
    rcases get_set h1 with ⟨_, _, e⟩ | ⟨n1, h1'⟩
    · cases e
    rcases get_set h2 with ⟨_, _, e⟩ | ⟨n2, h2'⟩
    · cases e
    rw [List.getElem?_set_ne n1] at h3
    rw [List.getElem?_set_ne n2] at h4
    exact c.sep j l a ds es hne h1' h2' h3 h4
/-- a slot is stored with a list that is new and its own -/
theorem Cn.setOwn (c : Cn K Z M σ H Δ F) {ds : List D} {vs : List V} (hp : H p = none) (r : Rps K F ds vs) (i : Nat) : Cn K Z M (σ.set i (some (.ref p))) (upd H p (.lst vs)) (Δ.set i (.own ds)) F where
  bs := c.bs.newH hp _
  len := by rw [List.length_set, List.length_set, c.len]
  slot := fun j s h => by
    rcases get_set h with ⟨e, hl, e2⟩ | ⟨e, h'⟩
    · subst e e2
      exact ⟨p, vs, by rw [List.getElem?_set_self (by rw [← c.len]; exact hl)], upd_same, r, c.bs.freeF hp, c.bs.freeR hp, c.bs.freeM hp⟩
    · have q := (c.newH hp (.lst vs)).slot j s h'
      rw [List.getElem?_set_ne e]
      exact q
  sep := fun j l a es fs hne h1 h2 h3 h4 => by
    have other : ∀ (j : Nat) (es : List D) (a : Addr), Δ[j]? = some (.own es) → σ[j]? = some (some (.ref a)) → a ≠ p := fun j es a h h' => by
      obtain ⟨b, ws, e1, e2, _⟩ := c.slot j _ h
      rw [h'] at e1
      cases e1
      exact ne_of_none e2 hp
    rcases get_set h1 with ⟨e1, l1, e1'⟩ | ⟨n1, h1'⟩
    · subst e1
      rcases get_set h2 with ⟨e2, _, _⟩ | ⟨n2, h2'⟩
      · exact hne e2
      rw [List.getElem?_set_ne n2] at h4
      rw [List.getElem?_set_self (by rw [← c.len]; exact l1)] at h3
      cases h3
      exact other l fs _ h2' h4 rfl
    · rw [List.getElem?_set_ne n1] at h3
      rcases get_set h2 with ⟨e2, l2, e2'⟩ | ⟨n2, h2'⟩
      · subst e2
        rw [List.getElem?_set_self (by rw [← c.len]; exact l2)] at h4
        cases h4
        exact other j es _ h1' h3 rfl
      · rw [List.getElem?_set_ne n2] at h4
        exact c.sep j l a es fs hne h1' h2' h3 h4
/-- a slot is forgotten -/
theorem Cn.drop (c : Cn K Z M σ H Δ F) (i : Nat) : Cn K Z M σ H (Δ.set i .un) F where
  bs := c.bs
  len := by rw [List.length_set, c.len]
  slot := fun j s h => by
    rcases get_set h with ⟨e, hl, e2⟩ | ⟨e, h'⟩
    · subst e2; exact True.intro
    · exact c.slot j s h'
  sep := fun j l a ds es hne h1 h2 h3 h4 => by
    rcases get_set h1 with ⟨_, _, e⟩ | ⟨n1, h1'⟩
    · cases e
    rcases get_set h2 with ⟨_, _, e⟩ | ⟨n2, h2'⟩
    · cases e
    exact c.sep j l a ds es hne h1' h2' h3 h4
/-- an own list becomes data -/
theorem Cn.freeze (c : Cn K Z M σ H Δ F) {i : Nat} {ds : List D} {a : Addr} {vs : List V} (hi : Δ[i]? = some (.own ds)) (hσ : σ[i]? = some (some (.ref a))) (hH : H a = some (.lst vs)) (r : Rps K F ds vs) (hF : F a = none) (hR : Z.R a = none) (hM : M a = none) :
    Cn K Z M σ H (Δ.set i (.d (.lst ds))) (upd F a (.lst vs)) where
  bs := {
    f0 := c.bs.f0.trans (Ex.new hF)
    fH := fun b u h => by
      by_cases e : b = a
      · subst e; rw [upd_same] at h; rw [hH]; exact h
      · rw [upd_ne e] at h; exact c.bs.fH b u h
    rH := c.bs.rH
    fr := fun b u h => by
      by_cases e : b = a
      · subst e; exact hR
      · rw [upd_ne e] at h; exact c.bs.fr b u h
    mm := fun b u h => by
      obtain ⟨h1, h2, h3⟩ := c.bs.mm b u h
      have e : b ≠ a := fun e => by
        subst e; rw [hM] at h; cases h
      exact ⟨by rw [upd_ne e]; exact h1, h2, h3.mono (Ex.new hF)⟩ }
  len := by rw [List.length_set, c.len]
  slot := fun j s h => by
    rcases get_set h with ⟨e, hl, e2⟩ | ⟨e, h'⟩
    · subst e e2
      exact ⟨.ref a, hσ, a, vs, rfl, upd_same, rps_mono (Ex.new hF) _ _ r⟩
    · have q := c.slot j s h'
      cases s with
      | un => exact True.intro
      | d d =>
        obtain ⟨v, e1, r1⟩ := q
        exact ⟨v, e1, rp_mono (Ex.new hF) _ _ r1⟩
      | own es =>
        obtain ⟨b, ws, e1, h1, h2, h3, h4, h5⟩ := q
        have hb : b ≠ a := fun e2 => by
          subst e2
          exact c.sep i j b ds es e hi h' hσ e1
        exact ⟨b, ws, e1, h1, rps_mono (Ex.new hF) _ _ h2, by rw [upd_ne hb]; exact h3, h4, h5⟩
  sep := fun j l b es fs hne h1 h2 h3 h4 => by
    rcases get_set h1 with ⟨_, _, e⟩ | ⟨n1, h1'⟩
    · cases e
    rcases get_set h2 with ⟨_, _, e⟩ | ⟨n2, h2'⟩
    · cases e
    exact c.sep j l b es fs hne h1' h2' h3 h4
/-- an own list changes -/
theorem Cn.change (c : Cn K Z M σ H Δ F) {i : Nat} {ds es : List D} {a : Addr} {vs : List V} (hi : Δ[i]? = some (.own ds)) (hσ : σ[i]? = some (some (.ref a))) (hF : F a = none) (hR : Z.R a = none) (hM : M a = none) (r : Rps K F es vs) :
    Cn K Z M σ (upd H a (.lst vs)) (Δ.set i (.own es)) F where
  bs := {
    f0 := c.bs.f0
    fH := fun b u h => by
      have e : b ≠ a := fun e => by subst e; rw [hF] at h; cases h
      rw [upd_ne e]; exact c.bs.fH b u h
    rH := fun b u h => by
      have e : b ≠ a := fun e => by subst e; rw [hR] at h; cases h
      rw [upd_ne e]; exact c.bs.rH b u h
    fr := c.bs.fr
    mm := fun b u h => by
      have e : b ≠ a := fun e => by subst e; rw [hM] at h; cases h
      rw [upd_ne e]; exact c.bs.mm b u h }
  len := by rw [List.length_set, c.len]
  slot := fun j s h => by
    rcases get_set h with ⟨e, hl, e2⟩ | ⟨e, h'⟩
    · subst e e2
      exact ⟨a, vs, hσ, upd_same, r, hF, hR, hM⟩
    · have q := c.slot j s h'
      cases s with
      | un => exact True.intro
      | d d => exact q
      | own fs =>
        obtain ⟨b, ws, e1, h1, h2, h3, h4, h5⟩ := q
        have hb : b ≠ a := fun e2 => by
          subst e2
          exact c.sep i j b ds fs e hi h' hσ e1
        exact ⟨b, ws, e1, by rw [upd_ne hb]; exact h1, h2, h3, h4, h5⟩
  sep := fun j l b fs gs hne h1 h2 h3 h4 => by
    rcases get_set h1 with ⟨e1, l1, e1'⟩ | ⟨n1, h1'⟩
    · subst e1
      rcases get_set h2 with ⟨e2, _, _⟩ | ⟨n2, h2'⟩
      · exact hne e2
      · exact c.sep i l b ds gs hne hi h2' h3 h4
    · rcases get_set h2 with ⟨e2, l2, e2'⟩ | ⟨n2, h2'⟩
      · subst e2
        exact c.sep j i b fs ds hne h1' hi h3 h4
      · exact c.sep j l b fs gs hne h1' h2' h3 h4
end
end DL

set_option Elab.async false
set_option linter.all false
set_option maxRecDepth 100000
set_option maxHeartbeats 4000000
namespace DL
open PySem L2
open Evl (Ex)

/-! ### readings over data -/
abbrev RE := List Sl → Mem → (D → List Sl → Mem → Prop) → Prop
abbrev RT := List Sl → Mem → (Bool → List Sl → Mem → Prop) → Prop
abbrev RA := List Sl → Mem → (List D → List Sl → Mem → Prop) → Prop
structure DE where
  nx : List Sl → Mem → Prop
  rt : D → Mem → Prop
  bk : List Sl → Mem → Prop := fun _ _ => False
  ct : List Sl → Mem → Prop := fun _ _ => False
abbrev RS := DE → List Sl → Mem → Prop

def Sim (K : PySem.W.Frag) (Z : Zx) (t : TE) (r : RE) : Prop := ∀ (M : Mem) (σ : L2.St) (H : Hp) (Δ : List Sl) (F : Hp) (Φ : D → List Sl → Mem → Prop), Cn K Z M σ H Δ F → r Δ M Φ →
  ∀ Q : VK, (∀ v H' d Δ' M' F', Ex F F' → Cn K Z M' σ H' Δ' F' → Rp K F' d v → Φ d Δ' M' → Q v H') → t σ H Q
def SimT (K : PySem.W.Frag) (Z : Zx) (t : TT) (r : RT) : Prop := ∀ (M : Mem) (σ : L2.St) (H : Hp) (Δ : List Sl) (F : Hp) (Φ : Bool → List Sl → Mem → Prop), Cn K Z M σ H Δ F → r Δ M Φ →
  ∀ Q : Bool → Hp → Prop, (∀ b H' Δ' M' F', Ex F F' → Cn K Z M' σ H' Δ' F' → Φ b Δ' M' → Q b H') → t σ H Q
def SimA (K : PySem.W.Frag) (Z : Zx) (n : Nat) (t : TA) (r : RA) : Prop := ∀ (M : Mem) (σ : L2.St) (H : Hp) (Δ : List Sl) (F : Hp) (Φ : List D → List Sl → Mem → Prop), Cn K Z M σ H Δ F → r Δ M Φ →
  ∀ Q : List V → Hp → Prop, (∀ vs H' ds Δ' M' F', Ex F F' → Cn K Z M' σ H' Δ' F' → Rps K F' ds vs → ds.length = n → Φ ds Δ' M' → Q vs H') → t σ H Q
/-- what the concrete ends must take, from the frozen part F on -/
structure EndsOk (K : PySem.W.Frag) (Z : Zx) (F : Hp) (De : DE) (Dv : Ends) : Prop where
  nx : ∀ σ' H' Δ' M' F', Ex F F' → Cn K Z M' σ' H' Δ' F' → De.nx Δ' M' → Dv.nx σ' H'
  rt : ∀ v H' d M' F', Ex F F' → Bs K Z M' H' F' → Rp K F' d v → De.rt d M' → Dv.rt v H'
  bk : ∀ σ' H' Δ' M' F', Ex F F' → Cn K Z M' σ' H' Δ' F' → De.bk Δ' M' → Dv.bk σ' H'
  ct : ∀ σ' H' Δ' M' F', Ex F F' → Cn K Z M' σ' H' Δ' F' → De.ct Δ' M' → Dv.ct σ' H'
theorem EndsOk.mono {K : PySem.W.Frag} {Z : Zx} {F F1 : Hp} {De : DE} {Dv : Ends} (e : Ex F F1) (ok : EndsOk K Z F De Dv) : EndsOk K Z F1 De Dv :=
  ⟨fun σ' H' Δ' M' F' e1 => ok.nx σ' H' Δ' M' F' (e.trans e1), fun v H' d M' F' e1 => ok.rt v H' d M' F' (e.trans e1), fun σ' H' Δ' M' F' e1 => ok.bk σ' H' Δ' M' F' (e.trans e1), fun σ' H' Δ' M' F' e1 => ok.ct σ' H' Δ' M' F' (e.trans e1)⟩
def SimS (K : PySem.W.Frag) (Z : Zx) (t : TS) (r : RS) : Prop := ∀ (M : Mem) (σ : L2.St) (H : Hp) (Δ : List Sl) (F : Hp) (De : DE), Cn K Z M σ H Δ F → r De Δ M → ∀ Dv : Ends, EndsOk K Z F De Dv → t Dv σ H

def QE (X : Cx) (Z : Zx) (e : Expr) (r : RE) : Prop := ∃ t, PE X e t ∧ Sim X.K Z t r
def QT (X : Cx) (Z : Zx) (e : Expr) (r : RT) : Prop := ∃ t, PT X e t ∧ SimT X.K Z t r
def QW (X : Cx) (Z : Zx) (e : Expr) (r : RT) : Prop := ∃ t, PW X e t ∧ SimT X.K Z t r
def QA (X : Cx) (Z : Zx) (n : Nat) (es : List Expr) (r : RA) : Prop := ∃ t, PA X es t ∧ SimA X.K Z n t r
def QS (X : Cx) (Z : Zx) (s : Stmt) (r : RS) : Prop := ∃ t, PS X s t ∧ SimS X.K Z t r
def QSs (X : Cx) (Z : Zx) (s : List Stmt) (r : RS) : Prop := ∃ t, PSs X s t ∧ SimS X.K Z t r

section
variable {X : Cx} {Z : Zx} {e a b c : Expr} {ra rb rc r : RE} {pos : Pos}

/-! ### names, constants -/
/-- the value in a slot; an own list becomes data -/
def dVar (i : Nat) : RE := fun Δ M Φ => match Δ[i]? with
  | some (.d d) => Φ d Δ M
  | some (.own ds) => Φ (.lst ds) (Δ.set i (.d (.lst ds))) M
  | _ => False
def dC (d : D) : RE := fun Δ M Φ => Φ d Δ M
theorem sim_var {K : PySem.W.Frag} {i : Nat} : Sim K Z (tVar i) (dVar i) := by
  intro M σ H Δ F Φ c h Q q
  unfold dVar at h
  cases hs : Δ[i]? with
  | none => rw [hs] at h; exact h.elim
  | some s =>
    rw [hs] at h
    have k := c.slot i s hs
    cases s with
    | un => exact h.elim
    | d d =>
      obtain ⟨v, e, r⟩ := k
      exact ⟨v, e, q v H d Δ M F (Ex.refl _) c r h⟩
    | own ds =>
      obtain ⟨p, vs, e, h1, h2, h3, h4, h5⟩ := k
      exact ⟨.ref p, e, q _ H (.lst ds) _ M (upd F p (.lst vs)) (Ex.new h3) (c.freeze hs e h1 h2 h3 h4 h5) ⟨p, vs, rfl, upd_same, rps_mono (Ex.new h3) _ _ h2⟩ h⟩
theorem qe_var (i : Nat) {x : Str} (hN : X.N[i]? = some x := by rfl) (hv : Vis X.env.scope x := by first | exact Or.inl rfl | exact Or.inr (Or.inl rfl) | exact Or.inr (Or.inr rfl)) (hd : (x == ("__debug__" : Str)) = false := by decide)
    (hcd : (x == ("__classdict__" : Str)) = false := by decide) : QE X Z (.Name x pos) (dVar i) := ⟨_, pe_var hN hv hd hcd, sim_var⟩
theorem sim_c {K : PySem.W.Frag} {v : V} {d : D} (h : ∀ F, Rp K F d v) : Sim K Z (tC v) (dC d) := fun M σ H Δ F Φ c k Q q => q v H d Δ M F (Ex.refl _) c (h F) k
theorem qe_int {i j} : QE X Z (.Constant (.int i) j pos) (dC (.int i)) := ⟨_, pe_int, sim_c fun _ => rfl⟩
theorem qe_bl {b j} : QE X Z (.Constant (.bool b) j pos) (dC (.bl b)) := ⟨_, pe_bl, sim_c fun _ => rfl⟩
theorem qe_non {j} : QE X Z (.Constant .none j pos) (dC .non) := ⟨_, pe_non, sim_c fun _ => rfl⟩
theorem qe_str {x j} : QE X Z (.Constant (.str x) j pos) (dC (.str x)) := ⟨_, pe_str, sim_c fun _ => rfl⟩

/-! ### two-place operations -/
/-- an operation on data: dr x y Φ asks, then hands on a value; nothing but new frozen objects is made -/
def OpD (K : PySem.W.Frag) (rv : R2) (dr : D → D → (D → Prop) → Prop) : Prop := ∀ (Z : Zx) (M : Mem) (σ : L2.St) (H : Hp) (Δ : List Sl) (F : Hp) (x y : D) (v w : V) (Φ : D → Prop), Cn K Z M σ H Δ F → Rp K F x v → Rp K F y w → dr x y Φ →
  ∀ Q : VK, (∀ u H' d F', Ex F F' → Cn K Z M σ H' Δ F' → Rp K F' d u → Φ d → Q u H') → rv v w H Q
def dOp (dr : D → D → (D → Prop) → Prop) (ra rb : RE) : RE := fun Δ M Φ => ra Δ M fun x Δ1 M1 => rb Δ1 M1 fun y Δ2 M2 => dr x y fun d => Φ d Δ2 M2
theorem sim_op {K : PySem.W.Frag} {rv : R2} {dr : D → D → (D → Prop) → Prop} {ta tb : TE} (ho : OpD K rv dr) (ha : Sim K Z ta ra) (hb : Sim K Z tb rb) : Sim K Z (tOp rv ta tb) (dOp dr ra rb) := by
  intro M σ H Δ F Φ c h Q q
  refine ha M σ H Δ F _ c h _ fun v H1 x Δ1 M1 F1 e1 c1 r1 h1 => ?_
  refine hb M1 σ H1 Δ1 F1 _ c1 h1 _ fun w H2 y Δ2 M2 F2 e2 c2 r2 h2 => ?_
  exact ho Z M2 σ H2 Δ2 F2 x y v w _ c2 (rp_mono e2 _ _ r1) r2 h2 Q fun u H3 d F3 e3 c3 r3 h3 => q u H3 d Δ2 M2 F3 ((e1.trans e2).trans e3) c3 r3 h3
theorem OpD.or {K : PySem.W.Frag} {r1 r2 : R2} {d1 d2 dr : D → D → (D → Prop) → Prop} (h1 : OpD K r1 d1) (h2 : OpD K r2 d2) (h : ∀ x y Φ, dr x y Φ → d1 x y Φ ∨ d2 x y Φ) : OpD K (fun x y H Q => r1 x y H Q ∨ r2 x y H Q) dr := by
  intro Z M σ H Δ F x y v w Φ c rx ry k Q q
  rcases h x y Φ k with k | k
  · exact .inl (h1 Z M σ H Δ F x y v w Φ c rx ry k Q q)
  · exact .inr (h2 Z M σ H Δ F x y v w Φ c rx ry k Q q)
theorem qe_bin {op : Operator} {rv : R2} {dr : D → D → (D → Prop) → Prop} (ho : OpR X (binaryOp op) rv) (hd : OpD X.K rv dr) (ha : QE X Z a ra) (hb : QE X Z b rb) : QE X Z (.BinOp a op b pos) (dOp dr ra rb) := by
  obtain ⟨ta, pa, sa⟩ := ha
  obtain ⟨tb, pb, sb⟩ := hb
  exact ⟨_, pe_op ho pa pb, sim_op hd sa sb⟩
theorem qe_cmp {op : CmpOp} {rv : R2} {dr : D → D → (D → Prop) → Prop} (ho : OpR X (compareOp op) rv) (hd : OpD X.K rv dr) (ha : QE X Z a ra) (hb : QE X Z b rb) (hm : behindInMarks op b = false := by first | exact nobehind _ (by decide) (by decide) | rfl) : QE X Z (.Compare a [op] [b] pos) (dOp dr ra rb) := by
  obtain ⟨ta, pa, sa⟩ := ha
  obtain ⟨tb, pb, sb⟩ := hb
  exact ⟨_, pe_cmpR ho pa pb hm, sim_op hd sa sb⟩
/-- the two ways of a truth value -/
def bs (k : Bool) (Φ : Bool → Prop) : Prop := (k = true → Φ true) ∧ (k = false → Φ false)
theorem bs_of {k : Bool} {Φ : Bool → Prop} (h : bs k Φ) : Φ k := by
  cases k with
  | true => exact h.1 rfl
  | false => exact h.2 rfl
/-- a test that is a truth value -/
def dTest (r : RE) : RT := fun Δ M Φ => r Δ M fun x Δ1 M1 => match x with
  | .bl k => bs k fun k => Φ k Δ1 M1
  | _ => False
theorem simT_test {K : PySem.W.Frag} {t : TE} (h : Sim K Z t r) : SimT K Z (tTest t) (dTest r) := by
  intro M σ H Δ F Φ c k Q q
  refine h M σ H Δ F _ c k _ fun v H1 x Δ1 M1 F1 e1 c1 r1 h1 => ?_
  cases x with
  | bl b => exact ⟨b, r1, q b H1 Δ1 M1 F1 e1 c1 (bs_of h1)⟩
  | _ => exact h1.elim
theorem qt_cmp {op : CmpOp} {rv : R2} {dr : D → D → (D → Prop) → Prop} (ho : OpR X (compareOp op) rv) (hd : OpD X.K rv dr) (ha : QE X Z a ra) (hb : QE X Z b rb) (hm : behindInMarks op b = false := by first | exact nobehind _ (by decide) (by decide) | rfl) : QT X Z (.Compare a [op] [b] pos) (dTest (dOp dr ra rb)) := by
  obtain ⟨ta, pa, sa⟩ := ha
  obtain ⟨tb, pb, sb⟩ := hb
  exact ⟨_, pt_cmpR ho pa pb hm, simT_test (sim_op hd sa sb)⟩
/-- an expression whose value is a truth value, as a test -/
theorem qt_val (h : QE X Z e r) (he : ∀ whole, isTrue e X.env whole = (do let v ← whole; standAt e.pos; holding [v] (truthy v)) := by intro _; rfl) : QT X Z e (dTest r) := by
  obtain ⟨t, p, s⟩ := h
  exact ⟨_, pt_val p he, simT_test s⟩

/-- ints -/
def dI (g : Int → Int → D) : D → D → (D → Prop) → Prop := fun x y Φ => match x, y with
  | .int i, .int j => Φ (g i j)
  | _, _ => False
def dIC (C : Int → Int → Prop) (g : Int → Int → D) : D → D → (D → Prop) → Prop := fun x y Φ => match x, y with
  | .int i, .int j => C i j ∧ Φ (g i j)
  | _, _ => False
theorem opD_I {K : PySem.W.Frag} {g : Int → Int → V} {g' : Int → Int → D} (hg : ∀ F i j, Rp K F (g' i j) (g i j)) : OpD K (rI0 g) (dI g') := by
  intro Z M σ H Δ F x y v w Φ c rx ry k Q q
  unfold dI at k
  split at k
  · exact ⟨_, _, rx, ry, q _ H _ F (Ex.refl _) c (hg F _ _) k⟩
  · exact k.elim
theorem opD_IC {K : PySem.W.Frag} {C : Int → Int → Prop} {g : Int → Int → V} {g' : Int → Int → D} (hg : ∀ F i j, Rp K F (g' i j) (g i j)) : OpD K (rI C g) (dIC C g') := by
  intro Z M σ H Δ F x y v w Φ c rx ry k Q q
  unfold dIC at k
  split at k
  · exact ⟨_, _, rx, ry, k.1, q _ H _ F (Ex.refl _) c (hg F _ _) k.2⟩
  · exact k.elim
theorem qe_sub (ha : QE X Z a ra) (hb : QE X Z b rb) : QE X Z (.BinOp a .Sub b pos) (dOp (dI fun i j => .int (i - j)) ra rb) := qe_bin op_sub (opD_I fun _ _ _ => rfl) ha hb
theorem qe_mul (ha : QE X Z a ra) (hb : QE X Z b rb) : QE X Z (.BinOp a .Mult b pos) (dOp (dIC CMul fun i j => .int (i * j)) ra rb) := qe_bin op_mul (opD_IC fun _ _ _ => rfl) ha hb
theorem qe_mulW (ha : QE X Z a ra) (hb : QE X Z b rb) : QE X Z (.BinOp a .Mult b pos) (dOp (dIC CMulW fun i j => .int (i * j)) ra rb) := qe_bin op_mulW (opD_IC fun _ _ _ => rfl) ha hb
theorem qe_fdiv (ha : QE X Z a ra) (hb : QE X Z b rb) : QE X Z (.BinOp a .FloorDiv b pos) (dOp (dIC CDiv fun i j => .int (i / j)) ra rb) := qe_bin op_fdiv (opD_IC fun _ _ _ => rfl) ha hb
theorem qe_fdivW (ha : QE X Z a ra) (hb : QE X Z b rb) : QE X Z (.BinOp a .FloorDiv b pos) (dOp (dIC CDivW fun i j => .int (i / j)) ra rb) := qe_bin op_fdivW (opD_IC fun _ _ _ => rfl) ha hb
theorem qe_mod (ha : QE X Z a ra) (hb : QE X Z b rb) : QE X Z (.BinOp a .Mod b pos) (dOp (dIC (fun _ j => 0 < j) fun i j => .int (i % j)) ra rb) := qe_bin op_mod (opD_IC fun _ _ _ => rfl) ha hb
theorem qe_pow (ha : QE X Z a ra) (hb : QE X Z b rb) : QE X Z (.BinOp a .Pow b pos) (dOp (dIC CPow fun i j => .int (i ^ j.toNat)) ra rb) := qe_bin op_pow (opD_IC fun _ _ _ => rfl) ha hb
/-- + : ints, texts, lists, tuples -/
def dAdd : D → D → (D → Prop) → Prop := fun x y Φ => match x, y with
  | .int i, .int j => Φ (.int (i + j))
  | .str i, .str j => i.length + j.length ≤ sizeLine ∧ Φ (.str (i ++ j))
  | .lst xs, .lst ys => xs.length + ys.length ≤ sizeLine ∧ Φ (.lst (xs ++ ys))
  | .tup xs, .tup ys => xs ≠ [] ∧ xs.length + ys.length ≤ sizeLine ∧ Φ (.tup (xs ++ ys))
  | _, _ => False
def rAddAll (K : PySem.W.Frag) : R2 := fun x y H Q => (rI0 (fun i j => .int (i + j)) x y H Q ∨ (∃ i j, x = .str i ∧ y = .str j ∧ i.length + j.length ≤ sizeLine ∧ Q (.str (i ++ j)) H)) ∨ (rCat x y H Q ∨ rCatT K x y H Q)
theorem op_addAll : OpR X (binaryOp .Add) (rAddAll X.K) := OpR.or (OpR.or op_add op_add_str) (OpR.or op_cat op_catT)
theorem opD_add {K : PySem.W.Frag} : OpD K (rAddAll K) dAdd := by
  intro Z M σ H Δ F x y v w Φ c rx ry k Q q
  unfold dAdd at k
  split at k
  · exact .inl (.inl ⟨_, _, rx, ry, q _ H (.int _) F (Ex.refl _) c rfl k⟩)
  · exact .inl (.inr ⟨_, _, rx, ry, k.1, q _ H (.str _) F (Ex.refl _) c rfl k.2⟩)
  · obtain ⟨a, vs, e1, h1, h2⟩ := rx
    obtain ⟨b, ws, e2, h3, h4⟩ := ry
    obtain ⟨k1, k2⟩ := k
    refine .inr (.inl ⟨a, b, vs, ws, e1, e2, c.bs.fH _ _ h1, c.bs.fH _ _ h3, by rw [rps_len h2, rps_len h4]; exact k1, fun p hp => ?_⟩)
    exact q _ _ (.lst _) _ (c.bs.exF hp _) (c.new hp _) ⟨p, _, rfl, upd_same, rps_mono (c.bs.exF hp _) _ _ (rps_app h2 h4)⟩ k2
  · rename_i xs ys
    obtain ⟨a, vs, e1, h1, h2⟩ := rx
    obtain ⟨b, ws, e2, h3, h4⟩ := ry
    obtain ⟨k0, k1, k2⟩ := k
    refine .inr (.inr ⟨a, b, vs, ws, e1, e2, Evl.ex_t c.bs.fH h1, Evl.ex_t c.bs.fH h3, fun z => ?_, by rw [rps_len h2, rps_len h4]; exact k1, fun z => ?_, fun z p hp => ?_⟩)
    · have := rps_len h2
      rw [z] at this
      exact k0 (List.length_eq_zero_iff.mp this.symm)
    · have hy : ys = [] := by
        have := rps_len h4
        rw [z] at this
        exact List.length_eq_zero_iff.mp this.symm
      refine q _ H (.tup xs) F (Ex.refl _) c ⟨a, vs, rfl, h1, h2⟩ ?_
      rw [hy, List.append_nil] at k2
      exact k2
    · exact q _ _ (.tup _) _ (c.bs.exF hp _) (c.new hp _) ⟨p, _, rfl, SqT.of upd_same, rps_mono (c.bs.exF hp _) _ _ (rps_app h2 h4)⟩ k2
  · exact k.elim
theorem qe_add (ha : QE X Z a ra) (hb : QE X Z b rb) : QE X Z (.BinOp a .Add b pos) (dOp dAdd ra rb) := qe_bin op_addAll opD_add ha hb

/-! ### comparisons of ints -/
abbrev dLt := dI fun i j => .bl (decide (i < j))
abbrev dLe := dI fun i j => .bl (decide (i ≤ j))
abbrev dGt := dI fun i j => .bl (decide (j < i))
abbrev dGe := dI fun i j => .bl (decide (j ≤ i))
theorem od_lt {K : PySem.W.Frag} : OpD K (rI0 fun i j => .bl (decide (i < j))) dLt := opD_I fun _ _ _ => rfl
theorem od_le {K : PySem.W.Frag} : OpD K (rI0 fun i j => .bl (decide (i ≤ j))) dLe := opD_I fun _ _ _ => rfl
theorem od_gt {K : PySem.W.Frag} : OpD K (rI0 fun i j => .bl (decide (j < i))) dGt := opD_I fun _ _ _ => rfl
theorem od_ge {K : PySem.W.Frag} : OpD K (rI0 fun i j => .bl (decide (j ≤ i))) dGe := opD_I fun _ _ _ => rfl

/-! ### == over data -/
/-! whole data -/
mutual
def D.py : D → PyData
  | .non => .none
  | .bl b => .bool b
  | .int i => .int i
  | .str x => .str x
  | .tup ds => .tuple (pys ds)
  | .lst ds => .list (pys ds)
  | .scr ns => .list (ns.map .int)
  | .ref _ => .none
def pys : List D → List PyData
  | [] => []
  | d :: ds => d.py :: pys ds
end
mutual
def D.pure : D → Bool
  | .tup ds => pures ds
  | .lst ds => pures ds
  | .ref _ => false
  | _ => true
def pures : List D → Bool
  | [] => true
  | d :: ds => d.pure && pures ds
end
theorem dpAll_ints {K : PySem.W.Frag} {H : Hp} : ∀ ns : List Int, DpAll K H (ns.map V.int) (ns.map PyData.int)
  | [] => .nil
  | n :: ns => .cons (.int n) (dpAll_ints ns)
mutual
theorem rp_dp {K : PySem.W.Frag} {F H : Hp} (e : Ex F H) : ∀ (d : D) (v : V), d.pure = true → Rp K F d v → Dp K H v d.py
  | .non, v, _, h => by rw [show v = .non from h]; exact .non
  | .bl b, v, _, h => by rw [show v = .bl b from h]; exact .bl b
  | .int i, v, _, h => by rw [show v = .int i from h]; exact .int i
  | .str x, v, _, h => by rw [show v = .str x from h]; exact .str x
  | .tup ds, v, p, h => by
    obtain ⟨a, vs, e1, h1, h2⟩ := h
    rw [e1]
    exact .tup (Evl.ex_t e h1) (rps_dp e ds vs p h2)
  | .lst ds, v, p, h => by
    obtain ⟨a, vs, e1, h1, h2⟩ := h
    rw [e1]
    exact .lst (SqL.of (e _ _ h1)) (rps_dp e ds vs p h2)
  | .scr ns, v, p, h => by
    obtain ⟨a, e1, h1⟩ := h
    rw [e1]
    exact .lst (Evl.ex_l e h1) (dpAll_ints ns)
  | .ref _, _, p, _ => by cases p
theorem rps_dp {K : PySem.W.Frag} {F H : Hp} (e : Ex F H) : ∀ (ds : List D) (vs : List V), pures ds = true → Rps K F ds vs → DpAll K H vs (pys ds)
  | [], vs, _, h => by rw [show vs = [] from h]; exact .nil
  | d :: ds, vs, p, h => by
    obtain ⟨v, r, e1, h1, h2⟩ := h
    rw [e1]
    have p' : (d.pure && pures ds) = true := p
    rw [Bool.and_eq_true] at p'
    exact .cons (rp_dp e d v p'.1 h1) (rps_dp e ds r p'.2 h2)
end
def dEq : D → D → (D → Prop) → Prop := fun x y Φ => x.pure = true ∧ y.pure = true ∧ SeqAt.shaped x.py = true ∧ SeqAt.shaped y.py = true ∧ Φ (.bl (PyData.eqv x.py y.py))
def dNe : D → D → (D → Prop) → Prop := fun x y Φ => x.pure = true ∧ y.pure = true ∧ SeqAt.shaped x.py = true ∧ SeqAt.shaped y.py = true ∧ Φ (.bl (!PyData.eqv x.py y.py))
theorem od_eq {K : PySem.W.Frag} : OpD K (rEqD K) dEq := by
  intro Z M σ H Δ F x y v w Φ c rx ry k Q q
  obtain ⟨h1, h2, h3, h4, k⟩ := k
  exact ⟨_, _, rp_dp c.bs.fH x v h1 rx, rp_dp c.bs.fH y w h2 ry, h3, h4, q _ H (.bl _) F (Ex.refl _) c rfl k⟩
theorem od_ne {K : PySem.W.Frag} : OpD K (rNeD K) dNe := by
  intro Z M σ H Δ F x y v w Φ c rx ry k Q q
  obtain ⟨h1, h2, h3, h4, k⟩ := k
  exact ⟨_, _, rp_dp c.bs.fH x v h1 rx, rp_dp c.bs.fH y w h2 ry, h3, h4, q _ H (.bl _) F (Ex.refl _) c rfl k⟩
/-- == of two ints, texts or truth values -/
def dEqS : D → D → (D → Prop) → Prop := fun x y Φ => match x, y with
  | .int i, .int j => Φ (.bl (decide (i = j)))
  | .str i, .str j => Φ (.bl (decide (i = j)))
  | .bl i, .bl j => Φ (.bl (decide (i = j)))
  | _, _ => False
def dNeS : D → D → (D → Prop) → Prop := fun x y Φ => match x, y with
  | .int i, .int j => Φ (.bl (!decide (i = j)))
  | .str i, .str j => Φ (.bl (!decide (i = j)))
  | .bl i, .bl j => Φ (.bl (!decide (i = j)))
  | _, _ => False
theorem dec_vi {i j : Int} : decide (V.int i = V.int j) = decide (i = j) := by simp
theorem dec_vs {i j : Str} : decide (V.str i = V.str j) = decide (i = j) := by simp
theorem dec_vb {i j : Bool} : decide (V.bl i = V.bl j) = decide (i = j) := by simp
theorem od_eqS {K : PySem.W.Frag} : OpD K rEq dEqS := by
  intro Z M σ H Δ F x y v w Φ c rx ry k Q q
  unfold dEqS at k
  split at k
  · cases rx; cases ry
    exact ⟨rfl, by rw [dec_vi]; exact q _ H (.bl _) F (Ex.refl _) c rfl k⟩
  · cases rx; cases ry
    exact ⟨rfl, by rw [dec_vs]; exact q _ H (.bl _) F (Ex.refl _) c rfl k⟩
  · cases rx; cases ry
    exact ⟨rfl, by rw [dec_vb]; exact q _ H (.bl _) F (Ex.refl _) c rfl k⟩
  · exact k.elim
theorem od_neS {K : PySem.W.Frag} : OpD K rNe dNeS := by
  intro Z M σ H Δ F x y v w Φ c rx ry k Q q
  unfold dNeS at k
  split at k
  · cases rx; cases ry
    exact ⟨rfl, by rw [dec_vi]; exact q _ H (.bl _) F (Ex.refl _) c rfl k⟩
  · cases rx; cases ry
    exact ⟨rfl, by rw [dec_vs]; exact q _ H (.bl _) F (Ex.refl _) c rfl k⟩
  · cases rx; cases ry
    exact ⟨rfl, by rw [dec_vb]; exact q _ H (.bl _) F (Ex.refl _) c rfl k⟩
  · exact k.elim
/-- is, is not of truth values; is None -/
def dIsB : D → D → (D → Prop) → Prop := fun x y Φ => match x, y with
  | .bl i, .bl j => Φ (.bl (decide (i = j)))
  | _, _ => False
def dNotB : D → D → (D → Prop) → Prop := fun x y Φ => match x, y with
  | .bl i, .bl j => Φ (.bl (!decide (i = j)))
  | _, _ => False
theorem od_isB {K : PySem.W.Frag} : OpD K rIsB dIsB := by
  intro Z M σ H Δ F x y v w Φ c rx ry k Q q
  unfold dIsB at k
  split at k
  · exact ⟨_, _, rx, ry, q _ H (.bl _) F (Ex.refl _) c rfl k⟩
  · exact k.elim
theorem od_notB {K : PySem.W.Frag} : OpD K rNotB dNotB := by
  intro Z M σ H Δ F x y v w Φ c rx ry k Q q
  unfold dNotB at k
  split at k
  · exact ⟨_, _, rx, ry, q _ H (.bl _) F (Ex.refl _) c rfl k⟩
  · exact k.elim
def D.isNon : D → Bool
  | .non => true
  | _ => false
theorem rp_isNon {K : PySem.W.Frag} {F : Hp} {d : D} {v : V} (h : Rp K F d v) : decide (v = .non) = d.isNon := by
  cases d with
  | non => rw [show v = .non from h] <;> rfl
  | bl b => rw [show v = .bl b from h] <;> rfl
  | int b => rw [show v = .int b from h] <;> rfl
  | str b => rw [show v = .str b from h] <;> rfl
  | tup ds => obtain ⟨a, vs, e, _⟩ := h; rw [e] <;> rfl
  | lst ds => obtain ⟨a, vs, e, _⟩ := h; rw [e] <;> rfl
  | scr ds => obtain ⟨a, e, _⟩ := h; rw [e] <;> rfl
  | ref a => rw [show v = .ref a from h] <;> rfl
def dIsN : D → D → (D → Prop) → Prop := fun x y Φ => match y with
  | .non => Φ (.bl x.isNon)
  | _ => False
def dNotN : D → D → (D → Prop) → Prop := fun x y Φ => match y with
  | .non => Φ (.bl (!x.isNon))
  | _ => False
def rIsNo : R2 := fun x y H Q => y = .non ∧ Q (.bl (decide (x = .non))) H
def rNotNo : R2 := fun x y H Q => y = .non ∧ Q (.bl (!decide (x = .non))) H
theorem op_isNo : OpR X (compareOp .Is) rIsNo := op_isN
theorem op_notNo : OpR X (compareOp .IsNot) rNotNo := op_notN
theorem od_isN {K : PySem.W.Frag} : OpD K rIsNo dIsN := by
  intro Z M σ H Δ F x y v w Φ c rx ry k Q q
  unfold dIsN at k
  split at k
  · exact ⟨ry, by rw [rp_isNon rx]; exact q _ H (.bl _) F (Ex.refl _) c rfl k⟩
  · exact k.elim
theorem od_notN {K : PySem.W.Frag} : OpD K rNotNo dNotN := by
  intro Z M σ H Δ F x y v w Φ c rx ry k Q q
  unfold dNotN at k
  split at k
  · exact ⟨ry, by rw [rp_isNon rx]; exact q _ H (.bl _) F (Ex.refl _) c rfl k⟩
  · exact k.elim
end
end DL

set_option Elab.async false
set_option linter.all false
set_option maxRecDepth 100000
set_option maxHeartbeats 4000000
namespace DL
open PySem L2
open Evl (Ex)
section
variable {X : Cx} {Z : Zx} {e a b c : Expr} {ra rb rc r : RE} {rt ru : RT} {pos : Pos} {es : List Expr} {rl : RA} {n : Nat} {K : PySem.W.Frag}

/-! ### arguments, tuples, lists -/
def dNil : RA := fun Δ M Φ => Φ [] Δ M
def dCons (r : RE) (rl : RA) : RA := fun Δ M Φ => r Δ M fun d Δ1 M1 => rl Δ1 M1 fun ds Δ2 M2 => Φ (d :: ds) Δ2 M2
theorem qa_nil : QA X Z 0 [] dNil := ⟨_, pa_nil, fun M σ H Δ F Φ c h Q q => q [] H [] Δ M F (Ex.refl _) c rfl rfl h⟩
theorem qa_cons (he : QE X Z e r) (hr : QA X Z n es rl) (hs : starEach (e :: es) X.env = (false, eval e X.env) :: starEach es X.env := by rfl) : QA X Z (n + 1) (e :: es) (dCons r rl) := by
  obtain ⟨t, p, s⟩ := he
  obtain ⟨u, p', s'⟩ := hr
  refine ⟨_, pa_cons p p' hs, fun M σ H Δ F Φ c h Q q => ?_⟩
  refine s M σ H Δ F _ c h _ fun v H1 x Δ1 M1 F1 e1 c1 r1 h1 => ?_
  refine s' M1 σ H1 Δ1 F1 _ c1 h1 _ fun vs H2 ds Δ2 M2 F2 e2 c2 r2 hl h2 => ?_
  exact q _ H2 (x :: ds) Δ2 M2 F2 (e1.trans e2) c2 ⟨v, vs, rfl, rp_mono e2 _ _ r1, r2⟩ (by rw [List.length_cons, hl]) h2
def dTup (rl : RA) : RE := fun Δ M Φ => rl Δ M fun ds Δ1 M1 => Φ (.tup ds) Δ1 M1
theorem line_of {n : Nat} (h : n ≤ 1000) : n ≤ sizeLine := Nat.le_trans h (by decide)
theorem qe_tup {x1} (h : QA X Z n es rl) (hn : n ≤ 1000 := by decide) : QE X Z (.Tuple es x1 pos) (dTup rl) := by
  obtain ⟨t, p, s⟩ := h
  refine ⟨_, pe_tup p, fun M σ H Δ F Φ c h Q q => ?_⟩
  refine s M σ H Δ F _ c h _ fun vs H1 ds Δ1 M1 F1 e1 c1 r1 hl h1 => ?_
  refine ⟨by rw [rps_len r1, hl]; exact line_of hn, fun p hp => ?_⟩
  exact q _ _ (.tup ds) Δ1 M1 _ (e1.trans (c1.bs.exF hp _)) (c1.new hp _) ⟨p, vs, rfl, SqT.of upd_same, rps_mono (c1.bs.exF hp _) _ _ r1⟩ h1

/-! ### expressions that make a new list -/
def SimL (K : PySem.W.Frag) (Z : Zx) (t : TE) (r : RA) : Prop := ∀ (M : Mem) (σ : L2.St) (H : Hp) (Δ : List Sl) (F : Hp) (Φ : List D → List Sl → Mem → Prop), Cn K Z M σ H Δ F → r Δ M Φ →
  ∀ Q : VK, (∀ p H1 vs ds Δ' M' F', Ex F F' → Cn K Z M' σ H1 Δ' F' → H1 p = none → Rps K F' ds vs → Φ ds Δ' M' → Q (.ref p) (upd H1 p (.lst vs))) → t σ H Q
def QL (X : Cx) (Z : Zx) (e : Expr) (r : RA) : Prop := ∃ t, PE X e t ∧ SimL X.K Z t r
/-- frozen at once -/
def dFz (rl : RA) : RE := fun Δ M Φ => rl Δ M fun ds Δ1 M1 => Φ (.lst ds) Δ1 M1
theorem qe_fz (h : QL X Z e rl) : QE X Z e (dFz rl) := by
  obtain ⟨t, p, s⟩ := h
  refine ⟨t, p, fun M σ H Δ F Φ c h Q q => ?_⟩
  refine s M σ H Δ F _ c h Q fun p H1 vs ds Δ1 M1 F1 e1 c1 hp r1 h1 => ?_
  exact q _ _ (.lst ds) Δ1 M1 _ (e1.trans (c1.bs.exF hp _)) (c1.new hp _) ⟨p, vs, rfl, upd_same, rps_mono (c1.bs.exF hp _) _ _ r1⟩ h1
theorem ql_lst (h : QA X Z n es rl) (hn : n ≤ 1000 := by decide) : QL X Z (.List es pos) rl := by
  obtain ⟨t, p, s⟩ := h
  refine ⟨_, pe_lst p, fun M σ H Δ F Φ c h Q q => ?_⟩
  refine s M σ H Δ F _ c h _ fun vs H1 ds Δ1 M1 F1 e1 c1 r1 hl h1 => ?_
  exact ⟨by rw [rps_len r1, hl]; exact line_of hn, fun p hp => q p H1 vs ds Δ1 M1 F1 e1 c1 hp r1 h1⟩
theorem qe_lst (h : QA X Z n es rl) (hn : n ≤ 1000 := by decide) : QE X Z (.List es pos) (dFz rl) := qe_fz (ql_lst h hn)

/-! ### truth values -/
def dNot (r : RT) : RT := fun Δ M Φ => r Δ M fun b Δ1 M1 => Φ (!b) Δ1 M1
theorem qt_not (h : QT X Z e rt) : QT X Z (.UnaryOp .Not e pos) (dNot rt) := by
  obtain ⟨t, p, s⟩ := h
  refine ⟨_, pt_not p, fun M σ H Δ F Φ c h Q q => ?_⟩
  exact s M σ H Δ F _ c h _ fun b H1 Δ1 M1 F1 e1 c1 h1 => q (!b) H1 Δ1 M1 F1 e1 c1 h1
def dAnd (r u : RT) : RT := fun Δ M Φ => r Δ M fun b Δ1 M1 => match b with
  | true => u Δ1 M1 Φ
  | false => Φ false Δ1 M1
def dOr (r u : RT) : RT := fun Δ M Φ => r Δ M fun b Δ1 M1 => match b with
  | true => Φ true Δ1 M1
  | false => u Δ1 M1 Φ
theorem simT_and {t u : TT} (h1 : SimT K Z t rt) (h2 : SimT K Z u ru) : SimT K Z (tAnd t u) (dAnd rt ru) := by
  intro M σ H Δ F Φ c h Q q
  refine h1 M σ H Δ F _ c h _ fun b H1 Δ1 M1 F1 e1 c1 k1 => ?_
  cases b with
  | true => exact iteT (h2 M1 σ H1 Δ1 F1 Φ c1 k1 Q fun b H2 Δ2 M2 F2 e2 c2 k2 => q b H2 Δ2 M2 F2 (e1.trans e2) c2 k2)
  | false => exact iteF (q false H1 Δ1 M1 F1 e1 c1 k1)
theorem simT_or {t u : TT} (h1 : SimT K Z t rt) (h2 : SimT K Z u ru) : SimT K Z (tOr t u) (dOr rt ru) := by
  intro M σ H Δ F Φ c h Q q
  refine h1 M σ H Δ F _ c h _ fun b H1 Δ1 M1 F1 e1 c1 k1 => ?_
  cases b with
  | false => exact iteF (h2 M1 σ H1 Δ1 F1 Φ c1 k1 Q fun b H2 Δ2 M2 F2 e2 c2 k2 => q b H2 Δ2 M2 F2 (e1.trans e2) c2 k2)
  | true => exact iteT (q true H1 Δ1 M1 F1 e1 c1 k1)
theorem qw_and1 (h : QT X Z a rt) : QW X Z (.BoolOp .And [a] pos) rt := by
  obtain ⟨t, p, s⟩ := h
  exact ⟨t, pw_and1 p, s⟩
theorem qw_or1 (h : QT X Z a rt) : QW X Z (.BoolOp .Or [a] pos) rt := by
  obtain ⟨t, p, s⟩ := h
  exact ⟨t, pw_or1 p, s⟩
theorem qw_and {rest : List Expr} (h : QT X Z a rt) (h2 : QW X Z (.BoolOp .And (b :: rest) pos) ru) : QW X Z (.BoolOp .And (a :: b :: rest) pos) (dAnd rt ru) := by
  obtain ⟨t, p, s⟩ := h
  obtain ⟨u, p2, s2⟩ := h2
  exact ⟨_, pw_and p p2, simT_and s s2⟩
theorem qw_or {rest : List Expr} (h : QT X Z a rt) (h2 : QW X Z (.BoolOp .Or (b :: rest) pos) ru) : QW X Z (.BoolOp .Or (a :: b :: rest) pos) (dOr rt ru) := by
  obtain ⟨t, p, s⟩ := h
  obtain ⟨u, p2, s2⟩ := h2
  exact ⟨_, pw_or p p2, simT_or s s2⟩
theorem QW.qt (h : QW X Z e rt) : QT X Z e rt := by
  obtain ⟨t, p, s⟩ := h
  exact ⟨t, p.pt, s⟩
/-- as values -/
def dB (r : RT) : RE := fun Δ M Φ => r Δ M fun b Δ1 M1 => Φ (.bl b) Δ1 M1
def dNotV (r : RE) : RE := fun Δ M Φ => r Δ M fun x Δ1 M1 => match x with
  | .bl b => Φ (.bl (!b)) Δ1 M1
  | _ => False
def dAndV (r u : RE) : RE := fun Δ M Φ => r Δ M fun x Δ1 M1 => match x with
  | .bl k => bs k fun k => match k with
    | true => u Δ1 M1 Φ
    | false => Φ (.bl false) Δ1 M1
  | _ => False
def dOrV (r u : RE) : RE := fun Δ M Φ => r Δ M fun x Δ1 M1 => match x with
  | .bl k => bs k fun k => match k with
    | true => Φ (.bl true) Δ1 M1
    | false => u Δ1 M1 Φ
  | _ => False
theorem qe_not (h : QE X Z e r) : QE X Z (.UnaryOp .Not e pos) (dNotV r) := by
  obtain ⟨t, p, s⟩ := h
  refine ⟨_, pe_not p, fun M σ H Δ F Φ c h Q q => ?_⟩
  refine s M σ H Δ F _ c h _ fun v H1 x Δ1 M1 F1 e1 c1 r1 h1 => ?_
  cases x with
  | bl b => exact ⟨b, r1, q _ H1 (.bl (!b)) Δ1 M1 F1 e1 c1 rfl h1⟩
  | _ => exact h1.elim
theorem qe_one {op} (h : QE X Z a r) : QE X Z (.BoolOp op [a] pos) r := by
  obtain ⟨t, p, s⟩ := h
  exact ⟨t, pe_one p, s⟩
theorem qe_and {rest : List Expr} (h : QE X Z a ra) (h2 : QE X Z (.BoolOp .And (b :: rest) pos) rb) : QE X Z (.BoolOp .And (a :: b :: rest) pos) (dAndV ra rb) := by
  obtain ⟨t, p, s⟩ := h
  obtain ⟨u, p2, s2⟩ := h2
  refine ⟨_, pe_and p p2, fun M σ H Δ F Φ c h Q q => ?_⟩
  refine s M σ H Δ F _ c h _ fun v H1 x Δ1 M1 F1 e1 c1 r1 h1 => ?_
  cases x with
  | bl b =>
    refine ⟨b, r1, ?_⟩
    replace h1 := bs_of h1
    cases b with
    | true => exact iteT (s2 M1 σ H1 Δ1 F1 Φ c1 h1 Q fun v H2 d Δ2 M2 F2 e2 c2 r2 k2 => q v H2 d Δ2 M2 F2 (e1.trans e2) c2 r2 k2)
    | false => exact iteF (q _ H1 (.bl false) Δ1 M1 F1 e1 c1 rfl h1)
  | _ => exact h1.elim
theorem qe_or {rest : List Expr} (h : QE X Z a ra) (h2 : QE X Z (.BoolOp .Or (b :: rest) pos) rb) : QE X Z (.BoolOp .Or (a :: b :: rest) pos) (dOrV ra rb) := by
  obtain ⟨t, p, s⟩ := h
  obtain ⟨u, p2, s2⟩ := h2
  refine ⟨_, pe_or p p2, fun M σ H Δ F Φ c h Q q => ?_⟩
  refine s M σ H Δ F _ c h _ fun v H1 x Δ1 M1 F1 e1 c1 r1 h1 => ?_
  cases x with
  | bl b =>
    refine ⟨b, r1, ?_⟩
    replace h1 := bs_of h1
    cases b with
    | true => exact iteT (q _ H1 (.bl true) Δ1 M1 F1 e1 c1 rfl h1)
    | false => exact iteF (s2 M1 σ H1 Δ1 F1 Φ c1 h1 Q fun v H2 d Δ2 M2 F2 e2 c2 r2 k2 => q v H2 d Δ2 M2 F2 (e1.trans e2) c2 r2 k2)
  | _ => exact h1.elim
/-- a if t else b -/
def dIf (t : RT) (ra rb : RE) : RE := fun Δ M Φ => t Δ M fun k Δ1 M1 => match k with
  | true => ra Δ1 M1 Φ
  | false => rb Δ1 M1 Φ
theorem qe_if {t : Expr} (ht : QT X Z t rt) (ha : QE X Z a ra) (hb : QE X Z b rb) : QE X Z (.IfExp t a b pos) (dIf rt ra rb) := by
  obtain ⟨u, p, s⟩ := ht
  obtain ⟨ta, p1, s1⟩ := ha
  obtain ⟨tb, p2, s2⟩ := hb
  refine ⟨_, pe_ifExp p p1 p2, fun M σ H Δ F Φ c h Q q => ?_⟩
  refine s M σ H Δ F _ c h _ fun k H1 Δ1 M1 F1 e1 c1 h1 => ?_
  cases k with
  | true => exact iteT (s1 M1 σ H1 Δ1 F1 Φ c1 h1 Q fun v H2 d Δ2 M2 F2 e2 c2 r2 k2 => q v H2 d Δ2 M2 F2 (e1.trans e2) c2 r2 k2)
  | false => exact iteF (s2 M1 σ H1 Δ1 F1 Φ c1 h1 Q fun v H2 d Δ2 M2 F2 e2 c2 r2 k2 => q v H2 d Δ2 M2 F2 (e1.trans e2) c2 r2 k2)

/-! ### subscripts, len -/
def dIx : D → D → (D → Prop) → Prop := fun x y Φ => match x, y with
  | .lst ds, .int i => ∃ d, atI ds i = some d ∧ Φ d
  | .tup ds, .int i => ∃ d, atI ds i = some d ∧ Φ d
  | .scr ns, .int i => ∃ n, atI ns i = some n ∧ Φ (.int n)
  | .str z, .int i => z.length ≤ sizeLine ∧ ∃ k, atI z.cps.toList i = some k ∧ Φ (.str ⟨#[k]⟩)
  | _, _ => False
theorem atI_rps {F : Hp} {ds : List D} {vs : List V} {i : Int} {d : D} (h : Rps K F ds vs) (ha : atI ds i = some d) : ∃ v, atI vs i = some v ∧ Rp K F d v := by
  unfold atI at ha ⊢
  rw [rps_len h]
  cases hj : ixN ds.length i with
  | none => rw [hj] at ha; cases ha
  | some j =>
    rw [hj] at ha
    exact rps_get h ha
theorem atI_map {α β : Type} (f : α → β) {xs : List α} {i : Int} {x : α} (h : atI xs i = some x) : atI (xs.map f) i = some (f x) := by
  unfold atI at h ⊢
  rw [List.length_map]
  cases hj : ixN xs.length i with
  | none => rw [hj] at h; cases h
  | some j =>
    rw [hj] at h
    have h' : xs[j]? = some x := h
    show (xs.map f)[j]? = some (f x)
    rw [List.getElem?_map, h'] <;> rfl
theorem od_ix : OpD K (rIx K) dIx := by
  intro Z M σ H Δ F x y v w Φ c rx ry k Q q
  unfold dIx at k
  split at k
  · obtain ⟨a, vs, e1, h1, h2⟩ := rx
    obtain ⟨d, k1, k2⟩ := k
    obtain ⟨u, h3, h4⟩ := atI_rps h2 k1
    exact .inl ⟨a, vs, _, u, e1, ry, SqL.of (c.bs.fH _ _ h1), h3, q u H d F (Ex.refl _) c h4 k2⟩
  · obtain ⟨a, vs, e1, h1, h2⟩ := rx
    obtain ⟨d, k1, k2⟩ := k
    obtain ⟨u, h3, h4⟩ := atI_rps h2 k1
    exact .inr (.inl ⟨a, vs, _, u, e1, ry, Evl.ex_t c.bs.fH h1, h3, q u H d F (Ex.refl _) c h4 k2⟩)
  · obtain ⟨a, e1, h1⟩ := rx
    obtain ⟨n, k1, k2⟩ := k
    exact .inl ⟨a, _, _, .int n, e1, ry, Evl.ex_l c.bs.fH h1, atI_map V.int k1, q _ H (.int n) F (Ex.refl _) c rfl k2⟩
  · obtain ⟨k0, n, k1, k2⟩ := k
    exact .inr (.inr ⟨_, _, n, rx, ry, k0, k1, q _ H (.str _) F (Ex.refl _) c rfl k2⟩)
  · exact k.elim
theorem qe_ix (ha : QE X Z a ra) (hb : QE X Z b rb) (hs : PlainIx b := by intro _ _; rfl) : QE X Z (.Subscript a b pos) (dOp dIx ra rb) := by
  obtain ⟨ta, pa, sa⟩ := ha
  obtain ⟨tb, pb, sb⟩ := hb
  exact ⟨_, pe_ix ix_seq pa pb hs, sim_op od_ix sa sb⟩
/-- xs[i], xs an own list's name -/
def dIxV (j : Nat) (rb : RE) : RE := fun Δ M Φ => rb Δ M fun y Δ1 M1 => match Δ1[j]?, y with
  | some (.own ds), .int i => ∃ d, atI ds i = some d ∧ Φ d Δ1 M1
  | _, _ => False
/-- a slot that holds a list of its own -/
def isOwn (Δ : List Sl) (j : Nat) : Prop := ∃ ds, Δ[j]? = some (.own ds)
def dIxO (j : Nat) (rb : RE) : RE := fun Δ M Φ => isOwn Δ j ∧ dIxV j rb Δ M Φ
theorem qe_ixO (j : Nat) {x : Str} {p2 : Pos} (hb : QE X Z b rb) (hN : X.N[j]? = some x := by rfl) (hv : Vis X.env.scope x := by first | exact Or.inl rfl | exact Or.inr (Or.inl rfl) | exact Or.inr (Or.inr rfl)) (hd : (x == ("__debug__" : Str)) = false := by decide)
    (hcd : (x == ("__classdict__" : Str)) = false := by decide) (hs : PlainIx b := by intro _ _; rfl) : QE X Z (.Subscript (.Name x p2) b pos) (dIxO j rb) := by
  obtain ⟨tb, pb, sb⟩ := hb
  refine ⟨_, pe_ix ix_seq (pe_var (i := j) hN hv hd hcd) pb hs, ?_⟩
  rintro M σ H Δ F Φ c ⟨⟨ds0, h0⟩, h⟩ Q q
  obtain ⟨p0, vs0, hv0, _⟩ := c.slot j _ h0
  refine ⟨_, hv0, ?_⟩
  refine sb M σ H Δ F _ c h _ fun w H1 y Δ1 M1 F1 e1 c1 r1 h1 => ?_
  split at h1
  · rename_i ds i hd
    obtain ⟨d, k1, k2⟩ := h1
    obtain ⟨p, vs, e2, g1, g2, g3, g4, g5⟩ := c1.slot j _ hd
    rw [hv0] at e2
    cases e2
    obtain ⟨u, h3, h4⟩ := atI_rps g2 k1
    exact .inl ⟨p0, vs, _, u, rfl, r1, SqL.of g1, h3, q u H1 d Δ1 M1 F1 e1 c1 h4 k2⟩
  · exact h1.elim

/-! ### built-in functions on values -/
/-- a call on data that makes nothing but new frozen objects -/
def CallD (K : PySem.W.Frag) (rv : List V → Hp → VK → Prop) (dr : List D → (D → Prop) → Prop) : Prop := ∀ (Z : Zx) (M : Mem) (σ : L2.St) (H : Hp) (Δ : List Sl) (F : Hp) (xs : List D) (vs : List V) (Φ : D → Prop), Cn K Z M σ H Δ F → Rps K F xs vs → dr xs Φ →
  ∀ Q : VK, (∀ u H' d F', Ex F F' → Cn K Z M σ H' Δ F' → Rp K F' d u → Φ d → Q u H') → rv vs H Q
def dCB (dr : List D → (D → Prop) → Prop) (rl : RA) : RE := fun Δ M Φ => rl Δ M fun ds Δ1 M1 => dr ds fun d => Φ d Δ1 M1
theorem sim_cb {rv : List V → Hp → VK → Prop} {dr : List D → (D → Prop) → Prop} {t : TA} (hc : CallD K rv dr) (h : SimA K Z n t rl) : Sim K Z (tCB rv t) (dCB dr rl) := by
  intro M σ H Δ F Φ c k Q q
  refine h M σ H Δ F _ c k _ fun vs H1 ds Δ1 M1 F1 e1 c1 r1 hl h1 => ?_
  exact hc Z M1 σ H1 Δ1 F1 ds vs _ c1 r1 h1 Q fun u H2 d F2 e2 c2 r2 k2 => q u H2 d Δ1 M1 F2 (e1.trans e2) c2 r2 k2
theorem CallD.or {r1 r2 : List V → Hp → VK → Prop} {d1 d2 dr : List D → (D → Prop) → Prop} (h1 : CallD K r1 d1) (h2 : CallD K r2 d2) (h : ∀ xs Φ, dr xs Φ → d1 xs Φ ∨ d2 xs Φ) : CallD K (fun xs H Q => r1 xs H Q ∨ r2 xs H Q) dr := by
  intro Z M σ H Δ F xs vs Φ c rx k Q q
  rcases h xs Φ k with k | k
  · exact .inl (h1 Z M σ H Δ F xs vs Φ c rx k Q q)
  · exact .inr (h2 Z M σ H Δ F xs vs Φ c rx k Q q)
theorem qe_cb {id : String} {x : Str} {p : Pos} {rv : List V → Hp → VK → Prop} {dr : List D → (D → Prop) → Prop} (hr : CallR X (.builtin id) rv) (hd : CallD X.K rv dr) (hg : Gl X x) (hm : X.mg x = none) (hb : bootBuiltins x = some (.builtin id)) (ha : QA X Z n (e :: es) rl) (hn : x ≠ "__name__" := by decide) (hdb : (x == ("__debug__" : Str)) = false := by decide)
    (he : starEach (e :: es) X.env = (false, eval e X.env) :: starEach es X.env := by rfl) (hpl : (backTo pos (starEach es X.env)).any (·.1) = false := by rfl) : QE X Z (.Call (.Name x p) (e :: es) [] pos) (dCB dr rl) := by
  obtain ⟨t, pa, s⟩ := ha
  exact ⟨_, pe_callB hr hg hm hb pa hn hdb he hpl, sim_cb hd s⟩
theorem qe_cty {T : String} {x : Str} {p : Pos} {rv : List V → Hp → VK → Prop} {dr : List D → (D → Prop) → Prop} (hr : CallR X (.type T) rv) (hd : CallD X.K rv dr) (hg : Gl X x) (hm : X.mg x = none) (hb : bootBuiltins x = some (.type T)) (ha : QA X Z n (e :: es) rl) (hn : x ≠ "__name__" := by decide) (hdb : (x == ("__debug__" : Str)) = false := by decide)
    (he : starEach (e :: es) X.env = (false, eval e X.env) :: starEach es X.env := by rfl) (hpl : (backTo pos (starEach es X.env)).any (·.1) = false := by rfl) : QE X Z (.Call (.Name x p) (e :: es) [] pos) (dCB dr rl) := by
  obtain ⟨t, pa, s⟩ := ha
  exact ⟨_, pe_callTy hr hg hm hb pa hn hdb he hpl, sim_cb hd s⟩
/-- a module's own name for a built-in function -/
theorem qe_cbf {id : String} {x : Str} {p : Pos} {rv : List V → Hp → VK → Prop} {dr : List D → (D → Prop) → Prop} (hr : CallR X (.builtin id) rv) (hd : CallD X.K rv dr) (hg : Gl X x) (hm : X.mg x = some (.builtin id)) (ha : QA X Z n (e :: es) rl) (hdb : (x == ("__debug__" : Str)) = false := by decide)
    (he : starEach (e :: es) X.env = (false, eval e X.env) :: starEach es X.env := by rfl) (hpl : (backTo pos (starEach es X.env)).any (·.1) = false := by rfl) : QE X Z (.Call (.Name x p) (e :: es) [] pos) (dCB dr rl) := by
  obtain ⟨t, pa, s⟩ := ha
  exact ⟨_, pe_callBfun hr hg hm pa hdb he hpl, sim_cb hd s⟩
theorem vals1 {F : Hp} {x : D} {vs : List V} (h : Rps K F [x] vs) : ∃ v, vs = [v] ∧ Rp K F x v := by
  obtain ⟨v, r, e, h1, h2⟩ := h
  rw [show r = [] from h2] at e
  exact ⟨v, e, h1⟩
theorem vals2 {F : Hp} {x y : D} {vs : List V} (h : Rps K F [x, y] vs) : ∃ v w, vs = [v, w] ∧ Rp K F x v ∧ Rp K F y w := by
  obtain ⟨v, r, e, h1, h2⟩ := h
  obtain ⟨w, e2, h3⟩ := vals1 h2
  exact ⟨v, w, by rw [e, e2], h1, h3⟩
/-- len -/
def dLen : List D → (D → Prop) → Prop := fun xs Φ => match xs with
  | [.lst ds] => Φ (.int (ds.length : Nat))
  | [.tup ds] => Φ (.int (ds.length : Nat))
  | [.scr ns] => Φ (.int (ns.length : Nat))
  | [.str z] => z.length ≤ sizeLine ∧ Φ (.int (z.length : Nat))
  | _ => False
def rLenAll (K : PySem.W.Frag) : List V → Hp → VK → Prop := fun xs H Q => (∃ p ys, xs = [.ref p] ∧ (SqL K H p ys ∨ SqT K H p ys) ∧ Q (.int ys.length) H) ∨ (∃ z, xs = [.str z] ∧ z.length ≤ sizeLine ∧ Q (.int z.length) H)
theorem cr_lenAll : CallR X (.builtin "len") (rLenAll X.K) := CallR.or call_len_seq call_len_str
theorem cd_len : CallD K (rLenAll K) dLen := by
  intro Z M σ H Δ F xs vs Φ c rx k Q q
  unfold dLen at k
  split at k
  · obtain ⟨v, rfl, a, ws, e1, h1, h2⟩ := vals1 rx
    refine .inl ⟨a, ws, by rw [e1], .inl (SqL.of (c.bs.fH _ _ h1)), ?_⟩
    rw [rps_len h2]
    exact q _ H (.int _) F (Ex.refl _) c rfl k
  · obtain ⟨v, rfl, a, ws, e1, h1, h2⟩ := vals1 rx
    refine .inl ⟨a, ws, by rw [e1], .inr (Evl.ex_t c.bs.fH h1), ?_⟩
    rw [rps_len h2]
    exact q _ H (.int _) F (Ex.refl _) c rfl k
  · obtain ⟨v, rfl, a, e1, h1⟩ := vals1 rx
    refine .inl ⟨a, _, by rw [e1], .inl (Evl.ex_l c.bs.fH h1), ?_⟩
    rw [List.length_map]
    exact q _ H (.int _) F (Ex.refl _) c rfl k
  · obtain ⟨v, rfl, e1⟩ := vals1 rx
    exact .inr ⟨_, by rw [show v = _ from e1], k.1, q _ H (.int _) F (Ex.refl _) c rfl k.2⟩
  · exact k.elim
theorem qe_len {p : Pos} (hg : Gl X "len") (hm : X.mg "len" = none) (ha : QA X Z n (e :: es) rl) (he : starEach (e :: es) X.env = (false, eval e X.env) :: starEach es X.env := by rfl) (hpl : (backTo pos (starEach es X.env)).any (·.1) = false := by rfl) :
    QE X Z (.Call (.Name "len" p) (e :: es) [] pos) (dCB dLen rl) := qe_cb cr_lenAll cd_len hg hm boot_len ha (by decide) (by decide) he hpl
/-- len of an own list -/
def dLenO (j : Nat) : RE := fun Δ M Φ => match Δ[j]? with
  | some (.own ds) => Φ (.int (ds.length : Nat)) Δ M
  | _ => False
theorem qe_lenO (j : Nat) {x : Str} {p p2 : Pos} (hg : Gl X "len") (hm : X.mg "len" = none) (hN : X.N[j]? = some x := by rfl) (hv : Vis X.env.scope x := by first | exact Or.inl rfl | exact Or.inr (Or.inl rfl) | exact Or.inr (Or.inr rfl)) (hd : (x == ("__debug__" : Str)) = false := by decide)
    (hcd : (x == ("__classdict__" : Str)) = false := by decide) (he : starEach [.Name x p2] X.env = (false, eval (.Name x p2) X.env) :: starEach [] X.env := by rfl) (hpl : (backTo pos (starEach [] X.env)).any (·.1) = false := by rfl) :
    QE X Z (.Call (.Name "len" p) [.Name x p2] [] pos) (dLenO j) := by
  refine ⟨_, pe_callB cr_lenAll hg hm boot_len (pa_cons (pe_var (i := j) hN hv hd hcd) pa_nil he) (by decide) (by decide) he hpl, ?_⟩
  intro M σ H Δ F Φ c h Q q
  unfold dLenO at h
  split at h
  · rename_i ds hj
    obtain ⟨a, vs, hv0, g1, g2, _⟩ := c.slot j _ hj
    refine ⟨_, hv0, .inl ⟨a, vs, rfl, .inl (SqL.of g1), ?_⟩⟩
    rw [rps_len g2]
    exact q _ H (.int _) Δ M F (Ex.refl _) c rfl h
  · exact h.elim
/-- abs, int, gcd, max, min of ints -/
def dAbs : List D → (D → Prop) → Prop := fun xs Φ => match xs with
  | [.int i] => Φ (.int (if i < 0 then -i else i))
  | _ => False
def rAbs : List V → Hp → VK → Prop := fun xs H Q => ∃ i, xs = [.int i] ∧ Q (.int (if i < 0 then -i else i)) H
theorem cr_abs : CallR X (.builtin "abs") rAbs := call_abs
theorem cd_abs : CallD K rAbs dAbs := by
  intro Z M σ H Δ F xs vs Φ c rx k Q q
  unfold dAbs at k
  split at k
  · obtain ⟨v, rfl, e1⟩ := vals1 rx
    exact ⟨_, by rw [show v = _ from e1], q _ H (.int _) F (Ex.refl _) c rfl k⟩
  · exact k.elim
theorem qe_abs {p : Pos} (hg : Gl X "abs") (hm : X.mg "abs" = none) (ha : QA X Z n (e :: es) rl) (he : starEach (e :: es) X.env = (false, eval e X.env) :: starEach es X.env := by rfl) (hpl : (backTo pos (starEach es X.env)).any (·.1) = false := by rfl) :
    QE X Z (.Call (.Name "abs" p) (e :: es) [] pos) (dCB dAbs rl) := qe_cb cr_abs cd_abs hg hm (by decide +kernel) ha (by decide) (by decide) he hpl
def dInt : List D → (D → Prop) → Prop := fun xs Φ => match xs with
  | [.int i] => Φ (.int i)
  | [.bl k] => Φ (.int (if k then 1 else 0))
  | _ => False
def rInt : List V → Hp → VK → Prop := fun xs H Q => (∃ i, xs = [.int i] ∧ Q (.int i) H) ∨ ∃ k, xs = [.bl k] ∧ Q (.int (if k then 1 else 0)) H
theorem cr_int : CallR X (.type "int") rInt := call_int1
theorem cd_int : CallD K rInt dInt := by
  intro Z M σ H Δ F xs vs Φ c rx k Q q
  unfold dInt at k
  split at k
  · obtain ⟨v, rfl, e1⟩ := vals1 rx
    exact .inl ⟨_, by rw [show v = _ from e1], q _ H (.int _) F (Ex.refl _) c rfl k⟩
  · obtain ⟨v, rfl, e1⟩ := vals1 rx
    exact .inr ⟨_, by rw [show v = _ from e1], q _ H (.int _) F (Ex.refl _) c rfl k⟩
  · exact k.elim
theorem qe_int1 {p : Pos} (hg : Gl X "int") (hm : X.mg "int" = none) (ha : QA X Z n (e :: es) rl) (he : starEach (e :: es) X.env = (false, eval e X.env) :: starEach es X.env := by rfl) (hpl : (backTo pos (starEach es X.env)).any (·.1) = false := by rfl) :
    QE X Z (.Call (.Name "int" p) (e :: es) [] pos) (dCB dInt rl) := qe_cty cr_int cd_int hg hm (by decide +kernel) ha (by decide) (by decide) he hpl
def dI2 (g : Int → Int → D) : List D → (D → Prop) → Prop := fun xs Φ => match xs with
  | [.int i, .int j] => Φ (g i j)
  | _ => False
theorem cd_I2 {g : Int → Int → V} {g' : Int → Int → D} (hg : ∀ F i j, Rp K F (g' i j) (g i j)) : CallD K (fun xs H Q => ∃ i j, xs = [.int i, .int j] ∧ Q (g i j) H) (dI2 g') := by
  intro Z M σ H Δ F xs vs Φ c rx k Q q
  unfold dI2 at k
  split at k
  · obtain ⟨v, w, rfl, e1, e2⟩ := vals2 rx
    exact ⟨_, _, by rw [show v = _ from e1, show w = _ from e2], q _ H _ F (Ex.refl _) c (hg F _ _) k⟩
  · exact k.elim
theorem qe_gcd {p : Pos} {x : Str} (hg : Gl X x) (hm : X.mg x = some (.builtin "math.gcd")) (ha : QA X Z n (e :: es) rl) (hdb : (x == ("__debug__" : Str)) = false := by decide) (he : starEach (e :: es) X.env = (false, eval e X.env) :: starEach es X.env := by rfl) (hpl : (backTo pos (starEach es X.env)).any (·.1) = false := by rfl) :
    QE X Z (.Call (.Name x p) (e :: es) [] pos) (dCB (dI2 fun i j => .int ((Nat.gcd i.natAbs j.natAbs : Nat) : Int)) rl) := qe_cbf cr_gcd (cd_I2 fun _ _ _ => rfl) hg hm ha hdb he hpl
theorem qe_max2 {p : Pos} (hc : X.calm = true) (hg : Gl X "max") (hm : X.mg "max" = none) (ha : QA X Z n (e :: es) rl) (he : starEach (e :: es) X.env = (false, eval e X.env) :: starEach es X.env := by rfl) (hpl : (backTo pos (starEach es X.env)).any (·.1) = false := by rfl) :
    QE X Z (.Call (.Name "max" p) (e :: es) [] pos) (dCB (dI2 fun i j => .int (if j > i then j else i)) rl) := qe_cb (call_max2 hc) (cd_I2 fun _ _ _ => rfl) hg hm (by decide +kernel) ha (by decide) (by decide) he hpl
theorem qe_min2 {p : Pos} (hc : X.calm = true) (hg : Gl X "min") (hm : X.mg "min" = none) (ha : QA X Z n (e :: es) rl) (he : starEach (e :: es) X.env = (false, eval e X.env) :: starEach es X.env := by rfl) (hpl : (backTo pos (starEach es X.env)).any (·.1) = false := by rfl) :
    QE X Z (.Call (.Name "min" p) (e :: es) [] pos) (dCB (dI2 fun i j => .int (if j < i then j else i)) rl) := qe_cb (call_min2 hc) (cd_I2 fun _ _ _ => rfl) hg hm (by decide +kernel) ha (by decide) (by decide) he hpl
/-- -x -/
def dNeg (r : RE) : RE := fun Δ M Φ => r Δ M fun x Δ1 M1 => match x with
  | .int i => Φ (.int (-i)) Δ1 M1
  | _ => False
theorem qe_neg (h : QE X Z e r) : QE X Z (.UnaryOp .USub e pos) (dNeg r) := by
  obtain ⟨t, p, s⟩ := h
  refine ⟨_, pe_un un_neg p, fun M σ H Δ F Φ c h Q q => ?_⟩
  refine s M σ H Δ F _ c h _ fun v H1 x Δ1 M1 F1 e1 c1 r1 h1 => ?_
  cases x with
  | int i => exact ⟨i, r1, q _ H1 (.int (-i)) Δ1 M1 F1 e1 c1 rfl h1⟩
  | _ => exact h1.elim
/-- isinstance(x, T), T a built-in type -/
def D.ty : D → String
  | .non => "NoneType" | .bl _ => "bool" | .int _ => "int" | .str _ => "str" | .tup _ => "tuple" | .lst _ => "list" | .scr _ => "list" | .ref _ => "?"
def D.isDat : D → Prop
  | .ref _ => False
  | _ => True
def dIsi (T : String) (r : RE) : RE := fun Δ M Φ => r Δ M fun x Δ1 M1 => match x with
  | .ref _ => False
  | x => ∃ b, kitB x.ty T = some b ∧ Φ (.bl b) Δ1 M1
theorem rp_tyx {F H : Hp} (e : Ex F H) {d : D} {v : V} (h : Rp K F d v) : d.isDat → TyX K H v (.type d.ty) := by
  intro hd
  cases d with
  | non => rw [show v = .non from h]; exact .base .non
  | bl b => rw [show v = .bl b from h]; exact .base (.bl b)
  | int b => rw [show v = .int b from h]; exact .base (.int b)
  | str b => rw [show v = .str b from h]; exact .base (.str b)
  | tup ds =>
    obtain ⟨a, vs, e1, h1, h2⟩ := h
    rw [e1]
    rcases Evl.ex_t e h1 with (h1 | ⟨o, h1⟩) | ⟨o, its, n, hk, hc, _⟩
    · exact .base (.tup h1)
    · exact .fTuple h1
    · exact .kTuple hk hc
  | lst ds =>
    obtain ⟨a, vs, e1, h1, h2⟩ := h
    rw [e1]
    exact .base (.lst (e _ _ h1))
  | scr ns =>
    obtain ⟨a, e1, h1⟩ := h
    rw [e1]
    rcases Evl.ex_l e h1 with (h1 | ⟨o, h1⟩) | ⟨o, its, n, hk, hc, _⟩
    · exact .base (.lst h1)
    · exact .base (.frz h1)
    · exact .kList hk hc
  | ref a => exact hd.elim
theorem qe_isi {T : String} {x : Str} {p p2 : Pos} (h : QE X Z e r) (hg : Gl X "isinstance") (hm : X.mg "isinstance" = none) (hg2 : Gl X x) (hm2 : X.mg x = none) (hb : bootBuiltins x = some (.type T)) (hn : x ≠ "__name__" := by decide) (hdb : (x == ("__debug__" : Str)) = false := by decide)
    (he : starEach [e, .Name x p2] X.env = (false, eval e X.env) :: starEach [.Name x p2] X.env := by rfl) (he2 : starEach [.Name x p2] X.env = (false, eval (.Name x p2) X.env) :: starEach [] X.env := by rfl) (hpl : (backTo pos (starEach [.Name x p2] X.env)).any (·.1) = false := by rfl) :
    QE X Z (.Call (.Name "isinstance" p) [e, .Name x p2] [] pos) (dIsi T r) := by
  obtain ⟨t, pe, s⟩ := h
  refine ⟨_, pe_callB call_isi hg hm (by decide +kernel) (pa_cons pe (pa_cons (pe_bltn hg2 hm2 hb (v := .ty T) rfl hn hdb) pa_nil he2) he) (by decide) (by decide) he hpl, fun M σ H Δ F Φ c h Q q => ?_⟩
  refine s M σ H Δ F _ c h _ fun v H1 y Δ1 M1 F1 e1 c1 r1 h1 => ?_
  have hd : y.isDat ∧ ∃ b, kitB y.ty T = some b ∧ Φ (.bl b) Δ1 M1 := by
    cases y <;> first
      | exact h1.elim
      | exact ⟨True.intro, h1⟩
  obtain ⟨hd, b, k1, k2⟩ := hd
  exact ⟨v, .ty T, _, _, b, rfl, .ty T, rp_tyx c1.bs.fH r1 hd, kit_ty k1, q _ H1 (.bl b) Δ1 M1 F1 e1 c1 rfl k2⟩
end
end DL

set_option Elab.async false
set_option linter.all false
set_option maxRecDepth 100000
set_option maxHeartbeats 4000000
namespace DL
open PySem L2
open Evl (Ex)
section
variable {X : Cx} {Z : Zx} {e a b c : Expr} {ra rb rc r : RE} {rt ru : RT} {pos : Pos} {es : List Expr} {rl : RA} {n : Nat} {K : PySem.W.Frag} {st : Stmt} {sts : List Stmt} {s1 s2 s3 : RS}

/-! ### statements -/
def dNext : RS := fun D Δ M => D.nx Δ M
def dSeq (r u : RS) : RS := fun D Δ M => r { D with nx := fun Δ1 M1 => u D Δ1 M1 } Δ M
def dBrk : RS := fun D Δ M => D.bk Δ M
def dCt : RS := fun D Δ M => D.ct Δ M
theorem qss_nil : QSs X Z [] dNext := ⟨_, pss_nil, fun M σ H Δ F De c h Dv ok => ok.nx _ _ _ _ _ (Ex.refl _) c h⟩
theorem qss_one (h : QS X Z st s1) : QSs X Z [st] s1 := by
  obtain ⟨t, p, s⟩ := h
  exact ⟨t, pss_one p, s⟩
theorem simS_seq {t u : TS} (h1 : SimS K Z t s1) (h2 : SimS K Z u s2) : SimS K Z (tSeq t u) (dSeq s1 s2) := by
  intro M σ H Δ F De c h Dv ok
  exact h1 M σ H Δ F _ c h _ ⟨fun σ' H' Δ' M' F' e c' k => h2 M' σ' H' Δ' F' De c' k Dv (ok.mono e), ok.rt, ok.bk, ok.ct⟩
theorem qss_cons (h : QS X Z st s1) (h2 : QSs X Z sts s2) : QSs X Z (st :: sts) (dSeq s1 s2) := by
  obtain ⟨t, p, s⟩ := h
  obtain ⟨u, p2, s2⟩ := h2
  exact ⟨_, pss_cons p p2, simS_seq s s2⟩
theorem qs_pass : QS X Z (.Pass pos) dNext := ⟨_, ps_pass, fun M σ H Δ F De c h Dv ok => ok.nx _ _ _ _ _ (Ex.refl _) c h⟩
theorem qs_brk : QS X Z (.Break pos) dBrk := ⟨_, ps_break, fun M σ H Δ F De c h Dv ok => ok.bk _ _ _ _ _ (Ex.refl _) c h⟩
theorem qs_ct : QS X Z (.Continue pos) dCt := ⟨_, ps_continue, fun M σ H Δ F De c h Dv ok => ok.ct _ _ _ _ _ (Ex.refl _) c h⟩
theorem qs_doc {x j pos'} : QS X Z (.Expr (.Constant (.str x) j pos) pos') dNext := ⟨_, ps_doc, fun M σ H Δ F De c h Dv ok => ok.nx _ _ _ _ _ (Ex.refl _) c h⟩
def dRet (r : RE) : RS := fun D Δ M => r Δ M fun d _ M1 => D.rt d M1
theorem qs_ret (h : QE X Z e r) : QS X Z (.Return (some e) pos) (dRet r) := by
  obtain ⟨t, p, s⟩ := h
  refine ⟨_, ps_ret p, fun M σ H Δ F De c h Dv ok => ?_⟩
  exact s M σ H Δ F _ c h _ fun v H1 d Δ1 M1 F1 e1 c1 r1 h1 => ok.rt v H1 d M1 F1 e1 c1.bs r1 h1
def dRetN : RS := fun D _ M => D.rt .non M
theorem qs_retN : QS X Z (.Return none pos) dRetN := ⟨_, ps_retN, fun M σ H Δ F De c h Dv ok => ok.rt .non H .non M F (Ex.refl _) c.bs rfl h⟩
def dDrop (r : RE) : RS := fun D Δ M => r Δ M fun _ Δ1 M1 => D.nx Δ1 M1
theorem qs_expr (h : QE X Z e r) (hs : swapsWith e none pos.line X.env = pure false := by rfl) : QS X Z (.Expr e pos) (dDrop r) := by
  obtain ⟨t, p, s⟩ := h
  refine ⟨_, ps_expr p hs, fun M σ H Δ F De c h Dv ok => ?_⟩
  exact s M σ H Δ F _ c h _ fun v H1 d Δ1 M1 F1 e1 c1 r1 h1 => ok.nx σ H1 Δ1 M1 F1 e1 c1 h1
def dIfS (t : RT) (u v : RS) : RS := fun D Δ M => t Δ M fun k Δ1 M1 => match k with
  | true => u D Δ1 M1
  | false => v D Δ1 M1
theorem qs_if {u v : List Stmt} (ht : QT X Z e rt) (h1 : QSs X Z u s1) (h2 : QSs X Z v s2) : QS X Z (.If e u v pos) (dIfS rt s1 s2) := by
  obtain ⟨t, p, s⟩ := ht
  obtain ⟨t1, p1, q1⟩ := h1
  obtain ⟨t2, p2, q2⟩ := h2
  refine ⟨_, ps_if p p1 p2, fun M σ H Δ F De c h Dv ok => ?_⟩
  refine s M σ H Δ F _ c h _ fun k H1 Δ1 M1 F1 e1 c1 h1 => ?_
  cases k with
  | true => exact iteT (q1 M1 σ H1 Δ1 F1 De c1 h1 Dv (ok.mono e1))
  | false => exact iteF (q2 M1 σ H1 Δ1 F1 De c1 h1 Dv (ok.mono e1))
/-- x = e -/
def dSet (i : Nat) (r : RE) : RS := fun D Δ M => r Δ M fun d Δ1 M1 => D.nx (Δ1.set i (.d d)) M1
theorem qs_set {i : Nat} {x : Str} {pos' : Pos} (hN : X.N.Nodup) (h : QE X Z e r) (hi : X.N[i]? = some x := by rfl) (hx : Loc X.env.scope x := by first | exact Or.inl rfl | exact Or.inr rfl) (hs : swapsWith e (some (.Name x pos')) pos.line X.env = pure false := by rfl)
    (hf : X.fn x = true ∨ X.env.scope.names.lookup x = some .local := by first | exact .inl rfl | exact .inr rfl) : QS X Z (.Assign [.Name x pos'] e pos) (dSet i r) := by
  obtain ⟨t, p, s⟩ := h
  refine ⟨_, ps_set (i := i) hN hi hx p hs hf, fun M σ H Δ F De c h Dv ok => ?_⟩
  exact s M σ H Δ F _ c h _ fun v H1 d Δ1 M1 F1 e1 c1 r1 h1 => ok.nx _ H1 _ M1 F1 e1 (c1.set r1 i) h1
/-- x = a new list, which x owns -/
def dSetO (i : Nat) (rl : RA) : RS := fun D Δ M => rl Δ M fun ds Δ1 M1 => D.nx (Δ1.set i (.own ds)) M1
theorem qs_setO {i : Nat} {x : Str} {pos' : Pos} (hN : X.N.Nodup) (h : QL X Z e rl) (hi : X.N[i]? = some x := by rfl) (hx : Loc X.env.scope x := by first | exact Or.inl rfl | exact Or.inr rfl) (hs : swapsWith e (some (.Name x pos')) pos.line X.env = pure false := by rfl)
    (hf : X.fn x = true ∨ X.env.scope.names.lookup x = some .local := by first | exact .inl rfl | exact .inr rfl) : QS X Z (.Assign [.Name x pos'] e pos) (dSetO i rl) := by
  obtain ⟨t, p, s⟩ := h
  refine ⟨_, ps_set (i := i) hN hi hx p hs hf, fun M σ H Δ F De c h Dv ok => ?_⟩
  exact s M σ H Δ F _ c h _ fun p H1 vs ds Δ1 M1 F1 e1 c1 hp r1 h1 => ok.nx _ _ _ M1 F1 e1 (c1.setOwn hp r1 i) h1
/-- x, y = e -/
def dUnp : List Nat → RE → RS := fun is r D Δ M => r Δ M fun x Δ1 M1 => match x with
  | .tup ds => ds.length = is.length ∧ D.nx ((is.zip ds).foldl (fun Δ p => Δ.set p.1 (.d p.2)) Δ1) M1
  | _ => False
/-- targets that are names -/
def gNames : List Nat → TGs
  | [] => gNil
  | i :: is => gCons (gName i) (gNames is)
theorem simG_names {M : Mem} {H F : Hp} {Q : L2.St → Hp → Prop} : ∀ (is : List Nat) (ds : List D) (vs : List V) (σ : L2.St) (Δ : List Sl), Cn K Z M σ H Δ F → Rps K F ds vs → ds.length = is.length →
    (∀ σ', Cn K Z M σ' H ((is.zip ds).foldl (fun Δ p => Δ.set p.1 (.d p.2)) Δ) F → Q σ' H) → gNames is vs σ H Q
  | [], ds, vs, σ, Δ, c, r, hl, q => by
    have e : ds = [] := List.length_eq_zero_iff.mp hl
    subst e
    exact ⟨r, q σ c⟩
  | i :: is, [], vs, σ, Δ, c, r, hl, q => by cases hl
  | i :: is, d :: ds, vs, σ, Δ, c, r, hl, q => by
    obtain ⟨v, ws, e, h1, h2⟩ := r
    exact ⟨v, ws, e, simG_names is ds ws _ _ (c.set h1 i) h2 (by simpa using hl) q⟩
theorem qs_unp {is : List Nat} {tgs : List Expr} {k : Nat} {tp : Pos} (hc : X.calm = true) (h : QE X Z e r) (hg : PGs X tgs (gNames is)) (hn : tgs.length = is.length := by rfl) (hs : swapsWithSole [.Tuple tgs k tp] e pos.line X.env = pure false := by rfl) (hw : swappedStores [.Tuple tgs k tp] e X.env = pure none := by rfl)
    (hp : tgs.length = is.length := by rfl)
    (hpg : PGs X tgs (gNames is) → PG X (.Tuple tgs k tp) (gTup X.K is.length (gNames is)) := by intro hg; exact pg_tup rfl hg) : QS X Z (.Assign [.Tuple tgs k tp] e pos) (dUnp is r) := by
  obtain ⟨t, p, s⟩ := h
  refine ⟨_, ps_asg p (hpg hg) hs hw, fun M σ H Δ F De c h Dv ok => ?_⟩
  refine s M σ H Δ F _ c h _ fun v H1 x Δ1 M1 F1 e1 c1 r1 h1 => ?_
  cases x with
  | tup ds =>
    obtain ⟨a, vs, e2, h2, h3⟩ := r1
    refine ⟨a, vs, e2, Evl.ex_t c1.bs.fH h2, by rw [rps_len h3]; exact h1.1, ?_⟩
    exact simG_names is ds vs σ Δ1 c1 h3 h1.1 fun σ' c' => ok.nx σ' H1 _ M1 F1 e1 c' h1.2
  | _ => exact h1.elim
/-- x, y = a, b -/
def dPar (i j : Nat) (rl : RA) : RS := fun D Δ M => rl Δ M fun ds Δ1 M1 => match ds with
  | [x, y] => D.nx ((Δ1.set i (.d x)).set j (.d y)) M1
  | _ => False
theorem qs_par {i j : Nat} {x y : Str} {px py pt : Pos} {kt k2 pt2} (hN : X.N.Nodup) (h : QA X Z 2 [a, b] rl) (hc : X.calm = true := by rfl) (hi : X.N[i]? = some x := by rfl) (hj : X.N[j]? = some y := by rfl) (hij : i ≠ j := by decide) (hx : X.env.scope.names.lookup x = some .local := by rfl) (hy : X.env.scope.names.lookup y = some .local := by rfl)
    (hw : swappedStores [.Tuple [.Name x px, .Name y py] kt pt] (.Tuple [a, b] k2 pt2) X.env = pure (some [x, y]) := by rfl)
    (hs : swapsWithSole [.Tuple [.Name x px, .Name y py] kt pt] (.Tuple [a, b] k2 pt2) pos.line X.env = pure false := by rfl) : QS X Z (.Assign [.Tuple [.Name x px, .Name y py] kt pt] (.Tuple [a, b] k2 pt2) pos) (dPar i j rl) := by
  obtain ⟨t, p, s⟩ := h
  refine ⟨_, ps_par hc hN hi hj hij hx hy p hw hs, fun M σ H Δ F De c h Dv ok => ?_⟩
  refine s M σ H Δ F _ c h _ fun vs H1 ds Δ1 M1 F1 e1 c1 r1 hl h1 => ?_
  match ds, r1, h1 with
  | [d1, d2], r1, h1 =>
    obtain ⟨v, w, e2, q1, q2⟩ := vals2 r1
    exact ⟨v, w, e2, ok.nx _ H1 _ M1 F1 e1 ((c1.set q1 i).set q2 j) h1⟩
/-- x += e -/
def dAug (i : Nat) (dr : D → D → (D → Prop) → Prop) (r : RE) : RS := fun D Δ M => match Δ[i]? with
  | some (.d x) => r Δ M fun y Δ1 M1 => dr x y fun z => D.nx (Δ1.set i (.d z)) M1
  | _ => False
theorem qs_aug {i : Nat} {x : Str} {pos' : Pos} {op : Operator} {ti : TIp} {dr : D → D → (D → Prop) → Prop} (ho : PIp X op ti) (hd : OpD X.K ti dr) (hN : X.N.Nodup) (h : QE X Z e r) (hi : X.N[i]? = some x := by rfl) (hx : Loc X.env.scope x := by first | exact Or.inl rfl | exact Or.inr rfl)
    (hf : X.fn x = true ∨ X.env.scope.names.lookup x = some .local := by first | exact .inl rfl | exact .inr rfl) : QS X Z (.AugAssign (.Name x pos') op e pos) (dAug i dr r) := by
  obtain ⟨t, p, s⟩ := h
  refine ⟨_, ps_aug (i := i) hN hi hx p ho hf, fun M σ H Δ F De c h Dv ok => ?_⟩
  unfold dAug at h
  split at h
  · rename_i x0 hj
    obtain ⟨v, hv, rv⟩ := c.slot i _ hj
    refine ⟨v, hv, ?_⟩
    refine s M σ H Δ F _ c h _ fun w H1 y Δ1 M1 F1 e1 c1 r1 h1 => ?_
    exact hd Z M1 σ H1 Δ1 F1 x0 y v w _ c1 (rp_mono e1 _ _ rv) r1 h1 _ fun u H2 d F2 e2 c2 r2 k2 => ok.nx _ H2 _ M1 F2 (e1.trans e2) (c2.set r2 i) k2
  · exact h.elim
def dPlus : D → D → (D → Prop) → Prop := dI fun i j => .int (i + j)
def dMinus : D → D → (D → Prop) → Prop := dI fun i j => .int (i - j)
theorem od_ip {g : Int → Int → Int} : OpD K (ipI g) (dI fun i j => .int (g i j)) := by
  intro Z M σ H Δ F x y v w Φ c rx ry k Q q
  unfold dI at k
  split at k
  · exact ⟨_, _, rx, ry, q _ H (.int _) F (Ex.refl _) c rfl k⟩
  · exact k.elim
theorem qs_inc {i : Nat} {x : Str} {pos' : Pos} (hN : X.N.Nodup) (h : QE X Z e r) (hi : X.N[i]? = some x := by rfl) (hx : Loc X.env.scope x := by first | exact Or.inl rfl | exact Or.inr rfl)
    (hf : X.fn x = true ∨ X.env.scope.names.lookup x = some .local := by first | exact .inl rfl | exact .inr rfl) : QS X Z (.AugAssign (.Name x pos') .Add e pos) (dAug i dPlus r) := qs_aug ip_add od_ip hN h hi hx hf
/-- x.append(e), x an own list -/
def dApp (j : Nat) (r : RE) : RS := fun D Δ M => isOwn Δ j ∧ r Δ M fun d Δ1 M1 => match Δ1[j]? with
  | some (.own ds) => ds.length < sizeLine ∧ D.nx (Δ1.set j (.own (ds ++ [d]))) M1
  | _ => False
theorem qs_app {j : Nat} {x : Str} {p1 p2 pos' : Pos} (h : QE X Z e r) (hN : X.N[j]? = some x := by rfl) (hv : Vis X.env.scope x := by first | exact Or.inl rfl | exact Or.inr (Or.inl rfl) | exact Or.inr (Or.inr rfl)) (hd : (x == ("__debug__" : Str)) = false := by decide) (hcd : (x == ("__classdict__" : Str)) = false := by decide)
    (hpe : ∀ t, PE X e t → PE X (.Call (.Attribute (.Name x p1) "append" p2) [e] [] pos) (tBM X.K "list" rAppend (tVar j) (tCons t tNil)) := by intro t ht; exact pe_bm PySem.F.plainAttrs_list PySem.F.slot_list_append PySem.F.type_list_append mt_append (pv _) (pa_cons ht pa_nil))
    (hs : swapsWith (.Call (.Attribute (.Name x p1) "append" p2) [e] [] pos) none pos'.line X.env = pure false := by rfl) : QS X Z (.Expr (.Call (.Attribute (.Name x p1) "append" p2) [e] [] pos) pos') (dApp j r) := by
  obtain ⟨t, p, s⟩ := h
  refine ⟨_, ps_expr (hpe t p) hs, ?_⟩
  rintro M σ H Δ F De c ⟨⟨ds0, h0⟩, h⟩ Dv ok
  obtain ⟨a, vs0, hv0, g0, _⟩ := c.slot j _ h0
  refine ⟨_, hv0, .inl ⟨rfl, _, SqL.of g0⟩, ?_⟩
  refine s M σ H Δ F _ c h _ fun w H1 y Δ1 M1 F1 e1 c1 r1 h1 => ?_
  split at h1
  · rename_i ds hj
    obtain ⟨a', vs, hv1, g1, g2, g3, g4, g5⟩ := c1.slot j _ hj
    rw [hv0] at hv1
    cases hv1
    refine ⟨a, vs, w, rfl, rfl, g1, by rw [rps_len g2]; exact h1.1, ?_⟩
    exact ok.nx σ _ _ M1 F1 e1 (c1.change hj hv0 g3 g4 g5 (rps_app g2 (rps_one r1))) h1.2
  · exact h1.elim

/-! ### loops -/
def fgt : List Nat → List Sl → List Sl
  | [], Δ => Δ
  | j :: js, Δ => fgt js (Δ.set j .un)
theorem cn_fgt {M : Mem} {σ : L2.St} {H F : Hp} : ∀ (js : List Nat) (Δ : List Sl), Cn K Z M σ H Δ F → Cn K Z M σ H (fgt js Δ) F
  | [], _, c => c
  | j :: js, Δ, c => cn_fgt js _ (c.drop j)
/-- a loop's target: a name; names of a tuple's parts -/
abbrev RG := D → List Sl → (List Sl → Prop) → Prop
def tgN (j : Nat) : RG := fun d Δ Φ => Φ (Δ.set j (.d d))
def tgU (is : List Nat) : RG := fun d Δ Φ => match d with
  | .tup ds => ds.length = is.length ∧ Φ ((is.zip ds).foldl (fun Δ p => Δ.set p.1 (.d p.2)) Δ)
  | _ => False
def SimG (K : PySem.W.Frag) (Z : Zx) (g : TG) (r : RG) : Prop := ∀ (M : Mem) (σ : L2.St) (H : Hp) (Δ : List Sl) (F : Hp) (d : D) (v : V) (Φ : List Sl → Prop), Cn K Z M σ H Δ F → Rp K F d v → r d Δ Φ →
  ∀ Q : L2.St → Hp → Prop, (∀ σ' Δ', Cn K Z M σ' H Δ' F → Φ Δ' → Q σ' H) → g v σ H Q
theorem simG_name {j : Nat} : SimG K Z (gName j) (tgN j) := fun M σ H Δ F d v Φ c r h Q q => q _ _ (c.set r j) h
theorem simG_tup {is : List Nat} : SimG K Z (gTup K is.length (gNames is)) (tgU is) := by
  intro M σ H Δ F d v Φ c r h Q q
  unfold tgU at h
  split at h
  · obtain ⟨a, vs, e, h1, h2⟩ := r
    exact ⟨a, vs, e, Evl.ex_t c.bs.fH h1, by rw [rps_len h2]; exact h.1, simG_names is _ vs σ Δ c h2 h.1 fun σ' c' => q σ' _ c' h.2⟩
  · exact h.elim
/-- a loop over the items xs; js: slots that are forgotten at each turn's end; Pv: what holds between the turns -/
def dLoopG (tg : RG) (js : List Nat) (xs : List D) (u : RS) : RS := fun D Δ M => ∃ Pv : Nat → List Sl → Mem → Prop, Pv 0 (fgt js Δ) M ∧
  (∀ i d Δ1 M1, xs[i]? = some d → Pv i Δ1 M1 → tg d Δ1 fun Δ2 => u { D with nx := fun Δ2 M2 => Pv (i + 1) (fgt js Δ2) M2, ct := fun Δ2 M2 => Pv (i + 1) (fgt js Δ2) M2, bk := D.nx } Δ2 M1) ∧ ∀ Δ1 M1, Pv xs.length Δ1 M1 → D.nx Δ1 M1
abbrev dLoop (j : Nat) (js : List Nat) (xs : List D) (u : RS) : RS := dLoopG (tgN j) js xs u
theorem endsLoop {F F1 : Hp} {De : DE} {Dv : Ends} {js : List Nat} {i : Nat} {Pv : Nat → List Sl → Mem → Prop} (ok : EndsOk K Z F De Dv) (e : Ex F F1) {N : L2.St → Hp → Prop} (hN : ∀ σ H Δ M F', Ex F1 F' → Cn K Z M σ H Δ F' → Pv (i + 1) Δ M → N σ H) :
    EndsOk K Z F1 { De with nx := fun Δ2 M2 => Pv (i + 1) (fgt js Δ2) M2, ct := fun Δ2 M2 => Pv (i + 1) (fgt js Δ2) M2, bk := De.nx } { Dv with nx := N, ct := N, bk := Dv.nx } :=
  ⟨fun σ' H' Δ' M' F' e1 c' k => hN _ _ _ _ _ e1 (cn_fgt js _ c') k, (ok.mono e).rt, (ok.mono e).nx, fun σ' H' Δ' M' F' e1 c' k => hN _ _ _ _ _ e1 (cn_fgt js _ c') k⟩
theorem loop_list {a : Addr} {xs : List V} {ds : List D} {g : TG} {tg : RG} (hg : SimG K Z g tg) {js : List Nat} {t : TS} {u : RS} (hu : SimS K Z t u) {M : Mem} {σ : L2.St} {H F : Hp} {Δ : List Sl} {De : DE} {Dv : Ends} (c : Cn K Z M σ H Δ F)
    (hx : SqL K F a xs) (hr : Rps K F ds xs) (h : dLoopG tg js ds u De Δ M) (ok : EndsOk K Z F De Dv) :
    ∃ W : Nat → Nat → L2.St → Hp → Prop, (∃ m, W 0 m σ H) ∧ ∀ i m σ H, W i m σ H →
      ((Itl K a).stop i H ∧ Dv.nx σ H) ∨ ((Itl K a).go i H ∧ ∃ N : L2.St → Hp → Prop, (∀ σ' H', N σ' H' → ∃ m', m' < m ∧ W (i + 1) m' σ' H') ∧ ∀ x H', (Itl K a).yld i H x H' → g x σ H' fun σ2 H2 => t { Dv with nx := N, ct := N, bk := Dv.nx } σ2 H2) := by
  obtain ⟨Pv, h0, hs, hd⟩ := h
  have hlen : xs.length = ds.length := rps_len hr
  refine for_list (K := K) (a := a) (xs := xs) (fun i σ H => ∃ Δ M F', Ex F F' ∧ Cn K Z M σ H Δ F' ∧ Pv i Δ M) ⟨_, M, F, Ex.refl _, cn_fgt js _ c, h0⟩ ?_ ?_ ?_
  · rintro i σ H _ ⟨Δ, M, F', e, c, _⟩
    exact Evl.ex_l c.bs.fH (Evl.ex_l e hx)
  · rintro i x σ H hi ⟨Δ, M, F', e, c, hp⟩
    obtain ⟨d, hd', r⟩ := rps_get' (rps_mono e _ _ hr) hi
    exact hg M σ H Δ F' d x _ c r (hs i d Δ M hd' hp) _ fun σ2 Δ2 c2 h2 => hu M σ2 H Δ2 F' _ c2 h2 _ (endsLoop (js := js) (Pv := Pv) ok e fun σ' H' Δ' M' F'' e1 c' k => ⟨Δ', M', F'', e.trans e1, c', k⟩)
  · rintro σ H ⟨Δ, M, F', e, c, hp⟩
    rw [hlen] at hp
    exact ok.nx σ H Δ M F' e c (hd _ _ hp)
theorem loop_tup {a : Addr} {xs : List V} {ds : List D} {g : TG} {tg : RG} (hg : SimG K Z g tg) {js : List Nat} {t : TS} {u : RS} (hu : SimS K Z t u) {M : Mem} {σ : L2.St} {H F : Hp} {Δ : List Sl} {De : DE} {Dv : Ends} (c : Cn K Z M σ H Δ F)
    (hx : SqT K F a xs) (hr : Rps K F ds xs) (h : dLoopG tg js ds u De Δ M) (ok : EndsOk K Z F De Dv) :
    ∃ W : Nat → Nat → L2.St → Hp → Prop, (∃ m, W 0 m σ H) ∧ ∀ i m σ H, W i m σ H →
      ((Itt K a).stop i H ∧ Dv.nx σ H) ∨ ((Itt K a).go i H ∧ ∃ N : L2.St → Hp → Prop, (∀ σ' H', N σ' H' → ∃ m', m' < m ∧ W (i + 1) m' σ' H') ∧ ∀ x H', (Itt K a).yld i H x H' → g x σ H' fun σ2 H2 => t { Dv with nx := N, ct := N, bk := Dv.nx } σ2 H2) := by
  obtain ⟨Pv, h0, hs, hd⟩ := h
  have hlen : xs.length = ds.length := rps_len hr
  refine for_tup (K := K) (a := a) (xs := xs) (fun i σ H => ∃ Δ M F', Ex F F' ∧ Cn K Z M σ H Δ F' ∧ Pv i Δ M) ⟨_, M, F, Ex.refl _, cn_fgt js _ c, h0⟩ ?_ ?_ ?_
  · rintro i σ H _ ⟨Δ, M, F', e, c, _⟩
    exact Evl.ex_t c.bs.fH (Evl.ex_t e hx)
  · rintro i x σ H hi ⟨Δ, M, F', e, c, hp⟩
    obtain ⟨d, hd', r⟩ := rps_get' (rps_mono e _ _ hr) hi
    exact hg M σ H Δ F' d x _ c r (hs i d Δ M hd' hp) _ fun σ2 Δ2 c2 h2 => hu M σ2 H Δ2 F' _ c2 h2 _ (endsLoop (js := js) (Pv := Pv) ok e fun σ' H' Δ' M' F'' e1 c' k => ⟨Δ', M', F'', e.trans e1, c', k⟩)
  · rintro σ H ⟨Δ, M, F', e, c, hp⟩
    rw [hlen] at hp
    exact ok.nx σ H Δ M F' e c (hd _ _ hp)
def rangeD (lo : Int) (n : Nat) : List D := (List.range n).map fun i => .int (lo + (i : Nat))
theorem rangeD_get {lo : Int} {n i : Nat} (h : i < n) : (rangeD lo n)[i]? = some (.int (lo + (i : Nat))) := by
  unfold rangeD
  rw [List.getElem?_map, List.getElem?_range h] <;> rfl
theorem rangeD_len {lo : Int} {n : Nat} : (rangeD lo n).length = n := by
  unfold rangeD
  rw [List.length_map, List.length_range]
theorem loop_range {lo : Int} {m : Nat} {j : Nat} {js : List Nat} {t : TS} {u : RS} (hu : SimS K Z t u) {M : Mem} {σ : L2.St} {H F : Hp} {Δ : List Sl} {De : DE} {Dv : Ends} (c : Cn K Z M σ H Δ F)
    (h : dLoop j js (rangeD lo m) u De Δ M) (ok : EndsOk K Z F De Dv) :
    ∃ W : Nat → Nat → L2.St → Hp → Prop, (∃ m, W 0 m σ H) ∧ ∀ i k σ H, W i k σ H →
      ((Itr lo m).stop i H ∧ Dv.nx σ H) ∨ ((Itr lo m).go i H ∧ ∃ N : L2.St → Hp → Prop, (∀ σ' H', N σ' H' → ∃ m', m' < k ∧ W (i + 1) m' σ' H') ∧ ∀ x H', (Itr lo m).yld i H x H' → gName j x σ H' fun σ2 H2 => t { Dv with nx := N, ct := N, bk := Dv.nx } σ2 H2) := by
  obtain ⟨Pv, h0, hs, hd⟩ := h
  refine for_range (lo := lo) (n := m) (fun i σ H => ∃ Δ M F', Ex F F' ∧ Cn K Z M σ H Δ F' ∧ Pv i Δ M) ⟨_, M, F, Ex.refl _, cn_fgt js _ c, h0⟩ ?_ ?_
  · rintro i σ H hi ⟨Δ, M, F', e, c, hp⟩
    exact hu M _ H _ F' _ (c.set (d := .int (lo + (i : Nat))) rfl j) (hs i _ Δ M (rangeD_get hi) hp) _ (endsLoop (js := js) (Pv := Pv) ok e fun σ' H' Δ' M' F'' e1 c' k => ⟨Δ', M', F'', e.trans e1, c', k⟩)
  · rintro σ H ⟨Δ, M, F', e, c, hp⟩
    rw [rangeD_len] at hd
    exact ok.nx σ H Δ M F' e c (hd _ _ hp)
/-- for x in e: a list, a tuple (which, the writer says) -/
def dForL (j : Nat) (js : List Nat) (r : RE) (u : RS) : RS := fun D Δ M => r Δ M fun x Δ1 M1 => match x with
  | .lst ds => dLoop j js ds u D Δ1 M1
  | .scr ns => dLoop j js (ns.map .int) u D Δ1 M1
  | _ => False
def dForT (j : Nat) (js : List Nat) (r : RE) (u : RS) : RS := fun D Δ M => r Δ M fun x Δ1 M1 => match x with
  | .tup ds => dLoop j js ds u D Δ1 M1
  | _ => False
theorem qs_forL {j : Nat} {js : List Nat} {x : Str} {px : Pos} {body : List Stmt} {iter : Expr} {u : RS} (hp : PassesOwn (model X.prog X.w) X.A X.env X.xe) (hc : X.calm = true) (hN : X.N.Nodup) (h : QE X Z iter r) (hb : QSs X Z body u) (hi : X.N[j]? = some x := by rfl) (hx : Loc X.env.scope x := by first | exact Or.inl rfl | exact Or.inr rfl)
    (hf : X.fn x = true ∨ X.env.scope.names.lookup x = some .local := by first | exact .inl rfl | exact .inr rfl) (hs : ∀ x, foldedSetIterable iter X.env x = pure x := by intro _; rfl) : QS X Z (.For (.Name x px) iter body [] pos) (dForL j js r u) := by
  obtain ⟨t, p, s⟩ := h
  obtain ⟨tb, pb, sb⟩ := hb
  refine ⟨_, ps_for hp hc (pi_list p) (pg_name (i := j) hN hi hx hf) pb hs, fun M σ H Δ F De c h Dv ok => ?_⟩
  refine s M σ H Δ F _ c h _ fun v H1 y Δ1 M1 F1 e1 c1 r1 h1 => ?_
  cases y with
  | lst ds =>
    obtain ⟨a, vs, e2, g1, g2⟩ := r1
    exact ⟨a, e2, ⟨_, SqL.of (c1.bs.fH _ _ g1)⟩, loop_list simG_name sb c1 (SqL.of g1) g2 h1 (ok.mono e1)⟩
  | scr ns =>
    obtain ⟨a, e2, g1⟩ := r1
    exact ⟨a, e2, ⟨_, Evl.ex_l c1.bs.fH g1⟩, loop_list simG_name sb c1 g1 (ints_rps ns) h1 (ok.mono e1)⟩
  | _ => exact h1.elim
theorem qs_forT {j : Nat} {js : List Nat} {x : Str} {px : Pos} {body : List Stmt} {iter : Expr} {u : RS} (hp : PassesOwn (model X.prog X.w) X.A X.env X.xe) (hc : X.calm = true) (hN : X.N.Nodup) (h : QE X Z iter r) (hb : QSs X Z body u) (hi : X.N[j]? = some x := by rfl) (hx : Loc X.env.scope x := by first | exact Or.inl rfl | exact Or.inr rfl)
    (hf : X.fn x = true ∨ X.env.scope.names.lookup x = some .local := by first | exact .inl rfl | exact .inr rfl) (hs : ∀ x, foldedSetIterable iter X.env x = pure x := by intro _; rfl) : QS X Z (.For (.Name x px) iter body [] pos) (dForT j js r u) := by
  obtain ⟨t, p, s⟩ := h
  obtain ⟨tb, pb, sb⟩ := hb
  refine ⟨_, ps_for hp hc (pi_tup p) (pg_name (i := j) hN hi hx hf) pb hs, fun M σ H Δ F De c h Dv ok => ?_⟩
  refine s M σ H Δ F _ c h _ fun v H1 y Δ1 M1 F1 e1 c1 r1 h1 => ?_
  cases y with
  | tup ds =>
    obtain ⟨a, vs, e2, g1, g2⟩ := r1
    exact ⟨a, e2, ⟨_, Evl.ex_t c1.bs.fH g1⟩, loop_tup simG_name sb c1 g1 g2 h1 (ok.mono e1)⟩
  | _ => exact h1.elim
/-- for x in range(e), range(a, b) -/
def dForR (j : Nat) (js : List Nat) (r : RE) (u : RS) : RS := fun D Δ M => r Δ M fun x Δ1 M1 => match x with
  | .int k => (-(2 ^ 62) ≤ k ∧ k < 2 ^ 62) ∧ dLoop j js (rangeD 0 k.toNat) u D Δ1 M1
  | _ => False
def dForR2 (j : Nat) (js : List Nat) (ra rb : RE) (u : RS) : RS := fun D Δ M => ra Δ M fun x Δ1 M1 => rb Δ1 M1 fun y Δ2 M2 => match x, y with
  | .int lo, .int hi => (-(2 ^ 62) ≤ lo ∧ lo < 2 ^ 62 ∧ -(2 ^ 62) ≤ hi ∧ hi < 2 ^ 62) ∧ dLoop j js (rangeD lo (hi - lo).toNat) u D Δ2 M2
  | _, _ => False
theorem qs_forR {j : Nat} {js : List Nat} {x : Str} {px p1 p2 : Pos} {body : List Stmt} {u : RS} (hp : PassesOwn (model X.prog X.w) X.A X.env X.xe) (hc : X.calm = true) (hN : X.N.Nodup) (hg : Gl X "range") (hm : X.mg "range" = none) (h : QE X Z e r) (hb : QSs X Z body u) (hi : X.N[j]? = some x := by rfl) (hx : Loc X.env.scope x := by first | exact Or.inl rfl | exact Or.inr rfl)
    (hf : X.fn x = true ∨ X.env.scope.names.lookup x = some .local := by first | exact .inl rfl | exact .inr rfl) (hs : ∀ x, foldedSetIterable (.Call (.Name "range" p1) [e] [] p2) X.env x = pure x := by intro _; rfl) (hst : starEach [e] X.env = [(false, eval e X.env)] := by rfl) : QS X Z (.For (.Name x px) (.Call (.Name "range" p1) [e] [] p2) body [] pos) (dForR j js r u) := by
  obtain ⟨t, p, s⟩ := h
  obtain ⟨tb, pb, sb⟩ := hb
  refine ⟨_, ps_for hp hc (pi_range1 hg hm (pa_cons p pa_nil hst) hst) (pg_name (i := j) hN hi hx hf) pb hs, fun M σ H Δ F De c h Dv ok => ?_⟩
  refine s M σ H Δ F _ c h _ fun v H1 y Δ1 M1 F1 e1 c1 r1 h1 => ?_
  cases y with
  | int k => exact ⟨k, by rw [show v = .int k from r1], h1.1.1, h1.1.2, loop_range sb c1 h1.2 (ok.mono e1)⟩
  | _ => exact h1.elim
theorem qs_forR2 {j : Nat} {js : List Nat} {x : Str} {px p1 p2 : Pos} {body : List Stmt} {u : RS} (hp : PassesOwn (model X.prog X.w) X.A X.env X.xe) (hc : X.calm = true) (hN : X.N.Nodup) (hg : Gl X "range") (hm : X.mg "range" = none) (ha : QE X Z a ra) (hb' : QE X Z b rb) (hb : QSs X Z body u) (hi : X.N[j]? = some x := by rfl) (hx : Loc X.env.scope x := by first | exact Or.inl rfl | exact Or.inr rfl)
    (hf : X.fn x = true ∨ X.env.scope.names.lookup x = some .local := by first | exact .inl rfl | exact .inr rfl) (hs : ∀ x, foldedSetIterable (.Call (.Name "range" p1) [a, b] [] p2) X.env x = pure x := by intro _; rfl) (hst : starEach [a, b] X.env = [(false, eval a X.env), (false, eval b X.env)] := by rfl) (hst1 : starEach [a, b] X.env = (false, eval a X.env) :: starEach [b] X.env := by rfl) (hst2 : starEach [b] X.env = [(false, eval b X.env)] := by rfl) :
    QS X Z (.For (.Name x px) (.Call (.Name "range" p1) [a, b] [] p2) body [] pos) (dForR2 j js ra rb u) := by
  obtain ⟨t, p, s⟩ := ha
  obtain ⟨t', p', s'⟩ := hb'
  obtain ⟨tb, pb, sb⟩ := hb
  refine ⟨_, ps_for hp hc (pi_range2 hg hm (pa_cons p (pa_cons p' pa_nil hst2) hst1) hst hst2) (pg_name (i := j) hN hi hx hf) pb hs, fun M σ H Δ F De c h Dv ok => ?_⟩
  refine s M σ H Δ F _ c h _ fun v H1 y Δ1 M1 F1 e1 c1 r1 h1 => ?_
  refine s' M1 σ H1 Δ1 F1 _ c1 h1 _ fun v2 H2 y2 Δ2 M2 F2 e2 c2 r2 h2 => ?_
  split at h2
  · exact ⟨_, _, by rw [show v = _ from r1, show v2 = _ from r2], h2.1, loop_range sb c2 h2.2 (ok.mono (e1.trans e2))⟩
  · exact h2.elim
/-- while c -/
def dWhile (js : List Nat) (t : RT) (u : RS) : RS := fun D Δ M => ∃ Pv : Nat → List Sl → Mem → Prop, (∃ m, Pv m (fgt js Δ) M) ∧ ∀ m Δ1 M1, Pv m Δ1 M1 → t Δ1 M1 fun k Δ2 M2 => match k with
  | true => u { D with nx := fun Δ3 M3 => ∃ m', m' < m ∧ Pv m' (fgt js Δ3) M3, ct := fun Δ3 M3 => ∃ m', m' < m ∧ Pv m' (fgt js Δ3) M3, bk := D.nx } Δ2 M2
  | false => D.nx Δ2 M2
theorem qs_while {js : List Nat} {body : List Stmt} {u : RS} (hp : PassesOwn (model X.prog X.w) X.A X.env X.xe) (ht : QT X Z e rt) (hb : QSs X Z body u) : QS X Z (.While e body [] pos) (dWhile js rt u) := by
  obtain ⟨t, p, s⟩ := ht
  obtain ⟨tb, pb, sb⟩ := hb
  refine ⟨_, ps_while hp p pb, fun M σ H Δ F De c h Dv ok => ?_⟩
  obtain ⟨Pv, ⟨m0, h0⟩, hs⟩ := h
  refine ⟨fun m σ H => ∃ Δ M F', Ex F F' ∧ Cn X.K Z M σ H Δ F' ∧ Pv m Δ M, ⟨m0, _, M, F, Ex.refl _, cn_fgt js _ c, h0⟩, ?_⟩
  rintro m σ H ⟨Δ, M, F', e, c, hp'⟩
  refine s M σ H Δ F' _ c (hs m Δ M hp') _ fun k H1 Δ1 M1 F1 e1 c1 h1 => ?_
  cases k with
  | false => exact iteF (ok.nx σ H1 Δ1 M1 F1 (e.trans e1) c1 h1)
  | true =>
    refine iteT ⟨fun σ' H' => ∃ m', m' < m ∧ ∃ Δ M F', Ex F F' ∧ Cn X.K Z M σ' H' Δ F' ∧ Pv m' Δ M, fun σ' H' n => n, ?_⟩
    refine sb M1 σ H1 Δ1 F1 _ c1 h1 _ ⟨?_, ((ok.mono e).mono e1).rt, ((ok.mono e).mono e1).nx, ?_⟩
    · rintro σ' H' Δ' M' F'' e2 c' ⟨m', hm, k⟩
      exact ⟨m', hm, _, M', F'', (e.trans e1).trans e2, cn_fgt js _ c', k⟩
    · rintro σ' H' Δ' M' F'' e2 c' ⟨m', hm, k⟩
      exact ⟨m', hm, _, M', F'', (e.trans e1).trans e2, cn_fgt js _ c', k⟩
end
end DL

set_option Elab.async false
set_option linter.all false
set_option maxRecDepth 100000
set_option maxHeartbeats 4000000
namespace DL
open PySem PySem.Spec PyProof.Rows L2
open Evl (Ex)

/-! ### defs: a promise over data -/
/-- what is wanted of an exception: its class, its fields -/
abbrev DX := Addr → List (Str × D) → Mem → Prop
abbrev DSp := List D → Mem → (D → Mem → Prop) → DX → Prop
/-- an exception's own dict -/
def XRep (K : PySem.W.Frag) (F H : Hp) (fs : List (Str × D)) : Option Addr → Prop
  | none => fs = []
  | some d => ∃ vfs, H d = some (.xd vfs) ∧ vfs.map Prod.fst = fs.map Prod.fst ∧ Rps K F (fs.map Prod.snd) (vfs.map Prod.snd)
def spOf (K : PySem.W.Frag) (S : DSp) : Sp := fun vs H Q E => ∃ (R F : Hp) (M : Mem) (ds : List D) (Φ : D → Mem → Prop) (Ψ : DX), Bs K ⟨R, F⟩ M H F ∧ Rps K F ds vs ∧ S ds M Φ Ψ ∧
  (∀ v H' d M' F', Bs K ⟨R, F⟩ M' H' F' → Rp K F' d v → Φ d M' → Q v H') ∧
  (∀ C fs M' dd H' F', Bs K ⟨R, F⟩ M' H' F' → XRep K F' H' fs dd → Ψ C fs M' → E (.ref C) dd H')
/-- the promise is about n arguments -/
def Arity (S : DSp) (n : Nat) : Prop := ∀ ds M Φ Ψ, S ds M Φ Ψ → ds.length = n
theorem spOf_len {K : PySem.W.Frag} {S : DSp} {n : Nat} (h : Arity S n) : ∀ vs H Q E, spOf K S vs H Q E → vs.length = n := by
  rintro vs H Q E ⟨R, F, M, ds, Φ, Ψ, b, r, s, _, _⟩
  rw [rps_len r]
  exact h ds M Φ Ψ s

/-- the slots at the entry -/
def startD (N : Nat) (ds : List D) : List Sl := ds.map Sl.d ++ List.replicate (N - ds.length) .un
theorem cn_start {K : PySem.W.Frag} {Z : Zx} {M : Mem} {H F : Hp} {N : List Str} {ds : List D} {vs : List V} (b : Bs K Z M H F) (r : Rps K F ds vs) : Cn K Z M (L2.start N vs) H (startD N.length ds) F where
  bs := b
  len := by
    unfold startD L2.start
    rw [List.length_append, List.length_append, List.length_map, List.length_map, List.length_replicate, List.length_replicate, rps_len r]
  slot := fun i s h => by
    unfold startD at h
    by_cases hi : i < ds.length
    · rw [List.getElem?_append_left (by rw [List.length_map]; exact hi), List.getElem?_map, List.getElem?_eq_getElem hi] at h
      cases h
      obtain ⟨v, h1, h2⟩ := rps_get r (List.getElem?_eq_getElem hi)
      refine ⟨v, ?_, h2⟩
      unfold L2.start
      rw [List.getElem?_append_left (by rw [List.length_map, rps_len r]; exact hi), List.getElem?_map, h1] <;> rfl
    · rw [List.getElem?_append_right (by rw [List.length_map]; omega), List.getElem?_replicate] at h
      split at h
      · cases h
        exact True.intro
      · cases h
  sep := fun i j a es fs hne h1 h2 h3 h4 => by
    unfold startD at h1
    by_cases hi : i < ds.length
    · rw [List.getElem?_append_left (by rw [List.length_map]; exact hi), List.getElem?_map, List.getElem?_eq_getElem hi] at h1
      cases h1
    · rw [List.getElem?_append_right (by rw [List.length_map]; omega), List.getElem?_replicate] at h1
      split at h1 <;> cases h1

section
variable {P : Program} {w : World} {K : PySem.W.Frag} {mg : Str → Option Value} {base : Heap}
/-- THE RULE for a def that raises nothing -/
theorem fn_ok {x qual : Str} {st : Stmt} {f : Addr} {fd : FuncData} {N ps : List Str} {k : Nat} {S : DSp} (F : Fun K x qual st f fd) (Sc : FnScope N ps (defScope st)) (hl : Arity S ps.length)
    (hbody : ∀ (cdv : Value) (A : Around) (outer : List Env) (s : Shared) (H : Hp) (E : XK) (Z : Zx), Room k (A.deeper (envOfC qual (defScope st) s.heap.objs.size f cdv)) →
      ∃ r : RS, QSs (cxOf CX0 P w K mg base N qual (defScope st) f cdv A outer s H E).nox Z (defBody st) r ∧
        ∀ ds M Φ Ψ, S ds M Φ Ψ → r { nx := fun _ M' => Φ .non M', rt := Φ } (startD N.length ds) M) : FnOk P w K mg base CX0 (k + 1) f fd ps (spOf K S) := by
  refine F.ok Sc (spOf_len hl) fun cdv A outer s H vs Q E hr h => ?_
  obtain ⟨R, F0, M, ds, Φ, Ψ, b, r, hS, hq, hx⟩ := h
  obtain ⟨rs, ⟨t, p, sim⟩, red⟩ := hbody cdv A outer s H E ⟨R, F0⟩ hr
  refine ⟨t, p, sim M _ H _ F0 _ (cn_start b r) (red ds M Φ Ψ hS) _ ⟨?_, ?_, ?_, ?_⟩⟩
  · intro σ' H' Δ' M' F' e c k
    exact hq .non H' .non M' F' c.bs rfl k
  · intro v H' d M' F' e c rr k
    exact hq v H' d M' F' c rr k
  · intro σ' H' Δ' M' F' e c k
    exact k.elim
  · intro σ' H' Δ' M' F' e c k
    exact k.elim
end

/-! ### calls -/
open Classical in
/-- the rest of the heap at a call: what is neither handed over nor frozen: the caller's own lists too -/
noncomputable def restAt (Z : Zx) (σ : L2.St) (Δ : List Sl) (H : Hp) : Hp := fun a => if ∃ (i : Nat) (ds : List D), Δ[i]? = some (.own ds) ∧ σ[i]? = some (some (.ref a)) then H a else Z.R a
section
variable {K : PySem.W.Frag} {Z : Zx} {M M' : Mem} {σ : L2.St} {H H' F F' : Hp} {Δ : List Sl}
theorem rest_own {i : Nat} {ds : List D} {a : Addr} (h1 : Δ[i]? = some (.own ds)) (h2 : σ[i]? = some (some (.ref a))) : restAt Z σ Δ H a = H a := by
  unfold restAt
  rw [if_pos ⟨i, ds, h1, h2⟩]
theorem rest_other {a : Addr} (h : ¬ ∃ (i : Nat) (ds : List D), Δ[i]? = some (.own ds) ∧ σ[i]? = some (some (.ref a))) : restAt Z σ Δ H a = Z.R a := by
  unfold restAt
  rw [if_neg h]
theorem call_in (c : Cn K Z M σ H Δ F) : Bs K ⟨restAt Z σ Δ H, F⟩ M H F where
  f0 := Ex.refl _
  fH := c.bs.fH
  rH := fun a o h => by
    replace h : restAt Z σ Δ H a = some o := h
    by_cases hx : ∃ (i : Nat) (ds : List D), Δ[i]? = some (.own ds) ∧ σ[i]? = some (some (.ref a))
    · obtain ⟨i, ds, h1, h2⟩ := hx
      rw [rest_own h1 h2] at h
      exact h
    · rw [rest_other hx] at h
      exact c.bs.rH a o h
  fr := fun a o h => by
    by_cases hx : ∃ (i : Nat) (ds : List D), Δ[i]? = some (.own ds) ∧ σ[i]? = some (some (.ref a))
    · obtain ⟨i, ds, h1, h2⟩ := hx
      obtain ⟨b, vs, e, g1, g2, g3, _⟩ := c.slot i _ h1
      rw [h2] at e
      cases e
      rw [g3] at h
      cases h
    · show restAt Z σ Δ H a = none
      rw [rest_other hx]
      exact c.bs.fr a o h
  mm := fun a o h => by
    obtain ⟨h1, h2, h3⟩ := c.bs.mm a o h
    refine ⟨h1, ?_, h3⟩
    show restAt Z σ Δ H a = none
    by_cases hx : ∃ (i : Nat) (ds : List D), Δ[i]? = some (.own ds) ∧ σ[i]? = some (some (.ref a))
    · obtain ⟨i, ds, g1, g2⟩ := hx
      obtain ⟨b, vs, e, _, _, _, _, g5⟩ := c.slot i _ g1
      rw [g2] at e
      cases e
      rw [g5] at h
      cases h
    · rw [rest_other hx]
      exact h2
theorem call_out (c : Cn K Z M σ H Δ F) (b : Bs K ⟨restAt Z σ Δ H, F⟩ M' H' F') : Cn K Z M' σ H' Δ F' := by
  have own : ∀ (i : Nat) (ds : List D) (a : Addr) (vs : List V), Δ[i]? = some (.own ds) → σ[i]? = some (some (.ref a)) → H a = some (.lst vs) → F' a = none ∧ H' a = some (.lst vs) ∧ M' a = none := fun i ds a vs h1 h2 h3 => by
    have e : restAt Z σ Δ H a = some (.lst vs) := (rest_own h1 h2).trans h3
    refine ⟨?_, b.rH a _ e, ?_⟩
    · cases h : F' a with
      | none => rfl
      | some o =>
        have := b.fr a o h
        rw [show (⟨restAt Z σ Δ H, F⟩ : Zx).R a = restAt Z σ Δ H a from rfl, e] at this
        cases this
    · cases h : M' a with
      | none => rfl
      | some o =>
        have := (b.mm a o h).2.1
        rw [show (⟨restAt Z σ Δ H, F⟩ : Zx).R a = restAt Z σ Δ H a from rfl, e] at this
        cases this
  have rz : ∀ a, restAt Z σ Δ H a = none → Z.R a = none := fun a h => by
    by_cases hx : ∃ (i : Nat) (ds : List D), Δ[i]? = some (.own ds) ∧ σ[i]? = some (some (.ref a))
    · obtain ⟨i, ds, g1, g2⟩ := hx
      obtain ⟨b, vs, e, g3, _⟩ := c.slot i _ g1
      rw [g2] at e
      cases e
      rw [rest_own g1 g2, g3] at h
      cases h
    · rw [rest_other hx] at h
      exact h
  refine ⟨⟨c.bs.f0.trans b.f0, b.fH, fun a o h => ?_, fun a o h => rz a (b.fr a o h), fun a o h => ⟨(b.mm a o h).1, rz a (b.mm a o h).2.1, (b.mm a o h).2.2⟩⟩, c.len, fun i s h => ?_, c.sep⟩
  · refine b.rH a o ?_
    show restAt Z σ Δ H a = some o
    by_cases hx : ∃ (i : Nat) (ds : List D), Δ[i]? = some (.own ds) ∧ σ[i]? = some (some (.ref a))
    · obtain ⟨i, ds, g1, g2⟩ := hx
      obtain ⟨b, vs, e, _, _, _, g4, _⟩ := c.slot i _ g1
      rw [g2] at e
      cases e
      rw [g4] at h
      cases h
    · rw [rest_other hx]
      exact h
  · have k := c.slot i s h
    cases s with
    | un => exact True.intro
    | d d =>
      obtain ⟨v, e, r⟩ := k
      exact ⟨v, e, rp_mono b.f0 _ _ r⟩
    | own ds =>
      obtain ⟨a, vs, e, h1, h2, h3, h4, h5⟩ := k
      obtain ⟨q1, q2, q3⟩ := own i ds a vs h e h1
      exact ⟨a, vs, e, q2, rps_mono b.f0 _ _ h2, q1, h4, q3⟩
end
def noX : DX := fun _ _ _ => False
/-- f(..): the callee's promise -/
def dCall (S : DSp) (rl : RA) : RE := fun Δ M Φ => rl Δ M fun ds Δ1 M1 => S ds M1 (fun d M2 => Φ d Δ1 M2) noX
section
variable {X : Cx} {Z : Zx} {e : Expr} {pos : Pos} {es : List Expr} {rl : RA} {n k : Nat} {f : Addr} {fd : FuncData} {ps : List Str} {x : Str} {p : Pos} {S : DSp}
theorem sim_call {K : PySem.W.Frag} {t : TA} (h : SimA K Z n t rl) : Sim K Z (tCall (spOf K S) [] E0 t) (dCall S rl) := by
  intro M σ H Δ F Φ c k Q q
  refine h M σ H Δ F _ c k _ fun vs H1 ds Δ1 M1 F1 e1 c1 r1 hl h1 => ?_
  show spOf K S (vs ++ []) H1 Q E0
  rw [List.append_nil]
  refine ⟨restAt Z σ Δ1 H1, F1, M1, ds, _, noX, call_in c1, r1, h1, fun v H' d M' F' b rr hΦ => ?_, fun C fs M' dd H' F' b rr hΨ => hΨ.elim⟩
  exact q v H' d Δ1 M' F' (e1.trans b.f0) (call_out c1 b) rr hΦ
theorem qe_call (Fn : FnOk X.prog X.w X.K X.mg X.base CX0 k f fd ps (spOf X.K S)) (hr : Room k X.A) (hg : Gl X x) (hm : X.mg x = some (.ref f)) (hk : PySem.W.keepIn X.K (.ref f) = true) (hb : Binds X.K fd ps []) (ha : QA X Z n (e :: es) rl) (hdb : (x == ("__debug__" : Str)) = false := by decide)
    (he : starEach (e :: es) X.env = (false, eval e X.env) :: starEach es X.env := by rfl) (hpl : (backTo pos (starEach es X.env)).any (·.1) = false := by rfl) : QE X Z (.Call (.Name x p) (e :: es) [] pos) (dCall S rl) := by
  obtain ⟨t, pa, s⟩ := ha
  exact ⟨_, pe_call Fn hr hg hm hk hb .nil pass0 pa hdb he hpl, sim_call s⟩
theorem qe_call0 (Fn : FnOk X.prog X.w X.K X.mg X.base CX0 k f fd ps (spOf X.K S)) (hr : Room k X.A) (hg : Gl X x) (hm : X.mg x = some (.ref f)) (hk : PySem.W.keepIn X.K (.ref f) = true) (hb : Binds X.K fd ps []) (hdb : (x == ("__debug__" : Str)) = false := by decide) :
    QE X Z (.Call (.Name x p) [] [] pos) (dCall S dNil) := by
  refine ⟨_, pe_call0 Fn hr hg hm hk hb .nil pass0 hdb, sim_call (n := 0) fun M σ H Δ F Φ c h Q q => q [] H [] Δ M F (Ex.refl _) c rfl rfl h⟩
end
/-! ### the law -/
/-- the law's own promise: True for every script -/
def lawSp : DSp := fun ds M Φ _ => ∃ ns : List Int, ds = [.scr ns] ∧ ns.length ≤ 63 ∧ ∀ M', Φ (.bl true) M'
theorem law_start {K : PySem.W.Frag} {H : Hp} {a : Addr} {ns : List Int} (hl : ns.length ≤ 63) (hS : SqL K H a (ns.map V.int)) : spOf K lawSp [.ref a] H (fun v _ => v = .bl true) fun _ _ _ => False := by
  refine ⟨fun _ => none, H, fun _ => none, [.scr ns], fun d _ => d = .bl true, noX, ⟨Ex.refl _, Ex.refl _, fun a o h => (by cases h), fun _ _ _ => rfl, fun a o h => (by cases h)⟩, ⟨.ref a, [], rfl, ⟨a, rfl, hS⟩, rfl⟩, ⟨ns, rfl, hl, fun _ => rfl⟩, fun v H' d M' F' b r e => ?_, fun C fs M' dd H' F' b r e => e.elim⟩
  subst e
  exact r
end DL

set_option Elab.async false
set_option linter.all false
set_option maxRecDepth 100000
set_option maxHeartbeats 4000000
namespace DL
open PySem PySem.Spec PyProof.Rows L2
open Evl (Ex)
section
variable {X : Cx} {Z : Zx} {e a b c : Expr} {ra rb rc r : RE} {rt ru : RT} {pos : Pos} {es : List Expr} {rl : RA} {n : Nat} {K : PySem.W.Frag}
/-! ### products and quotients of any size -/
def CMulA (i j : Int) : Prop := CMul i j ∨ CMulW i j
theorem op_mulA : OpR X (binaryOp .Mult) (rI CMulA fun i j => .int (i * j)) := by
  intro pins s σ H x y v u Q I rx ry h
  obtain ⟨i, j, h1, h2, hc, q⟩ := h
  rcases hc with hc | hc
  · exact op_mul pins s σ H x y v u Q I rx ry ⟨i, j, h1, h2, hc, q⟩
  · exact op_mulW pins s σ H x y v u Q I rx ry ⟨i, j, h1, h2, hc, q⟩
theorem qe_mulA (ha : QE X Z a ra) (hb : QE X Z b rb) : QE X Z (.BinOp a .Mult b pos) (dOp (dIC CMulA fun i j => .int (i * j)) ra rb) := qe_bin op_mulA (opD_IC fun _ _ _ => rfl) ha hb
def CDivA (i j : Int) : Prop := 0 < j ∧ (j < 1073741824 ∨ j.natAbs.log2 < 9000)
theorem op_fdivA : OpR X (binaryOp .FloorDiv) (rI CDivA fun i j => .int (i / j)) := by
  intro pins s σ H x y v u Q I rx ry h
  obtain ⟨i, j, h1, h2, hc, q⟩ := h
  rcases hc.2 with h | h
  · exact op_fdiv pins s σ H x y v u Q I rx ry ⟨i, j, h1, h2, ⟨hc.1, h⟩, q⟩
  · exact op_fdivW pins s σ H x y v u Q I rx ry ⟨i, j, h1, h2, ⟨hc.1, h⟩, q⟩
theorem qe_fdivA (ha : QE X Z a ra) (hb : QE X Z b rb) : QE X Z (.BinOp a .FloorDiv b pos) (dOp (dIC CDivA fun i j => .int (i / j)) ra rb) := qe_bin op_fdivA (opD_IC fun _ _ _ => rfl) ha hb

/-! ### == of anything -/
def dEqA : D → D → (D → Prop) → Prop := fun x y Φ => match x, y with
  | .int i, .int j => Φ (.bl (decide (i = j)))
  | .str i, .str j => Φ (.bl (decide (i = j)))
  | .bl i, .bl j => Φ (.bl (decide (i = j)))
  | x, y => dEq x y Φ
def dNeA : D → D → (D → Prop) → Prop := fun x y Φ => match x, y with
  | .int i, .int j => Φ (.bl (!decide (i = j)))
  | .str i, .str j => Φ (.bl (!decide (i = j)))
  | .bl i, .bl j => Φ (.bl (!decide (i = j)))
  | x, y => dNe x y Φ
def rEqA (K : PySem.W.Frag) : R2 := fun x y H Q => rEq x y H Q ∨ rEqD K x y H Q
def rNeA (K : PySem.W.Frag) : R2 := fun x y H Q => rNe x y H Q ∨ rNeD K x y H Q
theorem op_eqA (hu : X.A.units + 64 < cLine) : OpR X (compareOp .Eq) (rEqA X.K) := OpR.or op_eq (op_eqD hu)
theorem op_neA (hu : X.A.units + 64 < cLine) : OpR X (compareOp .NotEq) (rNeA X.K) := OpR.or op_ne (op_neD hu)
theorem od_eqA : OpD K (rEqA K) dEqA := OpD.or od_eqS od_eq fun x y Φ k => by
  unfold dEqA at k
  split at k
  · exact .inl k
  · exact .inl k
  · exact .inl k
  · exact .inr k
theorem od_neA : OpD K (rNeA K) dNeA := OpD.or od_neS od_ne fun x y Φ k => by
  unfold dNeA at k
  split at k
  · exact .inl k
  · exact .inl k
  · exact .inl k
  · exact .inr k

/-! ### in -/
def D.flat : D → Bool
  | .non | .bl _ | .int _ | .str _ => true
  | _ => false
def D.v : D → V
  | .non => .non | .bl b => .bl b | .int i => .int i | .str x => .str x | _ => .non
theorem rp_flat {F : Hp} {d : D} {v : V} (h : Rp K F d v) (f : d.flat = true) : v = d.v ∧ flatV v = true := by
  cases d with
  | non => exact ⟨h, by rw [show v = .non from h] <;> rfl⟩
  | bl b => exact ⟨h, by rw [show v = .bl b from h] <;> rfl⟩
  | int b => exact ⟨h, by rw [show v = .int b from h] <;> rfl⟩
  | str b => exact ⟨h, by rw [show v = .str b from h] <;> rfl⟩
  | _ => cases f
theorem rps_flat {F : Hp} : ∀ {ds : List D} {vs : List V}, Rps K F ds vs → ds.all D.flat = true → vs = ds.map D.v ∧ vs.all flatV = true
  | [], vs, h, _ => by rw [show vs = [] from h]; exact ⟨rfl, rfl⟩
  | d :: ds, vs, h, f => by
    obtain ⟨v, r, e, h1, h2⟩ := h
    rw [List.all_cons, Bool.and_eq_true] at f
    obtain ⟨g1, g2⟩ := rp_flat h1 f.1
    obtain ⟨g3, g4⟩ := rps_flat h2 f.2
    rw [e]
    exact ⟨by rw [List.map_cons, ← g1, ← g3], by rw [List.all_cons, g2, g4] <;> rfl⟩
def inD (x : D) (ds : List D) : Bool := inV x.v (ds.map D.v)
def dInA (neg : Bool) : D → D → (D → Prop) → Prop := fun x y Φ => match y with
  | .tup ds => x.flat = true ∧ ds.all D.flat = true ∧ Φ (.bl (if neg then !inD x ds else inD x ds))
  | .lst ds => x.flat = true ∧ ds.all D.flat = true ∧ Φ (.bl (if neg then !inD x ds else inD x ds))
  | .str z => ∃ k : Nat, x = .str ⟨#[k]⟩ ∧ Φ (.bl (if neg then !decide (k ∈ z.cps.toList) else decide (k ∈ z.cps.toList)))
  | _ => False
def rInSg (neg : Bool) : R2 := fun x y H Q => ∃ (c : Nat) (z : Str), x = .str ⟨#[c]⟩ ∧ y = .str z ∧ Q (.bl (if neg then !decide (c ∈ z.cps.toList) else decide (c ∈ z.cps.toList))) H
def rInA (K : PySem.W.Frag) (neg : Bool) : R2 := fun x y H Q => rIn K neg x y H Q ∨ rInSg neg x y H Q
theorem op_inA : OpR X (compareOp .In) (rInA X.K false) := OpR.or op_in_seq (by
  intro pins s σ H x y v u Q I rx ry h
  obtain ⟨c, z, h1, h2, q⟩ := h
  exact op_in_sign pins s σ H x y v u Q I rx ry ⟨c, z, h1, h2, q⟩)
theorem op_ninA : OpR X (compareOp .NotIn) (rInA X.K true) := OpR.or op_notIn_seq (by
  intro pins s σ H x y v u Q I rx ry h
  obtain ⟨c, z, h1, h2, q⟩ := h
  exact op_notIn_sign pins s σ H x y v u Q I rx ry ⟨c, z, h1, h2, q⟩)
theorem od_inA {neg : Bool} : OpD K (rInA K neg) (dInA neg) := by
  intro Z M σ H Δ F x y v w Φ c rx ry k Q q
  unfold dInA at k
  split at k
  · obtain ⟨p, vs, e1, h1, h2⟩ := ry
    obtain ⟨f1, f2, k⟩ := k
    obtain ⟨g1, g2⟩ := rp_flat rx f1
    obtain ⟨g3, g4⟩ := rps_flat h2 f2
    refine .inl ⟨p, vs, e1, .inr (Evl.ex_t c.bs.fH h1), g2, g4, ?_⟩
    rw [g1, g3]
    exact q _ H (.bl _) F (Ex.refl _) c rfl k
  · obtain ⟨p, vs, e1, h1, h2⟩ := ry
    obtain ⟨f1, f2, k⟩ := k
    obtain ⟨g1, g2⟩ := rp_flat rx f1
    obtain ⟨g3, g4⟩ := rps_flat h2 f2
    refine .inl ⟨p, vs, e1, .inl (SqL.of (c.bs.fH _ _ h1)), g2, g4, ?_⟩
    rw [g1, g3]
    exact q _ H (.bl _) F (Ex.refl _) c rfl k
  · obtain ⟨j, e1, k⟩ := k
    subst e1
    exact .inr ⟨j, _, rx, ry, q _ H (.bl _) F (Ex.refl _) c rfl k⟩
  · exact k.elim

/-! ### chains, truth -/
def dChain (d1 d2 : D → D → (D → Prop) → Prop) (ra rb rc : RE) : RE := fun Δ M Φ => ra Δ M fun x Δ1 M1 => rb Δ1 M1 fun y Δ2 M2 => d1 x y fun z => match z with
  | .bl k => bs k fun k => match k with
    | true => rc Δ2 M2 fun w Δ3 M3 => d2 y w fun u => Φ u Δ3 M3
    | false => Φ (.bl false) Δ2 M2
  | _ => False
theorem sim_chain {r1 r2 : R2} {d1 d2 : D → D → (D → Prop) → Prop} {ta tb tc : TE} (h1 : OpD K r1 d1) (h2 : OpD K r2 d2) (ha : Sim K Z ta ra) (hb : Sim K Z tb rb) (hc : Sim K Z tc rc) : Sim K Z (tChain r1 r2 ta tb tc) (dChain d1 d2 ra rb rc) := by
  intro M σ H Δ F Φ c h Q q
  refine ha M σ H Δ F _ c h _ fun v H1 x Δ1 M1 F1 e1 c1 q1 k1 => ?_
  refine hb M1 σ H1 Δ1 F1 _ c1 k1 _ fun w H2 y Δ2 M2 F2 e2 c2 q2 k2 => ?_
  refine h1 Z M2 σ H2 Δ2 F2 x y v w _ c2 (rp_mono e2 _ _ q1) q2 k2 _ fun u H3 z F3 e3 c3 q3 k3 => ?_
  cases z with
  | bl k =>
    refine ⟨k, q3, ?_⟩
    replace k3 := bs_of k3
    cases k with
    | true =>
      refine iteT (hc M2 σ H3 Δ2 F3 _ c3 k3 _ fun w' H4 y' Δ4 M4 F4 e4 c4 q4 k4 => ?_)
      exact h2 Z M4 σ H4 Δ4 F4 y y' w w' _ c4 (rp_mono e4 _ _ (rp_mono e3 _ _ q2)) q4 k4 Q fun u' H5 d F5 e5 c5 q5 k5 => q u' H5 d Δ4 M4 F5 ((((e1.trans e2).trans e3).trans e4).trans e5) c5 q5 k5
    | false => exact iteF (q _ H3 (.bl false) Δ2 M2 F3 ((e1.trans e2).trans e3) c3 rfl k3)
  | _ => exact k3.elim
theorem qe_chain {op op' : CmpOp} {r1 r2 : R2} {d1 d2 : D → D → (D → Prop) → Prop} (o1 : OpR X (compareOp op) r1) (h1 : OpD X.K r1 d1) (o2 : OpR X (compareOp op') r2) (h2 : OpD X.K r2 d2) (ha : QE X Z a ra) (hb : QE X Z b rb) (hc : QE X Z c rc) (hm : lastMarks [op, op'] [b, c] = false := by with_unfolding_all rfl) :
    QE X Z (.Compare a [op, op'] [b, c] pos) (dChain d1 d2 ra rb rc) := by
  obtain ⟨ta, pa, sa⟩ := ha
  obtain ⟨tb, pb, sb⟩ := hb
  obtain ⟨tc, pc, sc⟩ := hc
  exact ⟨_, pe_chain o1 o2 pa pb pc hm, sim_chain h1 h2 sa sb sc⟩
theorem qt_chain {op op' : CmpOp} {r1 r2 : R2} {d1 d2 : D → D → (D → Prop) → Prop} (o1 : OpR X (compareOp op) r1) (h1 : OpD X.K r1 d1) (o2 : OpR X (compareOp op') r2) (h2 : OpD X.K r2 d2) (ha : QE X Z a ra) (hb : QE X Z b rb) (hc : QE X Z c rc) (hm : lastMarks [op, op'] [b, c] = false := by with_unfolding_all rfl) :
    QT X Z (.Compare a [op, op'] [b, c] pos) (dTest (dChain d1 d2 ra rb rc)) := by
  obtain ⟨ta, pa, sa⟩ := ha
  obtain ⟨tb, pb, sb⟩ := hb
  obtain ⟨tc, pc, sc⟩ := hc
  exact ⟨_, pt_chain o1 o2 pa pb pc hm, simT_test (sim_chain h1 h2 sa sb sc)⟩
def dTruth (r : RE) : RT := fun Δ M Φ => r Δ M fun x Δ1 M1 => match x with
  | .bl k => bs k fun k => Φ k Δ1 M1
  | .int i => bs (i != 0) fun k => Φ k Δ1 M1
  | .str z => z.length ≤ sizeLine ∧ bs ((z.length : Int) != 0) fun k => Φ k Δ1 M1
  | .lst ds => bs (!ds.isEmpty) fun k => Φ k Δ1 M1
  | .tup ds => bs (!ds.isEmpty) fun k => Φ k Δ1 M1
  | .non => Φ false Δ1 M1
  | _ => False
theorem rps_empty {F : Hp} {ds : List D} {vs : List V} (h : Rps K F ds vs) : vs.isEmpty = ds.isEmpty := by
  have := rps_len h
  cases ds <;> cases vs <;> first | rfl | (simp at this)
theorem qt_truth (h : QE X Z e r) (he : ∀ whole, isTrue e X.env whole = (do let v ← whole; standAt e.pos; holding [v] (truthy v)) := by intro _; rfl) : QT X Z e (dTruth r) := by
  obtain ⟨t, p, s⟩ := h
  refine ⟨_, pt_truth p he, fun M σ H Δ F Φ c h Q q => ?_⟩
  refine s M σ H Δ F _ c h _ fun v H1 x Δ1 M1 F1 e1 c1 r1 h1 => ?_
  cases x with
  | bl k => rw [show v = .bl k from r1]; exact ⟨k, rfl, q k H1 Δ1 M1 F1 e1 c1 (bs_of h1)⟩
  | int i => rw [show v = .int i from r1]; exact ⟨_, rfl, q _ H1 Δ1 M1 F1 e1 c1 (bs_of h1)⟩
  | str z => rw [show v = .str z from r1]; exact ⟨_, ⟨h1.1, rfl⟩, q _ H1 Δ1 M1 F1 e1 c1 (bs_of h1.2)⟩
  | non => rw [show v = .non from r1]; exact ⟨_, rfl, q _ H1 Δ1 M1 F1 e1 c1 h1⟩
  | lst ds =>
    obtain ⟨p, vs, e2, g1, g2⟩ := r1
    rw [e2]
    exact ⟨!ds.isEmpty, .inl ⟨vs, SqL.of (c1.bs.fH _ _ g1), by rw [rps_empty g2]⟩, q _ H1 Δ1 M1 F1 e1 c1 (bs_of h1)⟩
  | tup ds =>
    obtain ⟨p, vs, e2, g1, g2⟩ := r1
    rw [e2]
    exact ⟨!ds.isEmpty, .inr (.inl ⟨vs, Evl.ex_t c1.bs.fH g1, by rw [rps_empty g2]⟩), q _ H1 Δ1 M1 F1 e1 c1 (bs_of h1)⟩
  | _ => exact h1.elim
/-- the truth of an own list -/
def dTruthO (j : Nat) : RT := fun Δ M Φ => match Δ[j]? with
  | some (.own ds) => bs (!ds.isEmpty) fun k => Φ k Δ M
  | _ => False
theorem qt_truthO (j : Nat) {x : Str} (hN : X.N[j]? = some x := by rfl) (hv : Vis X.env.scope x := by first | exact Or.inl rfl | exact Or.inr (Or.inl rfl) | exact Or.inr (Or.inr rfl)) (hd : (x == ("__debug__" : Str)) = false := by decide) (hcd : (x == ("__classdict__" : Str)) = false := by decide) : QT X Z (.Name x pos) (dTruthO j) := by
  refine ⟨_, pt_truth (pe_var (i := j) hN hv hd hcd) (by intro _; rfl), fun M σ H Δ F Φ c h Q q => ?_⟩
  unfold dTruthO at h
  split at h
  · rename_i ds hj
    obtain ⟨a, vs, hv0, g1, g2, _⟩ := c.slot j _ hj
    exact ⟨_, hv0, !ds.isEmpty, .inl ⟨vs, SqL.of g1, by rw [rps_empty g2]⟩, q _ H Δ M F (Ex.refl _) c (bs_of h)⟩
  · exact h.elim
end

/-! ### for over a list or a tuple -/
def iSeq (K : PySem.W.Frag) (tl : TE) : TI := fun σ H R => tl σ H fun x H1 => ∃ a, x = .ref a ∧ (((∃ xs, SqL K H1 a xs) ∧ R (Itl K a) H1) ∨ ((∃ xs, SqT K H1 a xs) ∧ R (Itt K a) H1))
theorem pi_seq {X : Cx} {tg l : Expr} {tl : TE} (hl : PE X l tl) : PI X tg l (iSeq X.K tl) := by
  refine ⟨fun pins s σ H R I h => ?_⟩
  refine thn (hl.run pins s σ H _ I h) fun v s1 ⟨x, H1, I1, r1, q1⟩ => ?_
  obtain ⟨a, e, q⟩ := q1
  subst e
  cases r1
  rcases q with ⟨⟨xs, hq⟩, q⟩ | ⟨⟨xs, hq⟩, q⟩
  · obtain ⟨its, rv, p, hz⟩ := I1.list hq
    refine wpAny_pyIter_list p.isList ?_
    refine ⟨s1.heap.objs.size, [s1.heap.objs.size], _, _, H1, rfl, I1.kept (t' := s1.toks) fun b o e => Heap.get?_push_of_some _ e, turn_list a _, ⟨_, Heap.get?_push_size _ rfl, rfl, rfl⟩, fun b hb => ?_, q⟩
    have e : b = s1.heap.objs.size := by simpa using hb
    subst e
    exact I1.fpOk (Nat.le_refl _) (I1.hok.fresh (Nat.le_refl _))
  · obtain ⟨its, rv, p, hz⟩ := I1.tuple hq
    refine wpAny_pyIter_tuple (show s1.heap.IsTuple a its.toArray from p) ?_
    refine ⟨s1.heap.objs.size, [s1.heap.objs.size], _, _, H1, rfl, I1.kept (t' := s1.toks) fun b o e => Heap.get?_push_of_some _ e, turn_tuple a _, ⟨_, Heap.get?_push_size _ rfl, rfl, rfl⟩, fun b hb => ?_, q⟩
    have e : b = s1.heap.objs.size := by simpa using hb
    subst e
    exact I1.fpOk (Nat.le_refl _) (I1.hok.fresh (Nat.le_refl _))
def dFor (j : Nat) (js : List Nat) (r : RE) (u : RS) : RS := fun D Δ M => r Δ M fun x Δ1 M1 => match x with
  | .lst ds => dLoop j js ds u D Δ1 M1
  | .scr ns => dLoop j js (ns.map .int) u D Δ1 M1
  | .tup ds => dLoop j js ds u D Δ1 M1
  | _ => False
theorem qs_for {X : Cx} {Z : Zx} {pos : Pos} {r : RE} {j : Nat} {js : List Nat} {x : Str} {px : Pos} {body : List Stmt} {iter : Expr} {u : RS} (hp : PassesOwn (model X.prog X.w) X.A X.env X.xe) (hc : X.calm = true) (hN : X.N.Nodup) (h : QE X Z iter r) (hb : QSs X Z body u) (hi : X.N[j]? = some x := by rfl) (hx : Loc X.env.scope x := by first | exact Or.inl rfl | exact Or.inr rfl)
    (hf : X.fn x = true ∨ X.env.scope.names.lookup x = some .local := by first | exact .inl rfl | exact .inr rfl) (hs : ∀ x, foldedSetIterable iter X.env x = pure x := by intro _; rfl) : QS X Z (.For (.Name x px) iter body [] pos) (dFor j js r u) := by
  obtain ⟨t, p, s⟩ := h
  obtain ⟨tb, pb, sb⟩ := hb
  refine ⟨_, ps_for hp hc (pi_seq p) (pg_name (i := j) hN hi hx hf) pb hs, fun M σ H Δ F De c h Dv ok => ?_⟩
  refine s M σ H Δ F _ c h _ fun v H1 y Δ1 M1 F1 e1 c1 r1 h1 => ?_
  cases y with
  | lst ds =>
    obtain ⟨a, vs, e2, g1, g2⟩ := r1
    exact ⟨a, e2, .inl ⟨⟨_, SqL.of (c1.bs.fH _ _ g1)⟩, loop_list simG_name sb c1 (SqL.of g1) g2 h1 (ok.mono e1)⟩⟩
  | scr ns =>
    obtain ⟨a, e2, g1⟩ := r1
    exact ⟨a, e2, .inl ⟨⟨_, Evl.ex_l c1.bs.fH g1⟩, loop_list simG_name sb c1 g1 (ints_rps ns) h1 (ok.mono e1)⟩⟩
  | tup ds =>
    obtain ⟨a, vs, e2, g1, g2⟩ := r1
    exact ⟨a, e2, .inr ⟨⟨_, Evl.ex_t c1.bs.fH g1⟩, loop_tup simG_name sb c1 g1 g2 h1 (ok.mono e1)⟩⟩
  | _ => exact h1.elim

/-! ### readings of loops, ready for use -/
/-- a loop whose turns bring the slots from f i to f (i + 1) -/
theorem loop_by {j : Nat} {js : List Nat} {xs : List D} {u : RS} {De : DE} {Δ : List Sl} {M : Mem} (f : Nat → List Sl) (h0 : fgt js Δ = f 0)
    (hs : ∀ i d, xs[i]? = some d → u { De with nx := fun Δ2 M2 => fgt js Δ2 = f (i + 1) ∧ M2 = M, ct := fun Δ2 M2 => fgt js Δ2 = f (i + 1) ∧ M2 = M, bk := De.nx } ((f i).set j (.d d)) M) (hd : De.nx (f xs.length) M) : dLoop j js xs u De Δ M :=
  ⟨fun i Δ' M' => Δ' = f i ∧ M' = M, ⟨h0, rfl⟩, fun i d Δ1 M1 hi ⟨e1, e2⟩ => by subst e1 e2; exact hs i d hi, fun Δ1 M1 ⟨e1, e2⟩ => by subst e1 e2; exact hd⟩
end DL

set_option Elab.async false
set_option linter.all false
set_option maxRecDepth 100000
set_option maxHeartbeats 4000000
namespace DL
open PySem PySem.Spec PyProof.Rows L2
open Evl (Ex)
/-! ### lists in memory -/
def updM (M : Mem) (p : Addr) (o : OD) : Mem := fun a => if a = p then some o else M a
theorem updM_same {M : Mem} {p : Addr} {o : OD} : updM M p o p = some o := by unfold updM; rw [if_pos rfl]
theorem updM_ne {M : Mem} {p a : Addr} {o : OD} (h : a ≠ p) : updM M p o a = M a := by unfold updM; rw [if_neg h]
theorem updM_updM {M : Mem} {p : Addr} {o u : OD} : updM (updM M p o) p u = updM M p u := by
  funext a; unfold updM; split <;> rfl
section
variable {K : PySem.W.Frag} {Z : Zx} {M : Mem} {σ : L2.St} {H F : Hp} {Δ : List Sl}
theorem Cn.newM (c : Cn K Z M σ H Δ F) {p : Addr} {ds : List D} {vs : List V} (hp : H p = none) (r : Rps K F ds vs) : Cn K Z (updM M p (.lst ds)) σ (upd H p (.lst vs)) Δ F where
  bs := {
    f0 := c.bs.f0
    fH := (c.bs.newH hp _).fH
    rH := (c.bs.newH hp (.lst vs)).rH
    fr := c.bs.fr
    mm := fun a o h => by
      by_cases e : a = p
      · subst e
        rw [updM_same] at h
        cases h
        exact ⟨c.bs.freeF hp, c.bs.freeR hp, vs, upd_same, r⟩
      · rw [updM_ne e] at h
        exact (c.bs.newH hp (.lst vs)).mm a o h }
  len := c.len
  slot := fun i s h => by
    have k := (c.newH hp (.lst vs)).slot i s h
    cases s with
    | un => exact True.intro
    | d d => exact k
    | own es =>
      obtain ⟨a, ws, e, h1, h2, h3, h4, h5⟩ := k
      have g := c.slot i _ h
      obtain ⟨a', ws', e', g1, _⟩ := g
      rw [e] at e'
      cases e'
      exact ⟨a, ws, e, h1, h2, h3, h4, by rw [updM_ne (ne_of_none g1 hp)]; exact h5⟩
  sep := c.sep
theorem Cn.setM (c : Cn K Z M σ H Δ F) {p : Addr} {o : OD} {ds : List D} {vs : List V} (hM : M p = some o) (r : Rps K F ds vs) : Cn K Z (updM M p (.lst ds)) σ (upd H p (.lst vs)) Δ F := by
  obtain ⟨m1, m2, m3⟩ := c.bs.mm p o hM
  refine ⟨⟨c.bs.f0, fun a u h => ?_, fun a u h => ?_, c.bs.fr, fun a u h => ?_⟩, c.len, fun i s h => ?_, c.sep⟩
  · have e : a ≠ p := fun e => by subst e; rw [m1] at h; cases h
    rw [upd_ne e]; exact c.bs.fH a u h
  · have e : a ≠ p := fun e => by subst e; rw [m2] at h; cases h
    rw [upd_ne e]; exact c.bs.rH a u h
  · by_cases e : a = p
    · subst e
      rw [updM_same] at h
      cases h
      exact ⟨m1, m2, vs, upd_same, r⟩
    · rw [updM_ne e] at h
      rw [upd_ne e]; exact c.bs.mm a u h
  · have k := c.slot i s h
    cases s with
    | un => exact True.intro
    | d d => exact k
    | own es =>
      obtain ⟨a, ws, e, h1, h2, h3, h4, h5⟩ := k
      have ne : a ≠ p := fun e => by subst e; rw [h5] at hM; cases hM
      exact ⟨a, ws, e, by rw [upd_ne ne]; exact h1, h2, h3, h4, by rw [updM_ne ne]; exact h5⟩
theorem Bs.lstM (b : Bs K Z M H F) {p : Addr} {ds : List D} (h : M p = some (.lst ds)) : ∃ vs, H p = some (.lst vs) ∧ Rps K F ds vs := (b.mm p _ h).2.2
end
section
variable {X : Cx} {Z : Zx} {e a b c : Expr} {ra rb rc r : RE} {rt ru : RT} {pos : Pos} {es : List Expr} {rl : RA} {n : Nat} {K : PySem.W.Frag}
/-- x = a new list, in memory -/
def dSetM (i : Nat) (rl : RA) : RS := fun D Δ M => rl Δ M fun ds Δ1 M1 => ∀ p, M1 p = none → D.nx (Δ1.set i (.d (.ref p))) (updM M1 p (.lst ds))
theorem qs_setM {i : Nat} {x : Str} {pos' : Pos} (hN : X.N.Nodup) (h : QL X Z e rl) (hi : X.N[i]? = some x := by rfl) (hx : Loc X.env.scope x := by first | exact Or.inl rfl | exact Or.inr rfl) (hs : swapsWith e (some (.Name x pos')) pos.line X.env = pure false := by rfl)
    (hf : X.fn x = true ∨ X.env.scope.names.lookup x = some .local := by first | exact .inl rfl | exact .inr rfl) : QS X Z (.Assign [.Name x pos'] e pos) (dSetM i rl) := by
  obtain ⟨t, p, s⟩ := h
  refine ⟨_, ps_set (i := i) hN hi hx p hs hf, fun M σ H Δ F De c h Dv ok => ?_⟩
  refine s M σ H Δ F _ c h _ fun p H1 vs ds Δ1 M1 F1 e1 c1 hp r1 h1 => ?_
  exact ok.nx _ _ _ _ F1 e1 ((c1.newM hp r1).set (d := .ref p) rfl i) (h1 p (c1.bs.freeM hp))
/-- a new list as a value, in memory -/
def dNewM (rl : RA) : RE := fun Δ M Φ => rl Δ M fun ds Δ1 M1 => ∀ p, M1 p = none → Φ (.ref p) Δ1 (updM M1 p (.lst ds))
theorem qe_newM (h : QL X Z e rl) : QE X Z e (dNewM rl) := by
  obtain ⟨t, p, s⟩ := h
  refine ⟨t, p, fun M σ H Δ F Φ c h Q q => ?_⟩
  refine s M σ H Δ F _ c h Q fun p H1 vs ds Δ1 M1 F1 e1 c1 hp r1 h1 => ?_
  exact q _ _ (.ref p) Δ1 _ F1 e1 (c1.newM hp r1) rfl (h1 p (c1.bs.freeM hp))
/-- xs[i], len(xs), xs a list in memory -/
def dIxM (ra rb : RE) : RE := fun Δ M Φ => ra Δ M fun x Δ1 M1 => rb Δ1 M1 fun y Δ2 M2 => match x, y with
  | .ref p, .int i => ∃ ds, M2 p = some (.lst ds) ∧ ∃ d, atI ds i = some d ∧ Φ d Δ2 M2
  | _, _ => False
theorem qe_ixM (ha : QE X Z a ra) (hb : QE X Z b rb) (hs : PlainIx b := by intro _ _; rfl) : QE X Z (.Subscript a b pos) (dIxM ra rb) := by
  obtain ⟨ta, pa, sa⟩ := ha
  obtain ⟨tb, pb, sb⟩ := hb
  refine ⟨_, pe_ix ix_list pa pb hs, fun M σ H Δ F Φ c h Q q => ?_⟩
  refine sa M σ H Δ F _ c h _ fun v H1 x Δ1 M1 F1 e1 c1 r1 h1 => ?_
  refine sb M1 σ H1 Δ1 F1 _ c1 h1 _ fun w H2 y Δ2 M2 F2 e2 c2 r2 h2 => ?_
  split at h2
  · obtain ⟨ds, hM, d, hd, k⟩ := h2
    obtain ⟨vs, g1, g2⟩ := c2.bs.lstM hM
    obtain ⟨u, h3, h4⟩ := atI_rps g2 hd
    exact ⟨_, vs, _, u, r1, r2, SqL.of g1, h3, q u H2 d Δ2 M2 F2 (e1.trans e2) c2 h4 k⟩
  · exact h2.elim
def dLenM (r : RE) : RE := fun Δ M Φ => r Δ M fun x Δ1 M1 => match x with
  | .ref p => ∃ ds, M1 p = some (.lst ds) ∧ Φ (.int (ds.length : Nat)) Δ1 M1
  | _ => False
theorem qe_lenM {p : Pos} (hg : Gl X "len") (hm : X.mg "len" = none) (h : QE X Z e r) (he : starEach [e] X.env = (false, eval e X.env) :: starEach [] X.env := by rfl) (hpl : (backTo pos (starEach [] X.env)).any (·.1) = false := by rfl) :
    QE X Z (.Call (.Name "len" p) [e] [] pos) (dLenM r) := by
  obtain ⟨t, pa, s⟩ := h
  refine ⟨_, pe_callB cr_lenAll hg hm boot_len (pa_cons pa pa_nil he) (by decide) (by decide) he hpl, fun M σ H Δ F Φ c h Q q => ?_⟩
  refine s M σ H Δ F _ c h _ fun v H1 x Δ1 M1 F1 e1 c1 r1 h1 => ?_
  cases x with
  | ref p =>
    obtain ⟨ds, hM, k⟩ := h1
    obtain ⟨vs, g1, g2⟩ := c1.bs.lstM hM
    refine .inl ⟨p, vs, by rw [show v = .ref p from r1], .inl (SqL.of g1), ?_⟩
    rw [rps_len g2]
    exact q _ H1 (.int _) Δ1 M1 F1 e1 c1 rfl k
  | _ => exact h1.elim
/-- xs.append(e) -/
def dAppM (ra r : RE) : RS := fun D Δ M => ra Δ M fun x Δ1 M1 => match x with
  | .ref p => (∃ ds, M1 p = some (.lst ds)) ∧ r Δ1 M1 fun d Δ2 M2 => ∃ ds, M2 p = some (.lst ds) ∧ ds.length < sizeLine ∧ D.nx Δ2 (updM M2 p (.lst (ds ++ [d])))
  | _ => False
theorem qs_appM {o : Expr} {p2 pos' : Pos} (ho : QE X Z o ra) (h : QE X Z e r)
    (hpe : ∀ t u, PE X o t → PE X e u → PE X (.Call (.Attribute o "append" p2) [e] [] pos) (tBM X.K "list" rAppend t (tCons u tNil)) := by intro t u ht hu; exact pe_bm PySem.F.plainAttrs_list PySem.F.slot_list_append PySem.F.type_list_append mt_append ht (pa_cons hu pa_nil))
    (hs : swapsWith (.Call (.Attribute o "append" p2) [e] [] pos) none pos'.line X.env = pure false := by rfl) : QS X Z (.Expr (.Call (.Attribute o "append" p2) [e] [] pos) pos') (dAppM ra r) := by
  obtain ⟨t0, p0, s0⟩ := ho
  obtain ⟨t, p, s⟩ := h
  refine ⟨_, ps_expr (hpe t0 t p0 p) hs, fun M σ H Δ F De c h Dv ok => ?_⟩
  refine s0 M σ H Δ F _ c h _ fun v H1 x Δ1 M1 F1 e1 c1 r1 h1 => ?_
  cases x with
  | ref a =>
    obtain ⟨⟨ds0, hM0⟩, h1⟩ := h1
    obtain ⟨vs0, g0, _⟩ := c1.bs.lstM hM0
    rw [show v = .ref a from r1]
    refine ⟨.inl ⟨rfl, _, SqL.of g0⟩, ?_⟩
    refine s M1 σ H1 Δ1 F1 _ c1 h1 _ fun w H2 y Δ2 M2 F2 e2 c2 r2 h2 => ?_
    obtain ⟨ds, hM, hl, k⟩ := h2
    obtain ⟨vs, g1, g2⟩ := c2.bs.lstM hM
    refine ⟨a, vs, w, rfl, rfl, g1, by rw [rps_len g2]; exact hl, ?_⟩
    exact ok.nx σ _ _ _ F2 (e1.trans e2) (c2.setM hM (rps_app g2 (rps_one r2))) k
  | _ => exact h1.elim
/-- for x in xs, xs in memory and not changed -/
def dForM (j : Nat) (js : List Nat) (r : RE) (u : RS) : RS := fun D Δ M => r Δ M fun x Δ1 M1 => match x with
  | .ref p => ∃ ds, M1 p = some (.lst ds) ∧ ∃ Pv : Nat → List Sl → Mem → Prop, Pv 0 (fgt js Δ1) M1 ∧ (∀ i Δ2 M2, Pv i Δ2 M2 → M2 p = some (.lst ds)) ∧
    (∀ i d Δ2 M2, ds[i]? = some d → Pv i Δ2 M2 → u { D with nx := fun Δ3 M3 => Pv (i + 1) (fgt js Δ3) M3, ct := fun Δ3 M3 => Pv (i + 1) (fgt js Δ3) M3, bk := D.nx } (Δ2.set j (.d d)) M2) ∧ ∀ Δ2 M2, Pv ds.length Δ2 M2 → D.nx Δ2 M2
  | _ => False
theorem qs_forM {j : Nat} {js : List Nat} {x : Str} {px : Pos} {body : List Stmt} {iter : Expr} {u : RS} (hp : PassesOwn (model X.prog X.w) X.A X.env X.xe) (hc : X.calm = true) (hN : X.N.Nodup) (h : QE X Z iter r) (hb : QSs X Z body u) (hi : X.N[j]? = some x := by rfl) (hx : Loc X.env.scope x := by first | exact Or.inl rfl | exact Or.inr rfl)
    (hf : X.fn x = true ∨ X.env.scope.names.lookup x = some .local := by first | exact .inl rfl | exact .inr rfl) (hs : ∀ x, foldedSetIterable iter X.env x = pure x := by intro _; rfl) : QS X Z (.For (.Name x px) iter body [] pos) (dForM j js r u) := by
  obtain ⟨t, p, s⟩ := h
  obtain ⟨tb, pb, sb⟩ := hb
  refine ⟨_, ps_for hp hc (pi_list p) (pg_name (i := j) hN hi hx hf) pb hs, fun M σ H Δ F De c h Dv ok => ?_⟩
  refine s M σ H Δ F _ c h _ fun v H1 y Δ1 M1 F1 e1 c1 r1 h1 => ?_
  cases y with
  | ref a =>
    obtain ⟨ds, hM, Pv, h0, hst, hs, hd⟩ := h1
    obtain ⟨vs, g1, g2⟩ := c1.bs.lstM hM
    refine ⟨a, r1, ⟨vs, SqL.of g1⟩, fun i m σ H => ∃ Δ M F' ws, Ex F1 F' ∧ Cn X.K Z M σ H Δ F' ∧ H a = some (.lst ws) ∧ Rps X.K F' ds ws ∧ i + m = ds.length ∧ Pv i Δ M, ⟨ds.length, _, M1, F1, vs, Ex.refl _, cn_fgt js _ c1, g1, g2, Nat.zero_add _, h0⟩, ?_⟩
    rintro i m σ H ⟨Δ, M, F', ws, e, c, gl, gr, him, hp'⟩
    by_cases hi' : i < ds.length
    · have hd' : ds[i]? = some ds[i] := List.getElem?_eq_getElem hi'
      obtain ⟨w, hw, rw'⟩ := rps_get gr hd'
      refine .inr ⟨⟨ws, w, SqL.of gl, hw⟩, fun σ' H' => ∃ Δ M F' ws, Ex F1 F' ∧ Cn X.K Z M σ' H' Δ F' ∧ H' a = some (.lst ws) ∧ Rps X.K F' ds ws ∧ Pv (i + 1) Δ M, ?_, ?_⟩
      · rintro σ' H' ⟨Δ, M, F', ws, e, c, gl, gr, hp'⟩
        exact ⟨m - 1, by omega, Δ, M, F', ws, e, c, gl, gr, by omega, hp'⟩
      · rintro x H' ⟨rfl, hy⟩
        have ex : x = w := by
          have := hy ws (SqL.of gl)
          rw [hw] at this
          exact (Option.some.inj this).symm
        subst ex
        have again : ∀ (σ' : L2.St) (H' : Hp) (Δ' : List Sl) (M' : Mem) (F'' : Hp), Ex F' F'' → Cn X.K Z M' σ' H' Δ' F'' → Pv (i + 1) (fgt js Δ') M' → ∃ Δ M F' ws, Ex F1 F' ∧ Cn X.K Z M σ' H' Δ F' ∧ H' a = some (.lst ws) ∧ Rps X.K F' ds ws ∧ Pv (i + 1) Δ M := by
          intro σ' H' Δ' M' F'' e2 c' k
          obtain ⟨ws', q1, q2⟩ := c'.bs.lstM (hst _ _ _ k)
          exact ⟨_, M', F'', ws', e.trans e2, cn_fgt js _ c', q1, q2, k⟩
        refine sb M _ _ _ F' _ (c.set rw' j) (hs i _ Δ M hd' hp') _ ⟨again, ((ok.mono e1).mono e).rt, ((ok.mono e1).mono e).nx, again⟩
    · have : i = ds.length := by omega
      subst this
      refine .inl ⟨⟨ws, SqL.of gl, by rw [rps_len gr]; exact Nat.le_refl _⟩, ?_⟩
      exact ok.nx σ H Δ M F' (e1.trans e) c (hd _ _ hp')
  | _ => exact h1.elim
/-- for a, b in xs -/
def dForU (is js : List Nat) (r : RE) (u : RS) : RS := fun D Δ M => r Δ M fun x Δ1 M1 => match x with
  | .lst ds => dLoopG (tgU is) js ds u D Δ1 M1
  | .tup ds => dLoopG (tgU is) js ds u D Δ1 M1
  | _ => False
theorem qs_forU {is js : List Nat} {tgs : List Expr} {k : Nat} {tp : Pos} {body : List Stmt} {iter : Expr} {u : RS} (hp : PassesOwn (model X.prog X.w) X.A X.env X.xe) (hc : X.calm = true) (h : QE X Z iter r) (hg : PGs X tgs (gNames is)) (hb : QSs X Z body u)
    (hpg : PGs X tgs (gNames is) → PG X (.Tuple tgs k tp) (gTup X.K is.length (gNames is)) := by intro hg; exact pg_tup rfl hg) (hs : ∀ x, foldedSetIterable iter X.env x = pure x := by intro _; rfl) : QS X Z (.For (.Tuple tgs k tp) iter body [] pos) (dForU is js r u) := by
  obtain ⟨t, p, s⟩ := h
  obtain ⟨tb, pb, sb⟩ := hb
  refine ⟨_, ps_for hp hc (pi_seq p) (hpg hg) pb hs, fun M σ H Δ F De c h Dv ok => ?_⟩
  refine s M σ H Δ F _ c h _ fun v H1 y Δ1 M1 F1 e1 c1 r1 h1 => ?_
  cases y with
  | lst ds =>
    obtain ⟨a, vs, e2, g1, g2⟩ := r1
    exact ⟨a, e2, .inl ⟨⟨_, SqL.of (c1.bs.fH _ _ g1)⟩, loop_list simG_tup sb c1 (SqL.of g1) g2 h1 (ok.mono e1)⟩⟩
  | tup ds =>
    obtain ⟨a, vs, e2, g1, g2⟩ := r1
    exact ⟨a, e2, .inr ⟨⟨_, Evl.ex_t c1.bs.fH g1⟩, loop_tup simG_tup sb c1 g1 g2 h1 (ok.mono e1)⟩⟩
  | _ => exact h1.elim

/-! ### new lists -/
/-- xs + e, xs a list of one's own -/
def dCatO (j : Nat) (r : RE) : RA := fun Δ M Φ => isOwn Δ j ∧ r Δ M fun y Δ1 M1 => match Δ1[j]?, y with
  | some (.own ds), .lst es => ds.length + es.length ≤ sizeLine ∧ Φ (ds ++ es) Δ1 M1
  | _, _ => False
theorem ql_catO (j : Nat) {x : Str} {p2 : Pos} (hb : QE X Z b rb) (hN : X.N[j]? = some x := by rfl) (hv : Vis X.env.scope x := by first | exact Or.inl rfl | exact Or.inr (Or.inl rfl) | exact Or.inr (Or.inr rfl)) (hd : (x == ("__debug__" : Str)) = false := by decide)
    (hcd : (x == ("__classdict__" : Str)) = false := by decide) : QL X Z (.BinOp (.Name x p2) .Add b pos) (dCatO j rb) := by
  obtain ⟨tb, pb, sb⟩ := hb
  refine ⟨_, pe_op op_cat (pe_var (i := j) hN hv hd hcd) pb, ?_⟩
  rintro M σ H Δ F Φ c ⟨⟨ds0, h0⟩, h⟩ Q q
  obtain ⟨p0, vs0, hv0, _⟩ := c.slot j _ h0
  refine ⟨_, hv0, ?_⟩
  refine sb M σ H Δ F _ c h _ fun w H1 y Δ1 M1 F1 e1 c1 r1 h1 => ?_
  split at h1
  · rename_i ds es hd
    obtain ⟨p, vs, e2, g1, g2, _⟩ := c1.slot j _ hd
    rw [hv0] at e2
    cases e2
    obtain ⟨b', ws, e3, g3, g4⟩ := r1
    refine ⟨p0, b', vs, ws, rfl, e3, g1, c1.bs.fH _ _ g3, by rw [rps_len g2, rps_len g4]; exact h1.1, fun p hp => ?_⟩
    exact q p H1 _ _ Δ1 M1 F1 e1 c1 hp (rps_app g2 g4) h1.2
  · exact h1.elim
end
/-- a promise about nothing -/
def spNever : DSp := fun _ _ _ _ => False
theorem fn_never {P : Program} {w : World} {K : PySem.W.Frag} {mg : Str → Option Value} {base : Heap} {CX : CXT} {k : Nat} {f : Addr} {fd : FuncData} {ps : List Str} {S : DSp} (h : ∀ ds M Φ Ψ, ¬ S ds M Φ Ψ) : FnOk P w K mg base CX k f fd ps (spOf K S) :=
  ⟨fun vs H Q E ⟨_, _, _, _, _, _, _, _, s, _⟩ => absurd s (h _ _ _ _), fun A outer s H args us vs Q E _ _ _ _ ⟨_, _, _, _, _, _, _, _, z, _⟩ => absurd z (h _ _ _ _)⟩
end DL

set_option Elab.async false
set_option linter.all false
set_option maxRecDepth 100000
set_option maxHeartbeats 4000000
namespace My
open PySem PySem.Spec PyProof.Rows L2 DL
open Evl (Ex)
/-! ### the law's own numbers: a row of the script -/
def cellAt (ns : List Int) (k : Int) : Int := if k < (ns.length : Int) then ns.getD k.toNat 0 else 0
def seedAt (s : Int) : Nat → Int
  | 0 => s
  | i + 1 => (seedAt s i * 16807 + (i : Int) * 7919 + 101) % 2147483647
def thAt (c : Int) : Nat → Int
  | 0 => c
  | i + 1 => thAt c i / 1000
def lawRow (ns : List Int) (k : Int) (n : Nat) : List Int :=
  if cellAt ns k ≥ 10 ^ 18 then (List.range n).map fun i => thAt (cellAt ns k) i % 1000
  else (List.range n).map fun i => seedAt ((cellAt ns k * 48271 + k * 69621 + 11) % 2147483647) (i + 1) / 65536 % 1000
theorem lawRow_len (ns : List Int) (k : Int) (n : Nat) : (lawRow ns k n).length = n := by
  unfold lawRow
  split <;> rw [List.length_map, List.length_range]
theorem lawRow_mem {ns : List Int} {k : Int} {n : Nat} : ∀ r ∈ lawRow ns k n, 0 ≤ r ∧ r < 1000 := by
  intro r hr
  unfold lawRow at hr
  split at hr
  · obtain ⟨i, _, rfl⟩ := List.mem_map.mp hr
    omega
  · obtain ⟨i, _, rfl⟩ := List.mem_map.mp hr
    omega
/-- the i-th number of a row -/
theorem lawRow_at {ns : List Int} {k : Int} {n i : Nat} (h : i < n) : ∃ r, atI ((lawRow ns k n).map D.int) (i : Int) = some (.int r) ∧ (lawRow ns k n)[i]? = some r ∧ 0 ≤ r ∧ r < 1000 := by
  have hl : i < (lawRow ns k n).length := by rw [lawRow_len]; exact h
  refine ⟨(lawRow ns k n)[i], ?_, List.getElem?_eq_getElem hl, lawRow_mem _ (List.getElem_mem hl)⟩
  refine atI_nat ?_
  rw [List.getElem?_map, List.getElem?_eq_getElem hl] <;> rfl
def S_law_row : DSp := fun ds M Φ _ => ∃ (ns : List Int) (k : Int) (n : Nat), ds = [.scr ns, .int k, .int n] ∧ 0 ≤ k ∧ k < 1000000 ∧ n ≤ 1000 ∧ Φ (.lst ((lawRow ns k n).map .int)) M
theorem ar_law_row : Arity S_law_row 3 := by
  rintro ds M Φ Ψ ⟨ns, k, n, rfl, _⟩
  rfl
theorem seedAt_lo {s : Int} (h : 0 ≤ s ∧ s < 2147483647) : ∀ i, 0 ≤ seedAt s i ∧ seedAt s i < 2147483647
  | 0 => h
  | i + 1 => by
    show 0 ≤ (seedAt s i * 16807 + (i : Int) * 7919 + 101) % 2147483647 ∧ (seedAt s i * 16807 + (i : Int) * 7919 + 101) % 2147483647 < 2147483647
    omega
/-! _law_row: slots 0 _law_script 1 _law_k 2 _law_count 3 _law_cell_here 4 _law_row_here 5 _law_at 6 _law_seed -/
def b_law_row_6 : RS := (dSeq (dApp 4 (dOp (dIC (fun _ j => 0 < j) fun i j => .int (i % j)) (dCB dInt (dCons (dVar 3) dNil)) (dC (.int 1000))))
    (dSet 3 (dOp (dIC CDivA fun i j => .int (i / j)) (dVar 3) (dC (.int 1000)))))
def b_law_row_11 : RS := (dSeq (dSet 6 (dOp (dIC (fun _ j => 0 < j) fun i j => .int (i % j)) (dCB dInt (dCons (dOp dAdd (dOp dAdd (dOp (dIC CMulA fun i j => .int (i * j)) (dVar 6) (dC (.int 16807))) (dOp (dIC CMulA fun i j => .int (i * j)) (dVar 5) (dC (.int 7919)))) (dC (.int 101))) dNil)) (dC (.int 2147483647))))
    (dApp 4 (dOp (dIC (fun _ j => 0 < j) fun i j => .int (i % j)) (dOp (dIC CDivA fun i j => .int (i / j)) (dVar 6) (dC (.int 65536))) (dC (.int 1000)))))
def r_law_row_6 : RS := (dRet (dVar 4))
def r_law_row_5 : RS := dSeq (dForR 5 [5] (dVar 2) b_law_row_11) r_law_row_6
def r_law_row_4 : RS := dSeq (dSet 6 (dOp (dIC (fun _ j => 0 < j) fun i j => .int (i % j)) (dCB dInt (dCons (dOp dAdd (dOp dAdd (dOp (dIC CMulA fun i j => .int (i * j)) (dVar 3) (dC (.int 48271))) (dOp (dIC CMulA fun i j => .int (i * j)) (dVar 1) (dC (.int 69621)))) (dC (.int 11))) dNil)) (dC (.int 2147483647)))) r_law_row_5
def r_law_row_3 : RS := dSeq (dIfS (dTest (dOp dGe (dVar 3) (dOp (dIC CPow fun i j => .int (i ^ j.toNat)) (dC (.int 10)) (dC (.int 18))))) (dSeq (dForR 5 [5] (dVar 2) b_law_row_6)
    (dRet (dVar 4))) dNext) r_law_row_4
def r_law_row_2 : RS := dSeq (dSetO 4 dNil) r_law_row_3
def r_law_row_1 : RS := dSeq (dIfS (dTest (dOp dLt (dVar 1) (dCB dLen (dCons (dVar 0) dNil)))) (dSet 3 (dCB dInt (dCons (dOp dIx (dVar 0) (dVar 1)) dNil))) dNext) r_law_row_2
def r_law_row : RS := dSeq (dSet 3 (dC (.int 0))) r_law_row_1


theorem getD_of {ns : List Int} {k : Int} (h0 : 0 ≤ k) (h : k < (ns.length : Int)) : atI ns k = some (cellAt ns k) := by
  have hk : k.toNat < ns.length := by omega
  have e : ((k.toNat : Nat) : Int) = k := Int.toNat_of_nonneg h0
  rw [← e]
  unfold cellAt
  rw [if_pos (by omega)]
  refine atI_nat ?_
  rw [Int.toNat_natCast, List.getD_eq_getElem?_getD, List.getElem?_eq_getElem hk] <;> rfl
theorem range_take {α : Type} (g : Nat → α) (i : Nat) : (List.range (i + 1)).map g = (List.range i).map g ++ [g i] := by
  rw [List.range_succ, List.map_append] <;> rfl
theorem line1000 {n : Nat} (h : n ≤ 1000) : n < sizeLine := Nat.lt_of_le_of_lt h (by decide)
theorem rangeD_some {lo : Int} {n i : Nat} {d : D} (h : (rangeD lo n)[i]? = some d) : i < n ∧ d = .int (lo + (i : Nat)) := by
  have hi : i < n := by
    have := (List.getElem?_eq_some_iff.mp h).1
    rw [rangeD_len] at this
    exact this
  rw [rangeD_get hi] at h
  exact ⟨hi, (Option.some.inj h).symm⟩
theorem red_law_row : ∀ ds M Φ Ψ, S_law_row ds M Φ Ψ → r_law_row { nx := fun _ M' => Φ .non M', rt := Φ } (startD 7 ds) M := by
  rintro ds M Φ Ψ ⟨ns, k, n, rfl, hk0, hk1, hn, q⟩
  have key : ∀ c, c = cellAt ns k → r_law_row_2 { nx := fun _ M' => Φ .non M', rt := Φ } [.d (.scr ns), .d (.int k), .d (.int n), .d (.int c), .un, .un, .un] M := by
    intro c hc
    have h10 : (10 : Int) ^ (18 : Int).toNat = 1000000000000000000 := by decide
    have h10' : (10 : Int) ^ 18 = 1000000000000000000 := by decide
    refine ⟨⟨by decide, by decide, by decide⟩, fun hb => ?_, fun hb => ?_⟩
    · -- the digits of a great cell
      have hc18 : cellAt ns k ≥ 10 ^ 18 := by
        have := of_decide_eq_true hb
        rw [h10] at this
        omega
      refine ⟨by omega, ?_⟩
      refine loop_by (fun i => [.d (.scr ns), .d (.int k), .d (.int n), .d (.int (thAt c i)), .own ((List.range i).map fun i => .int (thAt c i % 1000)), .un, .un]) rfl (fun i d hi => ?_) ?_
      · obtain ⟨hi, rfl⟩ := rangeD_some hi
        refine ⟨⟨_, rfl⟩, (by show (0 : Int) < 1000; decide), ?_, ?_⟩
        · rw [List.length_map, List.length_range]
          exact line1000 (by omega)
        · refine ⟨⟨by decide, .inl (by decide)⟩, ?_, rfl⟩
          show [Sl.d (.scr ns), .d (.int k), .d (.int n), .d (.int (thAt c i / 1000)), .own ((List.range i).map (fun i => D.int (thAt c i % 1000)) ++ [.int (thAt c i % 1000)]), .un, .un] = [.d (.scr ns), .d (.int k), .d (.int n), .d (.int (thAt c (i + 1))), .own ((List.range (i + 1)).map fun i => .int (thAt c i % 1000)), .un, .un]
          rw [range_take] <;> rfl
      · rw [rangeD_len, show (↑n : Int).toNat = n from Int.toNat_natCast n]
        have e : (List.range n).map (fun i => D.int (thAt c i % 1000)) = (lawRow ns k n).map .int := by
          unfold lawRow
          rw [if_pos hc18, List.map_map, hc] <;> rfl
        show Φ (.lst ((List.range n).map fun i => D.int (thAt c i % 1000))) M
        rw [e]
        exact q
    · -- a seed
      have hc18 : ¬ cellAt ns k ≥ 10 ^ 18 := by
        have := of_decide_eq_false hb
        rw [h10] at this
        omega
      have e2 : (0 : Int) < 2147483647 := by decide
      let s0 := (c * 48271 + k * 69621 + 11) % 2147483647
      have hs0 : 0 ≤ s0 ∧ s0 < 2147483647 := by omega
      refine ⟨.inl (.inr (by decide)), .inl (.inr (by decide)), e2, by omega, ?_⟩
      refine loop_by (fun i => [.d (.scr ns), .d (.int k), .d (.int n), .d (.int c), .own ((List.range i).map fun i => .int (seedAt s0 (i + 1) / 65536 % 1000)), .un, .d (.int (seedAt s0 i))]) rfl (fun i d hi => ?_) ?_
      · obtain ⟨hi, rfl⟩ := rangeD_some hi
        refine ⟨.inl (.inr (by decide)), .inl (.inr (by decide)), e2, ⟨_, rfl⟩, ⟨by decide, .inl (by decide)⟩, (by show (0 : Int) < 1000; decide), ?_, ?_, rfl⟩
        · rw [List.length_map, List.length_range]
          exact line1000 (by omega)
        · have e3 : (seedAt s0 i * 16807 + (0 + (i : Int)) * 7919 + 101) % 2147483647 = seedAt s0 (i + 1) := by
            show _ = (seedAt s0 i * 16807 + (i : Int) * 7919 + 101) % 2147483647
            rw [Int.zero_add]
          show [Sl.d (.scr ns), .d (.int k), .d (.int n), .d (.int c), .own ((List.range i).map (fun i => D.int (seedAt s0 (i + 1) / 65536 % 1000)) ++ [.int ((seedAt s0 i * 16807 + (0 + (i : Int)) * 7919 + 101) % 2147483647 / 65536 % 1000)]), .un, .d (.int ((seedAt s0 i * 16807 + (0 + (i : Int)) * 7919 + 101) % 2147483647))] = _
          rw [e3, range_take]
      · rw [rangeD_len, show (↑n : Int).toNat = n from Int.toNat_natCast n]
        have e : (List.range n).map (fun i => D.int (seedAt s0 (i + 1) / 65536 % 1000)) = (lawRow ns k n).map .int := by
          unfold lawRow
          rw [if_neg hc18, List.map_map, ← hc] <;> rfl
        show Φ (.lst ((List.range n).map fun i => D.int (seedAt s0 (i + 1) / 65536 % 1000))) M
        rw [e]
        exact q
  refine ⟨fun hb => ?_, fun hb => ?_⟩
  · have hlt : k < (ns.length : Int) := of_decide_eq_true hb
    exact ⟨_, getD_of hk0 hlt, key _ rfl⟩
  · have hge : ¬ k < (ns.length : Int) := of_decide_eq_false hb
    refine key 0 ?_
    unfold cellAt
    rw [if_neg hge]
end My

set_option Elab.async false
set_option linter.all false
set_option maxRecDepth 100000
set_option maxHeartbeats 4000000
namespace My
open PySem PySem.Spec PyProof.Rows L2 DL
open Evl (Ex)
/-! ### trees of pairs over ints: values, kinds -/
inductive T where
  | n (i : Int) | p (a b : T)
  deriving DecidableEq
def T.D : T → DL.D
  | .n i => .int i
  | .p a b => .tup [a.D, b.D]
def T.dep : T → Nat
  | .n _ => 0
  | .p a b => 1 + max a.dep b.dep
def T.isZ : T → Bool
  | .n i => decide (i = 0)
  | .p _ _ => false
theorem T.pure : ∀ t : T, t.D.pure = true
  | .n _ => rfl
  | .p a b => by
    show (a.D.pure && (b.D.pure && true)) = true
    rw [a.pure, b.pure] <;> rfl
theorem T.lay : ∀ t : T, t.D.py.canLay0 = true
  | .n _ => rfl
  | .p a b => by
    show (a.D.py.canLay0 && (b.D.py.canLay0 && true)) = true
    rw [a.lay, b.lay] <;> rfl
theorem T.pdep : ∀ t : T, t.D.py.depth ≤ t.dep
  | .n _ => Nat.le_refl 0
  | .p a b => by
    show max a.D.py.depth (max b.D.py.depth 0) + 1 ≤ 1 + max a.dep b.dep
    have h1 := a.pdep
    have h2 := b.pdep
    omega
theorem T.shaped {t : T} (h : t.dep ≤ 60) : SeqAt.shaped t.D.py = true := by
  unfold SeqAt.shaped
  rw [t.lay, Bool.true_and]
  have := t.pdep
  exact decide_eq_true (by omega)
/-- t == 0 -/
theorem eq_zero {t : T} (h : t.dep ≤ 60) {Φ : DL.D → Prop} (k : Φ (.bl t.isZ)) : dEqA t.D (.int 0) Φ := by
  cases t with
  | n i => exact k
  | p a b => exact ⟨T.pure _, rfl, T.shaped h, rfl, k⟩
def oD : Option T → DL.D
  | none => .non
  | some t => t.D
theorem oD_isNon (x : Option T) : (oD x).isNon = x.isNone := by
  cases x with
  | none => rfl
  | some t => cases t <;> rfl
theorem T.isNon (t : T) : t.D.isNon = false := by cases t <;> rfl
end My

set_option Elab.async false
set_option linter.all false
set_option maxRecDepth 100000
set_option maxHeartbeats 4000000
namespace My
open PySem PySem.Spec PyProof.Rows L2 DL
open Evl (Ex)
def mx (i j : Int) : Int := if j > i then j else i
def joinT : T → T → Option T
  | a, b => if a.isZ then some b else if b.isZ then some a else match a, b with
    | .n i, .n j => some (.n (mx i j))
    | .p a1 a2, .p b1 b2 => match joinT a1 b1, joinT a2 b2 with
      | some x, some y => some (.p x y)
      | _, _ => none
    | _, _ => none
def hasT : T → T → Bool
  | .n i, .n j => decide (j < i)
  | .p a b, .p c d => hasT a c && hasT b d
  | _, _ => false
def topT : T → T
  | .n i => .n (mx 0 (i - 1))
  | .p a b => .p (topT a) (topT b)
/-- every number is positive -/
def Pos : T → Prop
  | .n i => 1 ≤ i
  | .p a b => Pos a ∧ Pos b
def Kd (t : T) : Prop := t = .n 0 ∨ Pos t
/-- of one shape -/
def sameT : T → T → Prop
  | .n _, .n _ => True
  | .p a b, .p c d => sameT a c ∧ sameT b d
  | _, _ => False
def fitsT (a b : T) : Bool := a.isZ || hasT b (topT a)
theorem Pos.nz {t : T} (h : Pos t) : t.isZ = false := by
  cases t with
  | n i =>
    have h1 : 1 ≤ i := h
    exact decide_eq_false (by omega)
  | p a b => rfl
theorem Kd.nz {a b : T} (h : Kd (.p a b)) : Pos a ∧ Pos b := by
  rcases h with h | h
  · cases h
  · exact h
theorem sameT.dep : ∀ {a b : T}, sameT a b → a.dep = b.dep
  | .n _, .n _, _ => rfl
  | .p a b, .p c d, h => by
    show 1 + max a.dep b.dep = 1 + max c.dep d.dep
    rw [h.1.dep, h.2.dep]
  | .n _, .p _ _, h => h.elim
  | .p _ _, .n _, h => h.elim
theorem topT.same : ∀ a : T, sameT a (topT a)
  | .n _ => True.intro
  | .p a b => ⟨topT.same a, topT.same b⟩
theorem mx_le {i j : Int} : i ≤ mx i j ∧ j ≤ mx i j := by unfold mx; split <;> omega
theorem joinT_ok : ∀ {a b c : T}, Kd a → Kd b → joinT a b = some c → Kd c ∧ c.dep ≤ max a.dep b.dep := by
  intro a
  induction a with
  | n i =>
    intro b c ha hb h
    unfold joinT at h
    split at h
    · cases h
      exact ⟨hb, Nat.le_max_right _ _⟩
    · split at h
      · cases h
        exact ⟨ha, Nat.le_max_left _ _⟩
      · rename_i hz _
        cases b with
        | n j =>
          cases h
          refine ⟨.inr ?_, Nat.zero_le _⟩
          have h1 : i ≠ 0 := fun e => hz (decide_eq_true e)
          rcases ha with ha | ha
          · cases ha; exact absurd rfl h1
          · have h2 : 1 ≤ i := ha
            have := (mx_le (i := i) (j := j)).1
            show 1 ≤ mx i j
            omega
        | p _ _ => cases h
  | p a1 a2 ih1 ih2 =>
    intro b c ha hb h
    unfold joinT at h
    rw [if_neg (show ¬ (T.p a1 a2).isZ = true from fun z => Bool.noConfusion (show false = true from z))] at h
    split at h
    · cases h
      exact ⟨ha, Nat.le_max_left _ _⟩
    · cases b with
      | n j => cases h
      | p b1 b2 =>
        obtain ⟨pa1, pa2⟩ := ha.nz
        obtain ⟨pb1, pb2⟩ := hb.nz
        have h' : (match joinT a1 b1, joinT a2 b2 with | some x, some y => some (T.p x y) | _, _ => none) = some c := h
        cases e1 : joinT a1 b1 with
        | none => rw [e1] at h'; cases h'
        | some x =>
          cases e2 : joinT a2 b2 with
          | none => rw [e1, e2] at h'; cases h'
          | some y =>
            rw [e1, e2] at h'
            cases h'
            obtain ⟨k1, d1⟩ := ih1 (.inr pa1) (.inr pb1) e1
            obtain ⟨k2, d2⟩ := ih2 (.inr pa2) (.inr pb2) e2
            have nz : ∀ {u v w : T}, Pos u → Pos v → joinT u v = some w → w ≠ .n 0 := by
              intro u v w hu hv h e
              subst e
              unfold joinT at h
              rw [hu.nz, hv.nz] at h
              cases u with
              | n i =>
                cases v with
                | n j =>
                  have e : mx i j = 0 := by
                    have h2 : some (T.n (mx i j)) = some (T.n 0) := h
                    injection h2 with h2
                    injection h2
                  have h1 : 1 ≤ i := hu
                  have := (mx_le (i := i) (j := j)).1
                  omega
                | p _ _ => cases h
              | p u1 u2 =>
                cases v with
                | n j => cases h
                | p v1 v2 =>
                  have h' : (match joinT u1 v1, joinT u2 v2 with | some x, some y => some (T.p x y) | _, _ => none) = some (.n 0) := h
                  split at h' <;> cases h'
            have q1 : Pos x := k1.resolve_left (nz pa1 pb1 e1)
            have q2 : Pos y := k2.resolve_left (nz pa2 pb2 e2)
            refine ⟨.inr ⟨q1, q2⟩, ?_⟩
            show 1 + max x.dep y.dep ≤ max (1 + max a1.dep a2.dep) (1 + max b1.dep b2.dep)
            omega
/-! ### the promises -/
def S_joined (n : Nat) : DSp := fun ds M Φ _ => ∃ a b : T, ds = [a.D, b.D] ∧ a.dep < n ∧ b.dep < n ∧ n ≤ 50 ∧ Φ (oD (joinT a b)) M
def S_fits (n : Nat) : DSp := fun ds M Φ _ => ∃ a b : T, ds = [a.D, b.D] ∧ a.dep < n ∧ b.dep < n ∧ n ≤ 50 ∧ Kd a ∧ Φ (.bl (fitsT a b)) M
def S_has (n : Nat) : DSp := fun ds M Φ _ => ∃ a b : T, ds = [a.D, b.D] ∧ a.dep < n ∧ b.dep < n ∧ n ≤ 50 ∧ Φ (.bl (hasT a b)) M
def S_law_equal (n : Nat) : DSp := fun ds M Φ _ => ∃ x : Option T, ds = [oD x, oD x] ∧ (∀ t, x = some t → t.dep < n) ∧ 0 < n ∧ n ≤ 50 ∧ Φ (.bl true) M
def S_law_says : DSp := fun ds M Φ _ => ∃ b : Bool, ds = [.bl b, .bl b] ∧ Φ (.bl true) M
/-- a row of numbers -/
def Row (ns : List Int) (k : Nat) : Prop := ns.length = k ∧ ∀ r ∈ ns, 0 ≤ r ∧ r < 1000
def rowD (ns : List Int) : D := .lst (ns.map .int)
def S_law_kind (n : Nat) : DSp := fun ds M Φ _ => ∃ (sh nu : List Int) (pl dp mo : Int), ds = [rowD sh, rowD nu, .int pl, .int dp, .int mo] ∧ Row sh 32 ∧ Row nu 32 ∧ 0 ≤ dp ∧ dp < n ∧ n ≤ 20 ∧ 1 ≤ pl ∧ (pl + 1) * 2 ^ dp.toNat ≤ 32 ∧ 1 ≤ mo ∧ ∀ t : T, Pos t → (t.dep : Int) ≤ dp → Φ t.D M
def S_law_near (n : Nat) : DSp := fun ds M Φ _ => ∃ (t : T) (nu : List Int) (pl : Int) (me : List Int), ds = [t.D, rowD nu, .int pl, rowD me] ∧ Row nu 32 ∧ me ≠ [] ∧ me.length ≤ 20 ∧ t.dep < n ∧ n ≤ 20 ∧ 1 ≤ pl ∧ (pl + 1) * 2 ^ t.dep ≤ 32 ∧ ∀ u : T, Pos u → u.dep = t.dep → Φ u.D M
def S_law_exchanged (n : Nat) : DSp := fun ds M Φ _ => ∃ (t : T) (nu : List Int) (lv : Int), ds = [t.D, rowD nu, .int lv] ∧ Row nu 32 ∧ t.dep < n ∧ n ≤ 20 ∧ 0 ≤ lv ∧ (t.dep : Int) + lv ≤ 4 ∧ ∀ u : T, (Kd t → Pos u) → (u.dep : Int) + lv ≤ 4 → Φ u.D M
def S_law_join (n : Nat) : DSp := S_joined n
def S_law_has (n : Nat) : DSp := S_has n
def S_law_top (n : Nat) : DSp := fun ds M Φ _ => ∃ t : T, ds = [t.D] ∧ t.dep < n ∧ n ≤ 50 ∧ Φ (topT t).D M
def S_law_fits : DSp := fun ds M Φ _ => ∃ a b : T, ds = [a.D, b.D] ∧ a.dep ≤ 5 ∧ b.dep ≤ 5 ∧ Φ (.bl (fitsT a b)) M
def S_law_value (n : Nat) : DSp := fun ds M Φ _ => ∃ (t : T) (nu : List Int) (pl : Int), ds = [t.D, rowD nu, .int pl] ∧ Row nu 32 ∧ t.dep < n ∧ n ≤ 20 ∧ 1 ≤ pl ∧ (pl + 1) * 2 ^ t.dep ≤ 32 ∧ ∀ u : T, sameT t u → Φ u.D M
def S_law_beyond (n : Nat) : DSp := fun ds M Φ _ => ∃ (t v : T) (nu : List Int) (lv : Int), ds = [t.D, v.D, rowD nu, .int lv] ∧ sameT t v ∧ Row nu 32 ∧ t.dep < n ∧ n ≤ 20 ∧ 0 ≤ lv ∧ (t.dep : Int) + lv ≤ 4 ∧ ∀ u : T, u.dep ≤ t.dep → Φ u.D M
def tsD (ts : List T) : List D := ts.map T.D
def S_law_kinds : DSp := fun ds M Φ _ => ∃ ns : List Int, ds = [.scr ns] ∧ ∀ (ks : List T) (p : Addr), ks.length = 5 → (∀ k ∈ ks, Kd k ∧ k.dep ≤ 4) → M p = none → Φ (.ref p) (updM M p (.lst (tsD ks)))
def S_law_values : DSp := fun ds M Φ _ => ∃ (ns : List Int) (p : Addr) (ks : List T), ds = [.scr ns, .ref p] ∧ M p = some (.lst (tsD ks)) ∧ ks.length = 5 ∧ (∀ k ∈ ks, k.dep ≤ 4) ∧ ∀ vs : List T, (∀ v ∈ vs, v.dep ≤ 4) → Φ (.lst (tsD vs)) M
abbrev S_law := lawSp
theorem ar_joined (n) : Arity (S_joined n) 2 := by rintro ds M Φ Ψ ⟨_, _, rfl, _⟩; rfl
theorem ar_fits (n) : Arity (S_fits n) 2 := by rintro ds M Φ Ψ ⟨_, _, rfl, _⟩; rfl
theorem ar_has (n) : Arity (S_has n) 2 := by rintro ds M Φ Ψ ⟨_, _, rfl, _⟩; rfl
theorem ar_law_equal (n) : Arity (S_law_equal n) 2 := by rintro ds M Φ Ψ ⟨_, rfl, _⟩; rfl
theorem ar_law_says : Arity S_law_says 2 := by rintro ds M Φ Ψ ⟨_, rfl, _⟩; rfl
theorem ar_law_kind (n) : Arity (S_law_kind n) 5 := by rintro ds M Φ Ψ ⟨_, _, _, _, _, rfl, _⟩; rfl
theorem ar_law_near (n) : Arity (S_law_near n) 4 := by rintro ds M Φ Ψ ⟨_, _, _, _, rfl, _⟩; rfl
theorem ar_law_exchanged (n) : Arity (S_law_exchanged n) 3 := by rintro ds M Φ Ψ ⟨_, _, _, rfl, _⟩; rfl
theorem ar_law_join (n) : Arity (S_law_join n) 2 := ar_joined n
theorem ar_law_has (n) : Arity (S_law_has n) 2 := ar_has n
theorem ar_law_top (n) : Arity (S_law_top n) 1 := by rintro ds M Φ Ψ ⟨_, rfl, _⟩; rfl
theorem ar_law_fits : Arity S_law_fits 2 := by rintro ds M Φ Ψ ⟨_, _, rfl, _⟩; rfl
theorem ar_law_value (n) : Arity (S_law_value n) 3 := by rintro ds M Φ Ψ ⟨_, _, _, rfl, _⟩; rfl
theorem ar_law_beyond (n) : Arity (S_law_beyond n) 4 := by rintro ds M Φ Ψ ⟨_, _, _, _, rfl, _⟩; rfl
theorem ar_law_kinds : Arity S_law_kinds 1 := by rintro ds M Φ Ψ ⟨_, rfl, _⟩; rfl
theorem ar_law_values : Arity S_law_values 2 := by rintro ds M Φ Ψ ⟨_, _, _, rfl, _⟩; rfl
theorem ar_law : Arity S_law 1 := by rintro ds M Φ Ψ ⟨_, rfl, _⟩; rfl
theorem nv_joined : ∀ ds M Φ Ψ, ¬ S_joined 0 ds M Φ Ψ := by rintro ds M Φ Ψ ⟨_, _, _, h, _⟩; omega
theorem nv_fits : ∀ ds M Φ Ψ, ¬ S_fits 0 ds M Φ Ψ := by rintro ds M Φ Ψ ⟨_, _, _, h, _⟩; omega
theorem nv_has : ∀ ds M Φ Ψ, ¬ S_has 0 ds M Φ Ψ := by rintro ds M Φ Ψ ⟨_, _, _, h, _⟩; omega
theorem nv_law_equal : ∀ ds M Φ Ψ, ¬ S_law_equal 0 ds M Φ Ψ := by rintro ds M Φ Ψ ⟨_, _, _, h, _⟩; omega
theorem nv_law_kind : ∀ ds M Φ Ψ, ¬ S_law_kind 0 ds M Φ Ψ := by rintro ds M Φ Ψ ⟨_, _, _, _, _, _, _, _, h, h2, _⟩; omega
theorem nv_law_near : ∀ ds M Φ Ψ, ¬ S_law_near 0 ds M Φ Ψ := by rintro ds M Φ Ψ ⟨_, _, _, _, _, _, _, _, h, _⟩; omega
theorem nv_law_exchanged : ∀ ds M Φ Ψ, ¬ S_law_exchanged 0 ds M Φ Ψ := by rintro ds M Φ Ψ ⟨_, _, _, _, _, h, _⟩; omega
theorem nv_law_join : ∀ ds M Φ Ψ, ¬ S_law_join 0 ds M Φ Ψ := nv_joined
theorem nv_law_has : ∀ ds M Φ Ψ, ¬ S_law_has 0 ds M Φ Ψ := nv_has
theorem nv_law_top : ∀ ds M Φ Ψ, ¬ S_law_top 0 ds M Φ Ψ := by rintro ds M Φ Ψ ⟨_, _, h, _⟩; omega
theorem nv_law_value : ∀ ds M Φ Ψ, ¬ S_law_value 0 ds M Φ Ψ := by rintro ds M Φ Ψ ⟨_, _, _, _, _, h, _⟩; omega
theorem nv_law_beyond : ∀ ds M Φ Ψ, ¬ S_law_beyond 0 ds M Φ Ψ := by rintro ds M Φ Ψ ⟨_, _, _, _, _, _, _, h, _⟩; omega
/-! joined: slots 0 one 1 other 2 left 3 right -/
def r_joined_5 (n : Nat) : RS := (dRet (dIf (dOr (dTest (dOp dIsN (dVar 2) (dC .non))) (dTest (dOp dIsN (dVar 3) (dC .non)))) (dC .non) (dTup (dCons (dVar 2) (dCons (dVar 3) dNil)))))
def r_joined_4 (n : Nat) : RS := dSeq (dSet 3 (dCall (S_joined n) (dCons (dOp dIx (dVar 0) (dC (.int 1))) (dCons (dOp dIx (dVar 1) (dC (.int 1))) dNil)))) (r_joined_5 n)
def r_joined_3 (n : Nat) : RS := dSeq (dSet 2 (dCall (S_joined n) (dCons (dOp dIx (dVar 0) (dC (.int 0))) (dCons (dOp dIx (dVar 1) (dC (.int 0))) dNil)))) (r_joined_4 n)
def r_joined_2 (n : Nat) : RS := dSeq (dIfS (dNot (dTruth (dIsi "tuple" (dVar 0)))) (dRet (dCB (dI2 fun i j => .int (if j > i then j else i)) (dCons (dVar 0) (dCons (dVar 1) dNil)))) dNext) (r_joined_3 n)
def r_joined_1 (n : Nat) : RS := dSeq (dIfS (dTest (dOp dNeA (dIsi "tuple" (dVar 0)) (dIsi "tuple" (dVar 1)))) (dRet (dC .non)) dNext) (r_joined_2 n)
def r_joined (n : Nat) : RS := dSeq (dIfS (dOr (dTest (dOp dEqA (dVar 0) (dC (.int 0)))) (dTest (dOp dEqA (dVar 1) (dC (.int 0))))) (dRet (dIf (dTest (dOp dEqA (dVar 0) (dC (.int 0)))) (dVar 1) (dVar 0))) dNext) (r_joined_1 n)

/-! fits: slots 0 kind 1 other -/
def r_fits_3 (n : Nat) : RS := (dRet (dAndV (dCall (S_fits n) (dCons (dOp dIx (dVar 0) (dC (.int 0))) (dCons (dOp dIx (dVar 1) (dC (.int 0))) dNil))) (dCall (S_fits n) (dCons (dOp dIx (dVar 0) (dC (.int 1))) (dCons (dOp dIx (dVar 1) (dC (.int 1))) dNil)))))
def r_fits_2 (n : Nat) : RS := dSeq (dIfS (dNot (dTruth (dIsi "tuple" (dVar 0)))) (dRet (dOp dLe (dVar 0) (dVar 1))) dNext) (r_fits_3 n)
def r_fits_1 (n : Nat) : RS := dSeq (dIfS (dTest (dOp dNeA (dIsi "tuple" (dVar 0)) (dIsi "tuple" (dVar 1)))) (dRet (dC (.bl false))) dNext) (r_fits_2 n)
def r_fits (n : Nat) : RS := dSeq (dIfS (dTest (dOp dEqA (dVar 0) (dC (.int 0)))) (dRet (dC (.bl true))) dNext) (r_fits_1 n)

/-! has: slots 0 kind 1 value -/
def r_has_2 (n : Nat) : RS := (dRet (dAndV (dCall (S_has n) (dCons (dOp dIx (dVar 0) (dC (.int 0))) (dCons (dOp dIx (dVar 1) (dC (.int 0))) dNil))) (dCall (S_has n) (dCons (dOp dIx (dVar 0) (dC (.int 1))) (dCons (dOp dIx (dVar 1) (dC (.int 1))) dNil)))))
def r_has_1 (n : Nat) : RS := dSeq (dIfS (dNot (dTruth (dIsi "tuple" (dVar 0)))) (dRet (dOp dLt (dVar 1) (dVar 0))) dNext) (r_has_2 n)
def r_has (n : Nat) : RS := dSeq (dIfS (dTest (dOp dNeA (dIsi "tuple" (dVar 0)) (dIsi "tuple" (dVar 1)))) (dRet (dC (.bl false))) dNext) (r_has_1 n)

/-! _law_equal: slots 0 _law_told 1 _law_due 2 _law_at -/
def b_law_equal_6 (n : Nat) : RS := (dIfS (dNot (dTruth (dCall (S_law_equal n) (dCons (dOp dIx (dVar 0) (dVar 2)) (dCons (dOp dIx (dVar 1) (dVar 2)) dNil))))) (dRet (dC (.bl false))) dNext)
def r_law_equal_4 (n : Nat) : RS := (dRet (dAndV (dOp dIsN (dVar 0) (dC .non)) (dOp dIsN (dVar 1) (dC .non))))
def r_law_equal_3 (n : Nat) : RS := dSeq (dIfS (dTruth (dIsi "str" (dVar 1))) (dRet (dAndV (dIsi "str" (dVar 0)) (dOp dEqA (dVar 0) (dVar 1)))) dNext) (r_law_equal_4 n)
def r_law_equal_2 (n : Nat) : RS := dSeq (dIfS (dTruth (dIsi "int" (dVar 1))) (dRet (dAndV (dIsi "int" (dVar 0)) (dOp dEqA (dVar 0) (dVar 1)))) dNext) (r_law_equal_3 n)
def r_law_equal_1 (n : Nat) : RS := dSeq (dIfS (dOr (dTruth (dIsi "bool" (dVar 1))) (dTruth (dIsi "bool" (dVar 0)))) (dRet (dAndV (dIsi "bool" (dVar 1)) (dAndV (dIsi "bool" (dVar 0)) (dOp dEqA (dVar 0) (dVar 1))))) dNext) (r_law_equal_2 n)
def r_law_equal (n : Nat) : RS := dSeq (dIfS (dOr (dTruth (dIsi "tuple" (dVar 1))) (dTruth (dIsi "list" (dVar 1)))) (dSeq (dIfS (dOr (dTest (dOp dNeA (dIsi "tuple" (dVar 1)) (dIsi "tuple" (dVar 0)))) (dTest (dOp dNeA (dIsi "list" (dVar 1)) (dIsi "list" (dVar 0))))) (dRet (dC (.bl false))) dNext)
    (dSeq (dIfS (dTest (dOp dNeA (dCB dLen (dCons (dVar 0) dNil)) (dCB dLen (dCons (dVar 1) dNil)))) (dRet (dC (.bl false))) dNext)
    (dSeq (dForR 2 [2] (dCB dLen (dCons (dVar 1) dNil)) (b_law_equal_6 n))
    (dRet (dC (.bl true)))))) dNext) (r_law_equal_1 n)

/-! _law_says: slots 0 _law_told 1 _law_due -/
def r_law_says_1 : RS := (dRet (dOp dIsB (dVar 0) (dC (.bl false))))
def r_law_says : RS := dSeq (dIfS (dTruth (dVar 1)) (dRet (dOp dIsB (dVar 0) (dC (.bl true)))) dNext) r_law_says_1

/-! _law_kind: slots 0 _law_shapes 1 _law_numbers 2 _law_place 3 _law_deep 4 _law_most 5 _law_first -/
def r_law_kind_1 (n : Nat) : RS := (dRet (dOp dAdd (dC (.int 1)) (dOp (dIC (fun _ j => 0 < j) fun i j => .int (i % j)) (dCB dInt (dCons (dOp dIx (dVar 1) (dVar 2)) dNil)) (dVar 4))))
def r_law_kind (n : Nat) : RS := dSeq (dIfS (dAnd (dTest (dOp dGt (dVar 3) (dC (.int 0)))) (dTest (dOp dGt (dOp (dIC (fun _ j => 0 < j) fun i j => .int (i % j)) (dCB dInt (dCons (dOp dIx (dVar 0) (dVar 2)) dNil)) (dC (.int 4))) (dC (.int 0))))) (dSeq (dSet 5 (dCall (S_law_kind n) (dCons (dVar 0) (dCons (dVar 1) (dCons (dOp (dIC CMulA fun i j => .int (i * j)) (dC (.int 2)) (dVar 2)) (dCons (dOp (dI fun i j => .int (i - j)) (dVar 3) (dC (.int 1))) (dCons (dVar 4) dNil)))))))
    (dRet (dTup (dCons (dVar 5) (dCons (dCall (S_law_kind n) (dCons (dVar 0) (dCons (dVar 1) (dCons (dOp dAdd (dOp (dIC CMulA fun i j => .int (i * j)) (dC (.int 2)) (dVar 2)) (dC (.int 1))) (dCons (dOp (dI fun i j => .int (i - j)) (dVar 3) (dC (.int 1))) (dCons (dVar 4) dNil)))))) dNil))))) dNext) (r_law_kind_1 n)

/-! _law_near: slots 0 _law_kind_here 1 _law_numbers 2 _law_place 3 _law_menu 4 _law_first -/
def r_law_near_1 (n : Nat) : RS := (dRet (dCB (dI2 fun i j => .int (if j > i then j else i)) (dCons (dC (.int 1)) (dCons (dCB (dI2 fun i j => .int (if j < i then j else i)) (dCons (dC (.int 999)) (dCons (dOp dAdd (dVar 0) (dOp dIx (dVar 3) (dOp (dIC (fun _ j => 0 < j) fun i j => .int (i % j)) (dCB dInt (dCons (dOp dIx (dVar 1) (dVar 2)) dNil)) (dCB dLen (dCons (dVar 3) dNil))))) dNil))) dNil))))
def r_law_near (n : Nat) : RS := dSeq (dIfS (dTruth (dIsi "tuple" (dVar 0))) (dSeq (dSet 4 (dCall (S_law_near n) (dCons (dOp dIx (dVar 0) (dC (.int 0))) (dCons (dVar 1) (dCons (dOp (dIC CMulA fun i j => .int (i * j)) (dC (.int 2)) (dVar 2)) (dCons (dVar 3) dNil))))))
    (dRet (dTup (dCons (dVar 4) (dCons (dCall (S_law_near n) (dCons (dOp dIx (dVar 0) (dC (.int 1))) (dCons (dVar 1) (dCons (dOp dAdd (dOp (dIC CMulA fun i j => .int (i * j)) (dC (.int 2)) (dVar 2)) (dC (.int 1))) (dCons (dVar 3) dNil))))) dNil))))) dNext) (r_law_near_1 n)

/-! _law_exchanged: slots 0 _law_kind_here 1 _law_row_here 2 _law_level 3 _law_way 4 _law_part -/
def r_law_exchanged_2 (n : Nat) : RS := (dRet (dCB (dI2 fun i j => .int (if j > i then j else i)) (dCons (dC (.int 1)) (dCons (dOp (dI fun i j => .int (i - j)) (dVar 0) (dC (.int 1))) dNil))))
def r_law_exchanged_1 (n : Nat) : RS := dSeq (dIfS (dTest (dOp dLt (dVar 2) (dC (.int 4)))) (dRet (dTup (dCons (dCB (dI2 fun i j => .int (if j > i then j else i)) (dCons (dC (.int 1)) (dCons (dVar 0) dNil))) (dCons (dOp dAdd (dC (.int 1)) (dOp (dIC (fun _ j => 0 < j) fun i j => .int (i % j)) (dCB dInt (dCons (dOp dIx (dVar 1) (dC (.int 4))) dNil)) (dC (.int 5)))) dNil)))) dNext) (r_law_exchanged_2 n)
def r_law_exchanged (n : Nat) : RS := dSeq (dIfS (dTruth (dIsi "tuple" (dVar 0))) (dSeq (dIfS (dTest (dOp dEqA (dOp (dIC (fun _ j => 0 < j) fun i j => .int (i % j)) (dOp dIx (dVar 1) (dVar 2)) (dC (.int 4))) (dC (.int 0)))) (dRet (dOp dAdd (dC (.int 1)) (dOp (dIC (fun _ j => 0 < j) fun i j => .int (i % j)) (dCB dInt (dCons (dOp dIx (dVar 1) (dC (.int 4))) dNil)) (dC (.int 5))))) dNext)
    (dSeq (dSet 3 (dOp (dIC (fun _ j => 0 < j) fun i j => .int (i % j)) (dOp (dIC CDivA fun i j => .int (i / j)) (dCB dInt (dCons (dOp dIx (dVar 1) (dVar 2)) dNil)) (dC (.int 4))) (dC (.int 2))))
    (dSeq (dSet 4 (dCall (S_law_exchanged n) (dCons (dOp dIx (dVar 0) (dVar 3)) (dCons (dVar 1) (dCons (dOp dAdd (dVar 2) (dC (.int 1))) dNil)))))
    (dSeq (dIfS (dTest (dOp dEqA (dVar 3) (dC (.int 0)))) (dRet (dTup (dCons (dVar 4) (dCons (dOp dIx (dVar 0) (dC (.int 1))) dNil)))) dNext)
    (dRet (dTup (dCons (dOp dIx (dVar 0) (dC (.int 0))) (dCons (dVar 4) dNil)))))))) dNext) (r_law_exchanged_1 n)

/-! _law_join: slots 0 _law_one 1 _law_other 2 _law_first 3 _law_second -/
def r_law_join_4 (n : Nat) : RS := (dRet (dCB (dI2 fun i j => .int (if j > i then j else i)) (dCons (dVar 0) (dCons (dVar 1) dNil))))
def r_law_join_3 (n : Nat) : RS := dSeq (dIfS (dOr (dTruth (dIsi "tuple" (dVar 0))) (dTruth (dIsi "tuple" (dVar 1)))) (dRet (dC .non)) dNext) (r_law_join_4 n)
def r_law_join_2 (n : Nat) : RS := dSeq (dIfS (dAnd (dTruth (dIsi "tuple" (dVar 0))) (dTruth (dIsi "tuple" (dVar 1)))) (dSeq (dSet 2 (dCall (S_law_join n) (dCons (dOp dIx (dVar 0) (dC (.int 0))) (dCons (dOp dIx (dVar 1) (dC (.int 0))) dNil))))
    (dSeq (dSet 3 (dCall (S_law_join n) (dCons (dOp dIx (dVar 0) (dC (.int 1))) (dCons (dOp dIx (dVar 1) (dC (.int 1))) dNil))))
    (dSeq (dIfS (dOr (dTest (dOp dIsN (dVar 2) (dC .non))) (dTest (dOp dIsN (dVar 3) (dC .non)))) (dRet (dC .non)) dNext)
    (dRet (dTup (dCons (dVar 2) (dCons (dVar 3) dNil))))))) dNext) (r_law_join_3 n)
def r_law_join_1 (n : Nat) : RS := dSeq (dIfS (dTest (dOp dEqA (dVar 1) (dC (.int 0)))) (dRet (dVar 0)) dNext) (r_law_join_2 n)
def r_law_join (n : Nat) : RS := dSeq (dIfS (dTest (dOp dEqA (dVar 0) (dC (.int 0)))) (dRet (dVar 1)) dNext) (r_law_join_1 n)

/-! _law_has: slots 0 _law_kind_here 1 _law_value_here -/
def r_law_has_2 (n : Nat) : RS := (dRet (dOp dLt (dVar 1) (dVar 0)))
def r_law_has_1 (n : Nat) : RS := dSeq (dIfS (dOr (dTruth (dIsi "tuple" (dVar 0))) (dTruth (dIsi "tuple" (dVar 1)))) (dRet (dC (.bl false))) dNext) (r_law_has_2 n)
def r_law_has (n : Nat) : RS := dSeq (dIfS (dAnd (dTruth (dIsi "tuple" (dVar 0))) (dTruth (dIsi "tuple" (dVar 1)))) (dRet (dAndV (dCall (S_law_has n) (dCons (dOp dIx (dVar 0) (dC (.int 0))) (dCons (dOp dIx (dVar 1) (dC (.int 0))) dNil))) (dCall (S_law_has n) (dCons (dOp dIx (dVar 0) (dC (.int 1))) (dCons (dOp dIx (dVar 1) (dC (.int 1))) dNil))))) dNext) (r_law_has_1 n)

/-! _law_top: slots 0 _law_kind_here -/
def r_law_top_1 (n : Nat) : RS := (dRet (dCB (dI2 fun i j => .int (if j > i then j else i)) (dCons (dC (.int 0)) (dCons (dOp (dI fun i j => .int (i - j)) (dVar 0) (dC (.int 1))) dNil))))
def r_law_top (n : Nat) : RS := dSeq (dIfS (dTruth (dIsi "tuple" (dVar 0))) (dRet (dTup (dCons (dCall (S_law_top n) (dCons (dOp dIx (dVar 0) (dC (.int 0))) dNil)) (dCons (dCall (S_law_top n) (dCons (dOp dIx (dVar 0) (dC (.int 1))) dNil)) dNil)))) dNext) (r_law_top_1 n)

/-! _law_fits: slots 0 _law_one 1 _law_other -/
def r_law_fits_1 : RS := (dRet (dCall (S_law_has 8) (dCons (dVar 1) (dCons (dCall (S_law_top 6) (dCons (dVar 0) dNil)) dNil))))
def r_law_fits : RS := dSeq (dIfS (dTest (dOp dEqA (dVar 0) (dC (.int 0)))) (dRet (dC (.bl true))) dNext) r_law_fits_1

/-! _law_value: slots 0 _law_kind_here 1 _law_numbers 2 _law_place -/
def r_law_value_1 (n : Nat) : RS := (dRet (dOp (dIC (fun _ j => 0 < j) fun i j => .int (i % j)) (dCB dInt (dCons (dOp dIx (dVar 1) (dVar 2)) dNil)) (dCB (dI2 fun i j => .int (if j > i then j else i)) (dCons (dC (.int 1)) (dCons (dVar 0) dNil)))))
def r_law_value (n : Nat) : RS := dSeq (dIfS (dTruth (dIsi "tuple" (dVar 0))) (dRet (dTup (dCons (dCall (S_law_value n) (dCons (dOp dIx (dVar 0) (dC (.int 0))) (dCons (dVar 1) (dCons (dOp (dIC CMulA fun i j => .int (i * j)) (dC (.int 2)) (dVar 2)) dNil)))) (dCons (dCall (S_law_value n) (dCons (dOp dIx (dVar 0) (dC (.int 1))) (dCons (dVar 1) (dCons (dOp dAdd (dOp (dIC CMulA fun i j => .int (i * j)) (dC (.int 2)) (dVar 2)) (dC (.int 1))) dNil)))) dNil)))) dNext) (r_law_value_1 n)

/-! _law_beyond: slots 0 _law_kind_here 1 _law_value_here 2 _law_row_here 3 _law_level 4 _law_way 5 _law_part -/
def r_law_beyond_1 (n : Nat) : RS := (dRet (dVar 0))
def r_law_beyond (n : Nat) : RS := dSeq (dIfS (dTruth (dIsi "tuple" (dVar 0))) (dSeq (dSet 4 (dOp (dIC (fun _ j => 0 < j) fun i j => .int (i % j)) (dCB dInt (dCons (dOp dIx (dVar 2) (dVar 3)) dNil)) (dC (.int 2))))
    (dSeq (dSet 5 (dCall (S_law_beyond n) (dCons (dOp dIx (dVar 0) (dVar 4)) (dCons (dOp dIx (dVar 1) (dVar 4)) (dCons (dVar 2) (dCons (dOp dAdd (dVar 3) (dC (.int 1))) dNil))))))
    (dSeq (dIfS (dTest (dOp dEqA (dVar 4) (dC (.int 0)))) (dRet (dTup (dCons (dVar 5) (dCons (dOp dIx (dVar 1) (dC (.int 1))) dNil)))) dNext)
    (dRet (dTup (dCons (dOp dIx (dVar 1) (dC (.int 0))) (dCons (dVar 5) dNil))))))) dNext) (r_law_beyond_1 n)

/-! _law_kinds: slots 0 _law_script 1 _law_row_here 2 _law_most 3 _law_a 4 _law_numbers 5 _law_b 6 _law_c 7 _law_both -/
def r_law_kinds_15 : RS := (dRet (dNewM (dCons (dVar 3) (dCons (dVar 5) (dCons (dVar 6) (dCons (dCall (S_law_near 6) (dCons (dVar 3) (dCons (dVar 4) (dCons (dC (.int 1)) (dCons (dFz (dCons (dC (.int 0)) (dCons (dC (.int 0)) (dCons (dC (.int 1)) (dCons (dNeg (dC (.int 1))) dNil))))) dNil))))) (dCons (dCall (S_law_exchanged 6) (dCons (dVar 3) (dCons (dVar 4) (dCons (dC (.int 0)) dNil)))) dNil)))))))
def r_law_kinds_14 : RS := dSeq (dSet 4 (dCall S_law_row (dCons (dVar 0) (dCons (dC (.int 7)) (dCons (dC (.int 32)) dNil))))) r_law_kinds_15
def r_law_kinds_13 : RS := dSeq (dIfS (dOr (dTest (dOp dEqA (dOp (dIC (fun _ j => 0 < j) fun i j => .int (i % j)) (dOp dIx (dVar 1) (dC (.int 6))) (dC (.int 6))) (dC (.int 1)))) (dTest (dOp dEqA (dOp (dIC (fun _ j => 0 < j) fun i j => .int (i % j)) (dOp dIx (dVar 1) (dC (.int 6))) (dC (.int 6))) (dC (.int 2))))) (dSet 6 (dCall (S_law_near 6) (dCons (dVar 7) (dCons (dVar 4) (dCons (dC (.int 1)) (dCons (dFz (dCons (dC (.int 0)) (dCons (dC (.int 0)) (dCons (dC (.int 1)) dNil)))) dNil)))))) (dIfS (dTest (dOp dEqA (dOp (dIC (fun _ j => 0 < j) fun i j => .int (i % j)) (dOp dIx (dVar 1) (dC (.int 6))) (dC (.int 6))) (dC (.int 3)))) (dSet 6 (dCall (S_law_near 6) (dCons (dVar 7) (dCons (dVar 4) (dCons (dC (.int 1)) (dCons (dFz (dCons (dC (.int 0)) (dCons (dC (.int 0)) (dCons (dC (.int 0)) (dCons (dC (.int 0)) (dCons (dC (.int 0)) (dCons (dC (.int 0)) (dCons (dC (.int 0)) (dCons (dNeg (dC (.int 1))) dNil))))))))) dNil)))))) (dIfS (dTest (dOp dEqA (dOp (dIC (fun _ j => 0 < j) fun i j => .int (i % j)) (dOp dIx (dVar 1) (dC (.int 6))) (dC (.int 6))) (dC (.int 4)))) (dSet 6 (dCall (S_law_exchanged 6) (dCons (dVar 7) (dCons (dVar 4) (dCons (dC (.int 0)) dNil))))) (dIfS (dTest (dOp dEqA (dOp (dIC (fun _ j => 0 < j) fun i j => .int (i % j)) (dOp dIx (dVar 1) (dC (.int 6))) (dC (.int 6))) (dC (.int 5)))) (dSet 6 (dCall (S_law_near 6) (dCons (dVar 5) (dCons (dVar 4) (dCons (dC (.int 1)) (dCons (dFz (dCons (dC (.int 0)) (dCons (dC (.int 1)) (dCons (dNeg (dC (.int 1))) dNil)))) dNil)))))) dNext)))) r_law_kinds_14
def r_law_kinds_12 : RS := dSeq (dIfS (dTest (dOp dIsN (dVar 7) (dC .non))) (dSet 7 (dVar 3)) dNext) r_law_kinds_13
def r_law_kinds_11 : RS := dSeq (dSet 7 (dCall (S_law_join 6) (dCons (dVar 3) (dCons (dVar 5) dNil)))) r_law_kinds_12
def r_law_kinds_10 : RS := dSeq (dSet 6 (dCall (S_law_kind 6) (dCons (dCall S_law_row (dCons (dVar 0) (dCons (dC (.int 5)) (dCons (dC (.int 32)) dNil)))) (dCons (dVar 4) (dCons (dC (.int 1)) (dCons (dC (.int 4)) (dCons (dVar 2) dNil))))))) r_law_kinds_11
def r_law_kinds_9 : RS := dSeq (dSet 4 (dCall S_law_row (dCons (dVar 0) (dCons (dC (.int 6)) (dCons (dC (.int 32)) dNil))))) r_law_kinds_10
def r_law_kinds_8 : RS := dSeq (dIfS (dTest (dOp dEqA (dOp (dIC (fun _ j => 0 < j) fun i j => .int (i % j)) (dOp dIx (dVar 1) (dC (.int 4))) (dC (.int 11))) (dC (.int 0)))) (dSet 5 (dOp (dIC CMulA fun i j => .int (i * j)) (dCB dInt (dCons (dOp dIx (dVar 1) (dC (.int 5))) dNil)) (dCB dInt (dCons (dOp dGt (dOp (dIC (fun _ j => 0 < j) fun i j => .int (i % j)) (dOp (dIC CDivA fun i j => .int (i / j)) (dOp dIx (dVar 1) (dC (.int 4))) (dC (.int 11))) (dC (.int 3))) (dC (.int 0))) dNil)))) dNext) r_law_kinds_9
def r_law_kinds_7 : RS := dSeq (dIfS (dTest (dOp dEqA (dOp (dIC (fun _ j => 0 < j) fun i j => .int (i % j)) (dOp dIx (dVar 1) (dC (.int 3))) (dC (.int 6))) (dC (.int 1)))) (dSet 5 (dVar 3)) (dIfS (dOr (dTest (dOp dEqA (dOp (dIC (fun _ j => 0 < j) fun i j => .int (i % j)) (dOp dIx (dVar 1) (dC (.int 3))) (dC (.int 6))) (dC (.int 2)))) (dTest (dOp dEqA (dOp (dIC (fun _ j => 0 < j) fun i j => .int (i % j)) (dOp dIx (dVar 1) (dC (.int 3))) (dC (.int 6))) (dC (.int 3))))) (dSet 5 (dCall (S_law_near 6) (dCons (dVar 3) (dCons (dVar 4) (dCons (dC (.int 1)) (dCons (dFz (dCons (dC (.int 0)) (dCons (dC (.int 0)) (dCons (dC (.int 0)) (dCons (dC (.int 1)) (dCons (dC (.int 0)) (dCons (dNeg (dC (.int 1))) dNil))))))) dNil)))))) (dIfS (dTest (dOp dEqA (dOp (dIC (fun _ j => 0 < j) fun i j => .int (i % j)) (dOp dIx (dVar 1) (dC (.int 3))) (dC (.int 6))) (dC (.int 4)))) (dSet 5 (dCall (S_law_exchanged 6) (dCons (dVar 3) (dCons (dVar 4) (dCons (dC (.int 0)) dNil))))) (dIfS (dTest (dOp dEqA (dOp (dIC (fun _ j => 0 < j) fun i j => .int (i % j)) (dOp dIx (dVar 1) (dC (.int 3))) (dC (.int 6))) (dC (.int 5)))) (dSet 5 (dCall (S_law_exchanged 6) (dCons (dCall (S_law_near 6) (dCons (dVar 3) (dCons (dVar 4) (dCons (dC (.int 1)) (dCons (dFz (dCons (dC (.int 0)) (dCons (dC (.int 1)) (dCons (dNeg (dC (.int 1))) dNil)))) dNil))))) (dCons (dVar 4) (dCons (dC (.int 0)) dNil))))) dNext)))) r_law_kinds_8
def r_law_kinds_6 : RS := dSeq (dSet 5 (dCall (S_law_kind 6) (dCons (dCall S_law_row (dCons (dVar 0) (dCons (dC (.int 3)) (dCons (dC (.int 32)) dNil)))) (dCons (dVar 4) (dCons (dC (.int 1)) (dCons (dC (.int 4)) (dCons (dVar 2) dNil))))))) r_law_kinds_7
def r_law_kinds_5 : RS := dSeq (dSet 4 (dCall S_law_row (dCons (dVar 0) (dCons (dC (.int 4)) (dCons (dC (.int 32)) dNil))))) r_law_kinds_6
def r_law_kinds_4 : RS := dSeq (dIfS (dTest (dOp dEqA (dOp (dIC (fun _ j => 0 < j) fun i j => .int (i % j)) (dOp dIx (dVar 1) (dC (.int 1))) (dC (.int 9))) (dC (.int 0)))) (dSet 3 (dCB dInt (dCons (dOp dIx (dVar 1) (dC (.int 2))) dNil))) dNext) r_law_kinds_5
def r_law_kinds_3 : RS := dSeq (dSet 3 (dCall (S_law_kind 6) (dCons (dCall S_law_row (dCons (dVar 0) (dCons (dC (.int 1)) (dCons (dC (.int 32)) dNil)))) (dCons (dCall S_law_row (dCons (dVar 0) (dCons (dC (.int 2)) (dCons (dC (.int 32)) dNil)))) (dCons (dC (.int 1)) (dCons (dC (.int 4)) (dCons (dVar 2) dNil))))))) r_law_kinds_4
def r_law_kinds_2 : RS := dSeq (dIfS (dTest (dOp dEqA (dOp (dIC (fun _ j => 0 < j) fun i j => .int (i % j)) (dOp dIx (dVar 1) (dC (.int 0))) (dC (.int 2))) (dC (.int 0)))) (dSet 2 (dC (.int 3))) dNext) r_law_kinds_3
def r_law_kinds_1 : RS := dSeq (dSet 2 (dC (.int 999))) r_law_kinds_2
def r_law_kinds : RS := dSeq (dSet 1 (dCall S_law_row (dCons (dVar 0) (dCons (dC (.int 0)) (dCons (dC (.int 9)) dNil))))) r_law_kinds_1

/-! _law_values: slots 0 _law_script 1 _law_kinds_here 2 _law_values_here 3 _law_at 4 _law_numbers 5 _law_value_here 6 _law_top_here -/
def b_law_values_2 : RS := (dSeq (dSet 4 (dCall S_law_row (dCons (dVar 0) (dCons (dOp dAdd (dC (.int 8)) (dVar 3)) (dCons (dC (.int 32)) dNil)))))
    (dSeq (dSet 5 (dCall (S_law_value 6) (dCons (dIxM (dVar 1) (dVar 3)) (dCons (dVar 4) (dCons (dC (.int 1)) dNil)))))
    (dSeq (dSet 6 (dCall (S_law_top 6) (dCons (dIxM (dVar 1) (dVar 3)) dNil)))
    (dSeq (dSetO 2 (dCatO 2 (dFz (dCons (dVar 6) (dCons (dVar 5) (dCons (dCall (S_law_beyond 6) (dCons (dIxM (dVar 1) (dVar 3)) (dCons (dOp dIx (dFz (dCons (dVar 6) (dCons (dVar 5) dNil))) (dOp (dIC (fun _ j => 0 < j) fun i j => .int (i % j)) (dCB dInt (dCons (dOp dIx (dVar 4) (dC (.int 31))) dNil)) (dC (.int 2)))) (dCons (dVar 4) (dCons (dC (.int 0)) dNil))))) dNil))))))
    (dApp 2 (dCall (S_law_exchanged 6) (dCons (dVar 5) (dCons (dVar 4) (dCons (dC (.int 0)) dNil)))))))))
def r_law_values_2 : RS := (dRet (dVar 2))
def r_law_values_1 : RS := dSeq (dForR 3 [3, 4, 5, 6] (dLenM (dVar 1)) b_law_values_2) r_law_values_2
def r_law_values : RS := dSeq (dSetO 2 (dCons (dC (.int 0)) (dCons (dTup (dCons (dC (.int 0)) (dCons (dC (.int 0)) dNil))) dNil))) r_law_values_1

/-! law: slots 0 _law_script 1 _law_kinds_here 2 _law_values_here 3 _law_one 4 _law_other 5 _law_both 6 _law_value_here -/
def b_law_3 : RS := (dSeq (dSet 5 (dCall (S_law_join 6) (dCons (dIxM (dVar 1) (dVar 3)) (dCons (dIxM (dVar 1) (dVar 4)) dNil))))
    (dIfS (dTest (dOp dNotN (dVar 5) (dC .non))) (dAppM (dVar 1) (dVar 5)) dNext))
def b_law_9 : RS := (dSeq (dIfS (dNot (dTruth (dCall (S_law_equal 8) (dCons (dCall (S_joined 6) (dCons (dVar 3) (dCons (dVar 4) dNil))) (dCons (dCall (S_law_join 6) (dCons (dVar 3) (dCons (dVar 4) dNil))) dNil))))) (dRet (dC (.bl false))) dNext)
    (dIfS (dNot (dTruth (dCall S_law_says (dCons (dCall (S_fits 6) (dCons (dVar 3) (dCons (dVar 4) dNil))) (dCons (dCall S_law_fits (dCons (dVar 3) (dCons (dVar 4) dNil))) dNil))))) (dRet (dC (.bl false))) dNext))
def b_law_14 : RS := (dIfS (dNot (dTruth (dCall S_law_says (dCons (dCall (S_has 8) (dCons (dVar 3) (dCons (dVar 6) dNil))) (dCons (dCall (S_law_has 8) (dCons (dVar 3) (dCons (dVar 6) dNil))) dNil))))) (dRet (dC (.bl false))) dNext)
def b_law_8 : RS := (dSeq (dForM 4 [4] (dVar 1) b_law_9)
    (dFor 6 [6] (dVar 2) b_law_14))
def r_law_5 : RS := (dRet (dC (.bl true)))
def r_law_4 : RS := dSeq (dForM 3 [3, 4, 6] (dVar 1) b_law_8) r_law_5
def r_law_3 : RS := dSeq (dAppM (dVar 1) (dC (.int 0))) r_law_4
def r_law_2 : RS := dSeq (dForU [3, 4] [3, 4, 5] (dTup (dCons (dTup (dCons (dC (.int 0)) (dCons (dC (.int 1)) dNil))) (dCons (dTup (dCons (dC (.int 1)) (dCons (dC (.int 2)) dNil))) (dCons (dTup (dCons (dC (.int 2)) (dCons (dC (.int 0)) dNil))) dNil)))) b_law_3) r_law_3
def r_law_1 : RS := dSeq (dSet 2 (dCall S_law_values (dCons (dVar 0) (dCons (dVar 1) dNil)))) r_law_2
def r_law : RS := dSeq (dSet 1 (dCall S_law_kinds (dCons (dVar 0) dNil))) r_law_1
abbrev ends (Φ : D → Mem → Prop) : DE := { nx := fun _ M' => Φ .non M', rt := Φ }
theorem ff {P : Prop} (h : false = true) : P := Bool.noConfusion h
theorem tf {P : Prop} (h : true = false) : P := Bool.noConfusion h
theorem ix0 {x y : D} : atI [x, y] (0 : Int) = some x := rfl
theorem ix1 {x y : D} : atI [x, y] (1 : Int) = some y := rfl
theorem kt_i : kitB "int" "tuple" = some false := by decide +kernel
theorem kt_t : kitB "tuple" "tuple" = some true := by decide +kernel
theorem kl_i : kitB "int" "list" = some false := by decide +kernel
theorem kl_t : kitB "tuple" "list" = some false := by decide +kernel
theorem kb_i : kitB "int" "bool" = some false := by decide +kernel
theorem kb_t : kitB "tuple" "bool" = some false := by decide +kernel
theorem ki_i : kitB "int" "int" = some true := by decide +kernel
theorem ki_n : kitB "NoneType" "int" = some false := by decide +kernel
theorem ks_n : kitB "NoneType" "str" = some false := by decide +kernel
theorem kb_n : kitB "NoneType" "bool" = some false := by decide +kernel
theorem kt_n : kitB "NoneType" "tuple" = some false := by decide +kernel
theorem kl_n : kitB "NoneType" "list" = some false := by decide +kernel

theorem jz1 {a b : T} (h : a.isZ = true) : joinT a b = some b := by
  unfold joinT
  rw [if_pos h]
theorem jz2 {a b : T} (h : a.isZ = false) (h' : b.isZ = true) : joinT a b = some a := by
  unfold joinT
  rw [if_neg (by rw [h]; exact Bool.false_ne_true), if_pos h']
theorem zn {i : Int} (h : decide (i = 0) = true) : (T.n i).isZ = true := h
theorem zn' {i : Int} (h : decide (i = 0) = false) : (T.n i).isZ = false := h
/-- the pair of two joined parts, or none -/
def pairO : Option T → Option T → Option T
  | some x, some y => some (.p x y)
  | _, _ => none
def jt2 : T → T → Option T
  | .n i, .n j => some (.n (mx i j))
  | .p a1 a2, .p b1 b2 => pairO (joinT a1 b1) (joinT a2 b2)
  | _, _ => none
theorem jnz {a b : T} (h : a.isZ = false) (h' : b.isZ = false) : joinT a b = jt2 a b := by
  rw [joinT.eq_def]
  dsimp only
  rw [if_neg (by rw [h]; exact Bool.false_ne_true), if_neg (by rw [h']; exact Bool.false_ne_true)]
  cases a with
  | n i => cases b <;> rfl
  | p a1 a2 =>
    cases b with
    | n j => rfl
    | p b1 b2 =>
      dsimp only
      show _ = pairO (joinT a1 b1) (joinT a2 b2)
      cases joinT a1 b1 <;> cases joinT a2 b2 <;> rfl
theorem jpp {a1 a2 b1 b2 : T} : joinT (.p a1 a2) (.p b1 b2) = pairO (joinT a1 b1) (joinT a2 b2) := jnz rfl rfl
/-- the last step of both -/
theorem red_pair {n : Nat} {x y : Option T} {A B : D} {M : Mem} {Φ : D → Mem → Prop} (q : Φ (oD (pairO x y)) M) : r_joined_5 n (ends Φ) [.d A, .d B, .d (oD x), .d (oD y)] M := by
  cases x with
  | none => exact ⟨fun _ => q, tf⟩
  | some x =>
    cases y with
    | none => cases x <;> exact ⟨ff, fun _ => ⟨fun _ => q, tf⟩⟩
    | some y => cases x <;> cases y <;> exact ⟨ff, fun _ => ⟨ff, fun _ => q⟩⟩
theorem red_joined (n : Nat) : ∀ ds M Φ Ψ, S_joined (n + 1) ds M Φ Ψ → r_joined n (ends Φ) (startD 4 ds) M := by
  rintro ds M Φ Ψ ⟨a, b, rfl, ha, hb, hn, q⟩
  cases a with
  | n i =>
    refine ⟨fun h => ⟨fun _ => ?_, fun h' => absurd (h.symm.trans h') (by decide)⟩, fun h => ?_⟩
    · rw [jz1 (zn h)] at q
      exact q
    · cases b with
      | n j =>
        refine ⟨fun h' => ⟨fun g => absurd (h.symm.trans g) (by decide), fun _ => ?_⟩, fun h' => ?_⟩
        · rw [jz2 (zn' h) (zn h')] at q
          exact q
        · rw [jnz (zn' h) (zn' h')] at q
          exact ⟨_, kt_i, _, kt_i, ff, fun _ => ⟨_, kt_i, ff, fun _ => q⟩⟩
      | p c d =>
        refine ⟨T.pure _, rfl, T.shaped (by omega), rfl, ff, fun _ => ?_⟩
        rw [jnz (zn' h) rfl] at q
        exact ⟨_, kt_i, _, kt_t, fun _ => q, tf⟩
  | p a1 a2 =>
    refine ⟨T.pure _, rfl, T.shaped (by omega), rfl, ff, fun _ => ?_⟩
    cases b with
    | n j =>
      refine ⟨fun h' => ⟨T.pure _, rfl, T.shaped (by omega), rfl, ff, fun _ => ?_⟩, fun h' => ?_⟩
      · rw [jz2 rfl (zn h')] at q
        exact q
      · rw [jnz rfl (zn' h')] at q
        exact ⟨_, kt_t, _, kt_i, fun _ => q, tf⟩
    | p b1 b2 =>
      have h1 : 1 + max a1.dep a2.dep < n + 1 := ha
      have h2 : 1 + max b1.dep b2.dep < n + 1 := hb
      rw [jpp] at q
      refine ⟨T.pure _, rfl, T.shaped (by omega), rfl, ff, fun _ => ?_⟩
      refine ⟨_, kt_t, _, kt_t, ff, fun _ => ⟨_, kt_t, fun _ => ?_, tf⟩⟩
      refine ⟨_, ix0, _, ix0, a1, b1, rfl, by omega, by omega, by omega, ?_⟩
      refine ⟨_, ix1, _, ix1, a2, b2, rfl, by omega, by omega, by omega, ?_⟩
      exact red_pair (n := n) q
theorem red_law_join (n : Nat) : ∀ ds M Φ Ψ, S_law_join (n + 1) ds M Φ Ψ → r_law_join n (ends Φ) (startD 4 ds) M := by
  rintro ds M Φ Ψ ⟨a, b, rfl, ha, hb, hn, q⟩
  cases a with
  | n i =>
    refine ⟨fun h => ?_, fun h => ?_⟩
    · rw [jz1 (zn h)] at q
      exact q
    · cases b with
      | n j =>
        refine ⟨fun h' => ?_, fun h' => ?_⟩
        · rw [jz2 (zn' h) (zn h')] at q
          exact q
        · rw [jnz (zn' h) (zn' h')] at q
          exact ⟨_, kt_i, ff, fun _ => ⟨_, kt_i, ff, fun _ => ⟨_, kt_i, ff, fun _ => q⟩⟩⟩
      | p c d =>
        refine ⟨T.pure _, rfl, T.shaped (by omega), rfl, ff, fun _ => ?_⟩
        rw [jnz (zn' h) rfl] at q
        exact ⟨_, kt_i, ff, fun _ => ⟨_, kt_i, ff, fun _ => ⟨_, kt_t, fun _ => q, tf⟩⟩⟩
  | p a1 a2 =>
    refine ⟨T.pure _, rfl, T.shaped (by omega), rfl, ff, fun _ => ?_⟩
    cases b with
    | n j =>
      refine ⟨fun h' => ?_, fun h' => ?_⟩
      · rw [jz2 rfl (zn h')] at q
        exact q
      · rw [jnz rfl (zn' h')] at q
        exact ⟨_, kt_t, fun _ => ⟨_, kt_i, ff, fun _ => ⟨_, kt_t, fun _ => q, tf⟩⟩, tf⟩
    | p b1 b2 =>
      have h1 : 1 + max a1.dep a2.dep < n + 1 := ha
      have h2 : 1 + max b1.dep b2.dep < n + 1 := hb
      rw [jpp] at q
      refine ⟨T.pure _, rfl, T.shaped (by omega), rfl, ff, fun _ => ?_⟩
      refine ⟨_, kt_t, fun _ => ⟨_, kt_t, fun _ => ?_, tf⟩, tf⟩
      refine ⟨_, ix0, _, ix0, a1, b1, rfl, by omega, by omega, by omega, ?_⟩
      refine ⟨_, ix1, _, ix1, a2, b2, rfl, by omega, by omega, by omega, ?_⟩
      revert q
      generalize joinT a1 b1 = x
      generalize joinT a2 b2 = y
      intro q
      cases x with
      | none => exact ⟨fun _ => q, tf⟩
      | some x =>
        cases y with
        | none => cases x <;> exact ⟨ff, fun _ => ⟨fun _ => q, tf⟩⟩
        | some y => cases x <;> cases y <;> exact ⟨ff, fun _ => ⟨ff, fun _ => q⟩⟩
theorem red_has (n : Nat) : ∀ ds M Φ Ψ, S_has (n + 1) ds M Φ Ψ → r_has n (ends Φ) (startD 2 ds) M := by
  rintro ds M Φ Ψ ⟨a, b, rfl, ha, hb, hn, q⟩
  cases a with
  | n i =>
    cases b with
    | n j => exact ⟨_, kt_i, _, kt_i, ff, fun _ => ⟨_, kt_i, ff, fun _ => q⟩⟩
    | p c d => exact ⟨_, kt_i, _, kt_t, fun _ => q, tf⟩
  | p a1 a2 =>
    cases b with
    | n j => exact ⟨_, kt_t, _, kt_i, fun _ => q, tf⟩
    | p b1 b2 =>
      have h1 : 1 + max a1.dep a2.dep < n + 1 := ha
      have h2 : 1 + max b1.dep b2.dep < n + 1 := hb
      refine ⟨_, kt_t, _, kt_t, ff, fun _ => ⟨_, kt_t, fun _ => ?_, tf⟩⟩
      replace q : Φ (.bl (hasT a1 b1 && hasT a2 b2)) M := q
      refine ⟨_, ix0, _, ix0, a1, b1, rfl, by omega, by omega, by omega, fun e => ?_, fun e => ?_⟩
      · rw [e] at q
        exact ⟨_, ix1, _, ix1, a2, b2, rfl, by omega, by omega, by omega, q⟩
      · rw [e] at q
        exact q
theorem red_law_has (n : Nat) : ∀ ds M Φ Ψ, S_law_has (n + 1) ds M Φ Ψ → r_law_has n (ends Φ) (startD 2 ds) M := by
  rintro ds M Φ Ψ ⟨a, b, rfl, ha, hb, hn, q⟩
  cases a with
  | n i =>
    cases b with
    | n j => exact ⟨_, kt_i, ff, fun _ => ⟨_, kt_i, ff, fun _ => ⟨_, kt_i, ff, fun _ => q⟩⟩⟩
    | p c d => exact ⟨_, kt_i, ff, fun _ => ⟨_, kt_i, ff, fun _ => ⟨_, kt_t, fun _ => q, tf⟩⟩⟩
  | p a1 a2 =>
    cases b with
    | n j => exact ⟨_, kt_t, fun _ => ⟨_, kt_i, ff, fun _ => ⟨_, kt_t, fun _ => q, tf⟩⟩, tf⟩
    | p b1 b2 =>
      have h1 : 1 + max a1.dep a2.dep < n + 1 := ha
      have h2 : 1 + max b1.dep b2.dep < n + 1 := hb
      refine ⟨_, kt_t, fun _ => ⟨_, kt_t, fun _ => ?_, tf⟩, tf⟩
      replace q : Φ (.bl (hasT a1 b1 && hasT a2 b2)) M := q
      refine ⟨_, ix0, _, ix0, a1, b1, rfl, by omega, by omega, by omega, fun e => ?_, fun e => ?_⟩
      · rw [e] at q
        exact ⟨_, ix1, _, ix1, a2, b2, rfl, by omega, by omega, by omega, q⟩
      · rw [e] at q
        exact q
theorem fits_n {i j : Int} (h : 1 ≤ i) : fitsT (.n i) (.n j) = decide (i ≤ j) := by
  have e : fitsT (.n i) (.n j) = (decide (i = 0) || decide (mx 0 (i - 1) < j)) := rfl
  have m : mx 0 (i - 1) = i - 1 := by unfold mx; split <;> omega
  rw [e, m, decide_eq_false (show ¬ i = 0 by omega), Bool.false_or, Bool.eq_iff_iff, decide_eq_true_iff, decide_eq_true_iff]
  omega
theorem red_fits (n : Nat) : ∀ ds M Φ Ψ, S_fits (n + 1) ds M Φ Ψ → r_fits n (ends Φ) (startD 2 ds) M := by
  rintro ds M Φ Ψ ⟨a, b, rfl, ha, hb, hn, hk, q⟩
  cases a with
  | n i =>
    refine ⟨fun h => ?_, fun h => ?_⟩
    · unfold fitsT at q
      rw [zn h] at q
      exact q
    · have hi : 1 ≤ i := by
        have h0 := of_decide_eq_false h
        rcases hk with hk | hk
        · cases hk; exact absurd rfl h0
        · exact hk
      cases b with
      | n j =>
        rw [fits_n hi] at q
        exact ⟨_, kt_i, _, kt_i, ff, fun _ => ⟨_, kt_i, ff, fun _ => q⟩⟩
      | p c d =>
        unfold fitsT at q
        rw [zn' h] at q
        exact ⟨_, kt_i, _, kt_t, fun _ => q, tf⟩
  | p a1 a2 =>
    refine ⟨T.pure _, rfl, T.shaped (by omega), rfl, ff, fun _ => ?_⟩
    cases b with
    | n j => exact ⟨_, kt_t, _, kt_i, fun _ => q, tf⟩
    | p b1 b2 =>
      have h1 : 1 + max a1.dep a2.dep < n + 1 := ha
      have h2 : 1 + max b1.dep b2.dep < n + 1 := hb
      obtain ⟨p1, p2⟩ := hk.nz
      refine ⟨_, kt_t, _, kt_t, ff, fun _ => ⟨_, kt_t, fun _ => ?_, tf⟩⟩
      have e1 : fitsT (.p a1 a2) (.p b1 b2) = (fitsT a1 b1 && fitsT a2 b2) := by
        unfold fitsT
        rw [p1.nz, p2.nz] <;> rfl
      rw [e1] at q
      refine ⟨_, ix0, _, ix0, a1, b1, rfl, by omega, by omega, by omega, .inr p1, fun e => ?_, fun e => ?_⟩
      · rw [e] at q
        exact ⟨_, ix1, _, ix1, a2, b2, rfl, by omega, by omega, by omega, .inr p2, q⟩
      · rw [e] at q
        exact q
theorem red_law_equal (n : Nat) : ∀ ds M Φ Ψ, S_law_equal (n + 1) ds M Φ Ψ → r_law_equal n (ends Φ) (startD 3 ds) M := by
  rintro ds M Φ Ψ ⟨x, rfl, hd, _, hn, q⟩
  cases x with
  | none =>
    refine ⟨_, kt_n, ff, fun _ => ⟨_, kl_n, ff, fun _ => ?_⟩⟩
    refine ⟨_, kb_n, ff, fun _ => ⟨_, kb_n, ff, fun _ => ?_⟩⟩
    refine ⟨_, ki_n, ff, fun _ => ?_⟩
    exact ⟨_, ks_n, ff, fun _ => ⟨fun _ => q, tf⟩⟩
  | some t =>
    have hd := hd t rfl
    cases t with
    | n i =>
      refine ⟨_, kt_i, ff, fun _ => ⟨_, kl_i, ff, fun _ => ?_⟩⟩
      refine ⟨_, kb_i, ff, fun _ => ⟨_, kb_i, ff, fun _ => ?_⟩⟩
      refine ⟨_, ki_i, fun _ => ⟨_, ki_i, fun _ => ?_, tf⟩, tf⟩
      show Φ (.bl (decide (i = i))) M
      rw [decide_eq_true rfl]
      exact q
    | p a b =>
      have h1 : 1 + max a.dep b.dep < n + 1 := hd
      refine ⟨_, kt_t, fun _ => ?_, tf⟩
      refine ⟨_, kt_t, _, kt_t, ff, fun _ => ⟨_, kl_t, _, kl_t, ff, fun _ => ?_⟩⟩
      refine ⟨ff, fun _ => ⟨⟨(by show -(2 : Int) ^ 62 ≤ 2; decide), (by show (2 : Int) < 2 ^ 62; decide)⟩, ?_⟩⟩
      refine loop_by (fun i => [.d (T.p a b).D, .d (T.p a b).D, .un]) rfl (fun i d hi => ?_) ?_
      · obtain ⟨hi, rfl⟩ := rangeD_some hi
        match i, hi with
        | 0, _ => exact ⟨_, ix0, _, ix0, some a, rfl, (fun t e => by cases e; omega), by omega, by omega, fun _ => ⟨rfl, rfl⟩, tf⟩
        | 1, _ => exact ⟨_, ix1, _, ix1, some b, rfl, (fun t e => by cases e; omega), by omega, by omega, fun _ => ⟨rfl, rfl⟩, tf⟩
      · exact q
theorem red_law_says : ∀ ds M Φ Ψ, S_law_says ds M Φ Ψ → r_law_says (ends Φ) (startD 2 ds) M := by
  rintro ds M Φ Ψ ⟨b, rfl, q⟩
  cases b with
  | true => exact ⟨fun _ => q, tf⟩
  | false => exact ⟨ff, fun _ => q⟩
theorem row_at {ns : List Int} {k : Nat} (h : Row ns k) {i : Int} (h0 : 0 ≤ i) (h1 : i < k) : ∃ r, atI (ns.map D.int) i = some (.int r) ∧ 0 ≤ r ∧ r < 1000 := by
  have hl : i.toNat < ns.length := by rw [h.1]; omega
  have e : ((i.toNat : Nat) : Int) = i := Int.toNat_of_nonneg h0
  refine ⟨ns[i.toNat], ?_, h.2 _ (List.getElem_mem hl)⟩
  have g := atI_nat (xs := ns.map D.int) (j := i.toNat) (v := .int ns[i.toNat]) (by rw [List.getElem?_map, List.getElem?_eq_getElem hl] <;> rfl)
  rw [e] at g
  exact g
theorem row_law (ns : List Int) (k : Int) (n : Nat) : Row (lawRow ns k n) n := ⟨lawRow_len ns k n, lawRow_mem⟩
theorem two_mul {pl : Int} {d : Nat} (h : (pl + 1) * 2 ^ (d + 1) ≤ 32) (h1 : 1 ≤ pl) : (2 * pl + 1) * 2 ^ d ≤ 32 ∧ (2 * pl + 1 + 1) * 2 ^ d ≤ 32 := by
  have e : (2 : Int) ^ (d + 1) = 2 ^ d * 2 := Int.pow_succ ..
  have p : (0 : Int) < 2 ^ d := Int.pow_pos (by decide)
  have e2 : (2 * pl + 1 + 1) * 2 ^ d = (pl + 1) * 2 ^ (d + 1) := by rw [e]; grind
  refine ⟨?_, by rw [e2]; exact h⟩
  have : (2 * pl + 1) * 2 ^ d ≤ (2 * pl + 1 + 1) * 2 ^ d := Int.mul_le_mul_of_nonneg_right (by omega) (by omega)
  omega
theorem pl_lt {pl : Int} {d : Nat} (h : (pl + 1) * 2 ^ d ≤ 32) (h1 : 1 ≤ pl) : pl < 32 := by
  have p : (1 : Int) ≤ 2 ^ d := by
    have : (0 : Int) < 2 ^ d := Int.pow_pos (by decide)
    omega
  have : (pl + 1) * 1 ≤ (pl + 1) * 2 ^ d := Int.mul_le_mul_of_nonneg_left p (by omega)
  omega
theorem cm {i j : Int} (h : -(2 ^ 64) < j ∧ j < 2 ^ 64) : CMulA i j := .inl (.inr h)
theorem cml {i j : Int} (h : -(2 ^ 64) < i ∧ i < 2 ^ 64) : CMulA i j := .inl (.inl h)
theorem red_law_kind (n : Nat) : ∀ ds M Φ Ψ, S_law_kind (n + 1) ds M Φ Ψ → r_law_kind n (ends Φ) (startD 6 ds) M := by
  rintro ds M Φ Ψ ⟨sh, nu, pl, dp, mo, rfl, hs, hn, h0, h1, h2, h3, h4, h5, q⟩
  have hpl := pl_lt h4 h3
  obtain ⟨r, ar, br⟩ := row_at hs (i := pl) (by omega) (by omega)
  obtain ⟨u, au, bu⟩ := row_at hn (i := pl) (by omega) (by omega)
  have leaf : r_law_kind_1 n (ends Φ) [.d (rowD sh), .d (rowD nu), .d (.int pl), .d (.int dp), .d (.int mo), .un] M := by
    refine ⟨_, au, (by show (0 : Int) < mo; omega), ?_⟩
    refine q (.n (1 + u % mo)) ?_ (by show ((0 : Nat) : Int) ≤ dp; omega)
    show 1 ≤ 1 + u % mo
    have := Int.emod_nonneg u (show mo ≠ 0 by omega)
    omega
  refine ⟨fun hd => ?_, fun hd => leaf⟩
  have hd := of_decide_eq_true hd
  refine ⟨_, ar, (by show (0 : Int) < 4; decide), fun _ => ?_, fun _ => leaf⟩
  have ed : dp.toNat = (dp - 1).toNat + 1 := by omega
  rw [ed] at h4
  obtain ⟨g1, g2⟩ := two_mul h4 h3
  refine ⟨cml (by decide), sh, nu, 2 * pl, dp - 1, mo, rfl, hs, hn, by omega, by omega, by omega, by omega, g1, h5, fun a pa da => ?_⟩
  refine ⟨cml (by decide), sh, nu, 2 * pl + 1, dp - 1, mo, rfl, hs, hn, by omega, by omega, by omega, by omega, g2, h5, fun b pb db => ?_⟩
  refine q (.p a b) ⟨pa, pb⟩ ?_
  show ((1 + max a.dep b.dep : Nat) : Int) ≤ dp
  omega
theorem row_at' {ns : List Int} {k : Nat} (h : Row ns k) {i : Nat} (h1 : i < k) : ∃ r, atI (ns.map D.int) ((i : Nat) : Int) = some (.int r) ∧ 0 ≤ r ∧ r < 1000 :=
  row_at h (by omega) (by omega)
theorem menu_at {me : List Int} (h : me ≠ []) (r : Int) : 0 < ((me.map D.int).length : Int) ∧ ∃ m, atI (me.map D.int) (r % ((me.map D.int).length : Int)) = some (.int m) := by
  have hl : 0 < (me.map D.int).length := by rw [List.length_map]; exact List.length_pos_iff.mpr h
  have h0 : 0 < ((me.map D.int).length : Int) := by omega
  have a0 := Int.emod_nonneg r (show ((me.map D.int).length : Int) ≠ 0 by omega)
  have a1 := Int.emod_lt_of_pos r h0
  refine ⟨h0, ?_⟩
  generalize hq : r % ((me.map D.int).length : Int) = q at a0 a1
  have e : ((q.toNat : Nat) : Int) = q := Int.toNat_of_nonneg a0
  have hk : q.toNat < me.length := by rw [List.length_map] at a1; omega
  refine ⟨me[q.toNat], ?_⟩
  have g := atI_nat (xs := me.map D.int) (j := q.toNat) (v := .int me[q.toNat]) (by rw [List.getElem?_map, List.getElem?_eq_getElem hk] <;> rfl)
  rw [e] at g
  exact g
theorem two_mul' {pl : Int} {d e : Nat} (h : (pl + 1) * 2 ^ (1 + d) ≤ 32) (h1 : 1 ≤ pl) (he : e ≤ d) : (2 * pl + 1) * 2 ^ e ≤ 32 ∧ (2 * pl + 1 + 1) * 2 ^ e ≤ 32 := by
  rw [Nat.add_comm] at h
  obtain ⟨a, b⟩ := two_mul h h1
  have p : (2 : Int) ^ e ≤ 2 ^ d := by
    have := Nat.pow_le_pow_right (show 0 < 2 by decide) he
    exact_mod_cast this
  exact ⟨Int.le_trans (Int.mul_le_mul_of_nonneg_left p (by omega)) a, Int.le_trans (Int.mul_le_mul_of_nonneg_left p (by omega)) b⟩
theorem way0 {w : Int} {x y : D} (e : w = 0) : atI [x, y] w = some x := by rw [e]; rfl
theorem way1 {w : Int} {x y : D} (e : w = 1) : atI [x, y] w = some y := by rw [e]; rfl
theorem mod2 (r : Int) : r % 2 = 0 ∨ r % 2 = 1 := by omega
theorem mx1 {i : Int} : 1 ≤ mx 1 i := mx_le.1
theorem red_law_near (n : Nat) : ∀ ds M Φ Ψ, S_law_near (n + 1) ds M Φ Ψ → r_law_near n (ends Φ) (startD 5 ds) M := by
  rintro ds M Φ Ψ ⟨t, nu, pl, me, rfl, hn, hm, hl, h1, h2, h3, h4, q⟩
  cases t with
  | n i =>
    have hpl := pl_lt h4 h3
    obtain ⟨u, au, bu⟩ := row_at hn (i := pl) (by omega) (by omega)
    obtain ⟨c, m, am⟩ := menu_at hm u
    exact ⟨_, kt_i, ff, fun _ => ⟨_, au, c, _, am, q (.n (mx 1 (if i + m < 999 then i + m else 999))) mx1 rfl⟩⟩
  | p a b =>
    have h5 : 1 + max a.dep b.dep < n + 1 := h1
    have h6 : (pl + 1) * 2 ^ (1 + max a.dep b.dep) ≤ 32 := h4
    refine ⟨_, kt_t, fun _ => ?_, tf⟩
    refine ⟨_, ix0, cml (by decide), a, nu, 2 * pl, me, rfl, hn, hm, hl, by omega, by omega, by omega, (two_mul' h6 h3 (by omega)).1, fun u pu du => ?_⟩
    refine ⟨_, ix1, cml (by decide), b, nu, 2 * pl + 1, me, rfl, hn, hm, hl, by omega, by omega, by omega, (two_mul' h6 h3 (by omega)).2, fun v pv dv => ?_⟩
    refine q (.p u v) ⟨pu, pv⟩ ?_
    show 1 + max u.dep v.dep = 1 + max a.dep b.dep
    omega
theorem red_law_exchanged (n : Nat) : ∀ ds M Φ Ψ, S_law_exchanged (n + 1) ds M Φ Ψ → r_law_exchanged n (ends Φ) (startD 5 ds) M := by
  rintro ds M Φ Ψ ⟨t, nu, lv, rfl, hn, h1, h2, h3, h4, q⟩
  obtain ⟨r, ar, br⟩ := row_at hn (i := lv) (by omega) (by omega)
  obtain ⟨s, as, bs⟩ := row_at hn (i := 4) (by omega) (by omega)
  have ps : 1 ≤ 1 + s % 5 := by omega
  cases t with
  | n i =>
    refine ⟨_, kt_i, ff, fun _ => ⟨fun h => ?_, fun h => q (.n (mx 1 (i - 1))) (fun _ => mx1) (by show ((0 : Nat) : Int) + lv ≤ 4; omega)⟩⟩
    have h := of_decide_eq_true h
    refine ⟨_, as, (by show (0 : Int) < 5; decide), q (.p (.n (mx 1 i)) (.n (1 + s % 5))) (fun _ => ⟨mx1, ps⟩) ?_⟩
    show ((1 + max 0 0 : Nat) : Int) + lv ≤ 4
    omega
  | p a b =>
    have h5 : 1 + max a.dep b.dep < n + 1 := h1
    have h6 : ((1 + max a.dep b.dep : Nat) : Int) + lv ≤ 4 := h4
    refine ⟨_, kt_t, fun _ => ?_, tf⟩
    refine ⟨_, ar, (by show (0 : Int) < 4; decide), fun _ => ?_, fun _ => ?_⟩
    · exact ⟨_, as, (by show (0 : Int) < 5; decide), q (.n (1 + s % 5)) (fun _ => ps) (by show ((0 : Nat) : Int) + lv ≤ 4; omega)⟩
    · rcases mod2 (r / 4) with e | e
      · refine ⟨_, ar, ⟨by decide, .inl (by decide)⟩, (by show (0 : Int) < 2; decide), _, way0 e, a, nu, lv + 1, rfl, hn, by omega, by omega, by omega, by omega, fun u pu du => ?_⟩
        refine ⟨fun _ => ⟨_, ix1, q (.p u b) (fun k => ⟨pu (.inr k.nz.1), k.nz.2⟩) ?_⟩, fun h => absurd e (of_decide_eq_false h)⟩
        show ((1 + max u.dep b.dep : Nat) : Int) + lv ≤ 4
        omega
      · refine ⟨_, ar, ⟨by decide, .inl (by decide)⟩, (by show (0 : Int) < 2; decide), _, way1 e, b, nu, lv + 1, rfl, hn, by omega, by omega, by omega, by omega, fun u pu du => ?_⟩
        refine ⟨fun h => absurd ((of_decide_eq_true h).symm.trans e) (by decide), fun _ => ⟨_, ix0, q (.p a u) (fun k => ⟨k.nz.1, pu (.inr k.nz.2)⟩) ?_⟩⟩
        show ((1 + max a.dep u.dep : Nat) : Int) + lv ≤ 4
        omega
theorem red_law_top (n : Nat) : ∀ ds M Φ Ψ, S_law_top (n + 1) ds M Φ Ψ → r_law_top n (ends Φ) (startD 1 ds) M := by
  rintro ds M Φ Ψ ⟨t, rfl, h1, h2, q⟩
  cases t with
  | n i => exact ⟨_, kt_i, ff, fun _ => q⟩
  | p a b =>
    have h5 : 1 + max a.dep b.dep < n + 1 := h1
    exact ⟨_, kt_t, fun _ => ⟨_, ix0, a, rfl, by omega, by omega, _, ix1, b, rfl, by omega, by omega, q⟩, tf⟩
theorem red_law_fits : ∀ ds M Φ Ψ, S_law_fits ds M Φ Ψ → r_law_fits (ends Φ) (startD 2 ds) M := by
  rintro ds M Φ Ψ ⟨a, b, rfl, h1, h2, q⟩
  have dt : (topT a).dep = a.dep := (topT.same a).dep.symm
  have go : a.isZ = false → r_law_fits_1 (ends Φ) (startD 2 [a.D, b.D]) M := by
    intro e
    unfold fitsT at q
    rw [e] at q
    exact ⟨a, rfl, by omega, by omega, b, topT a, rfl, by omega, by omega, by omega, q⟩
  cases a with
  | n i =>
    refine ⟨fun h => ?_, fun h => go (zn' h)⟩
    unfold fitsT at q
    rw [zn h] at q
    exact q
  | p a1 a2 => exact ⟨T.pure _, rfl, T.shaped (by omega), rfl, ff, fun _ => go rfl⟩
theorem red_law_value (n : Nat) : ∀ ds M Φ Ψ, S_law_value (n + 1) ds M Φ Ψ → r_law_value n (ends Φ) (startD 3 ds) M := by
  rintro ds M Φ Ψ ⟨t, nu, pl, rfl, hn, h1, h2, h3, h4, q⟩
  cases t with
  | n i =>
    have hpl := pl_lt h4 h3
    obtain ⟨u, au, bu⟩ := row_at hn (i := pl) (by omega) (by omega)
    refine ⟨_, kt_i, ff, fun _ => ⟨_, au, ?_, q (.n (u % mx 1 i)) trivial⟩⟩
    have := mx1 (i := i)
    show 0 < mx 1 i
    omega
  | p a b =>
    have h5 : 1 + max a.dep b.dep < n + 1 := h1
    have h6 : (pl + 1) * 2 ^ (1 + max a.dep b.dep) ≤ 32 := h4
    refine ⟨_, kt_t, fun _ => ?_, tf⟩
    refine ⟨_, ix0, cml (by decide), a, nu, 2 * pl, rfl, hn, by omega, by omega, by omega, (two_mul' h6 h3 (by omega)).1, fun u su => ?_⟩
    exact ⟨_, ix1, cml (by decide), b, nu, 2 * pl + 1, rfl, hn, by omega, by omega, by omega, (two_mul' h6 h3 (by omega)).2, fun v sv => q (.p u v) ⟨su, sv⟩⟩
theorem red_law_beyond (n : Nat) : ∀ ds M Φ Ψ, S_law_beyond (n + 1) ds M Φ Ψ → r_law_beyond n (ends Φ) (startD 6 ds) M := by
  rintro ds M Φ Ψ ⟨t, v, nu, lv, rfl, hs, hn, h1, h2, h3, h4, q⟩
  obtain ⟨r, ar, br⟩ := row_at hn (i := lv) (by omega) (by omega)
  cases t with
  | n i => exact ⟨_, kt_i, ff, fun _ => q (.n i) (Nat.le_refl _)⟩
  | p a b =>
    cases v with
    | n j => exact hs.elim
    | p c d =>
      have h5 : 1 + max a.dep b.dep < n + 1 := h1
      have h6 : ((1 + max a.dep b.dep : Nat) : Int) + lv ≤ 4 := h4
      obtain ⟨s1, s2⟩ := hs
      have e1 := s1.dep
      have e2 := s2.dep
      refine ⟨_, kt_t, fun _ => ?_, tf⟩
      rcases mod2 r with e | e
      · refine ⟨_, ar, (by show (0 : Int) < 2; decide), _, way0 e, _, way0 e, a, c, nu, lv + 1, rfl, s1, hn, by omega, by omega, by omega, by omega, fun u hu => ?_⟩
        refine ⟨fun _ => ⟨_, ix1, q (.p u d) ?_⟩, fun h => absurd e (of_decide_eq_false h)⟩
        show 1 + max u.dep d.dep ≤ 1 + max a.dep b.dep
        omega
      · refine ⟨_, ar, (by show (0 : Int) < 2; decide), _, way1 e, _, way1 e, b, d, nu, lv + 1, rfl, s2, hn, by omega, by omega, by omega, by omega, fun u hu => ?_⟩
        refine ⟨fun h => absurd ((of_decide_eq_true h).symm.trans e) (by decide), fun _ => ⟨_, ix0, q (.p c u) ?_⟩⟩
        show 1 + max c.dep u.dep ≤ 1 + max a.dep b.dep
        omega
/-- kinds the law may hold -/
def G (t : T) : Prop := Kd t ∧ t.dep ≤ 4
theorem one32 {d : Nat} (h : d ≤ 4) : ((1 : Int) + 1) * 2 ^ d ≤ 32 := by
  match d, h with
  | 0, _ => decide
  | 1, _ => decide
  | 2, _ => decide
  | 3, _ => decide
  | 4, _ => decide
theorem G.n {i : Int} (h : 0 ≤ i) : G (.n i) := by
  refine ⟨?_, Nat.zero_le _⟩
  by_cases e : i = 0
  · exact .inl (by rw [e])
  · exact .inr (by show 1 ≤ i; omega)
/-- what the caller of _law_kinds asks -/
def QK (Φ : D → Mem → Prop) (M : Mem) : Prop := ∀ (ks : List T) (p : Addr), ks.length = 5 → (∀ k ∈ ks, G k) → M p = none → Φ (.ref p) (updM M p (.lst (tsD ks)))
theorem G.lt {t : T} (h : G t) : t.dep < 6 := Nat.lt_of_le_of_lt h.2 (by decide)
theorem G.le0 {t : T} (h : G t) : (t.dep : Int) + 0 ≤ 4 := by have := h.2; omega
theorem G.as {t u : T} (h : G t) (p : Pos u) (e : u.dep = t.dep) : G u := ⟨.inr p, by rw [e]; exact h.2⟩
theorem G.ex {t u : T} (h : G t) (p : Kd t → Pos u) (e : (u.dep : Int) + 0 ≤ 4) : G u := ⟨.inr (p h.1), by omega⟩
theorem G.of {u : T} (p : Pos u) (e : (u.dep : Int) ≤ 4) : G u := ⟨.inr p, by omega⟩
theorem join_G {a b : T} (ha : G a) (hb : G b) : ∀ t, joinT a b = some t → G t := fun t e => by
  obtain ⟨k, d⟩ := joinT_ok ha.1 hb.1 e
  exact ⟨k, by have := ha.2; have := hb.2; omega⟩
section kinds
variable {Φ : D → Mem → Prop} {M : Mem} {ns rw nu : List Int} {mo : Int} {a b c x : T} {s3 s4 s5 s6 s7 : Sl}
theorem k15 (q : QK Φ M) (ha : G a) (hb : G b) (hc : G c) (hn : Row nu 32) : r_law_kinds_15 (ends Φ) [.d (.scr ns), .d (rowD rw), .d (.int mo), .d a.D, .d (rowD nu), .d b.D, .d c.D, s7] M := by
  refine ⟨_, _, 1, [0, 0, 1, -1], rfl, hn, by decide, by decide, ha.lt, by decide, by decide, one32 ha.2, fun u pu du => ?_⟩
  have hu := ha.as pu du
  refine ⟨_, _, 0, rfl, hn, ha.lt, by decide, by decide, ha.le0, fun v pv dv => fun p hp => ?_⟩
  have hv := ha.ex pv dv
  refine q [a, b, c, u, v] p rfl ?_ hp
  intro k hk
  rcases hk with _ | ⟨_, _ | ⟨_, _ | ⟨_, _ | ⟨_, _ | ⟨_, hk⟩⟩⟩⟩⟩
  · exact ha
  · exact hb
  · exact hc
  · exact hu
  · exact hv
  · cases hk
theorem k14 (q : QK Φ M) (ha : G a) (hb : G b) (hc : G c) : r_law_kinds_14 (ends Φ) [.d (.scr ns), .d (rowD rw), .d (.int mo), .d a.D, s4, .d b.D, .d c.D, s7] M :=
  ⟨_, _, 32, rfl, by decide, by decide, by decide, k15 q ha hb hc (row_law _ _ _)⟩
theorem k13 (q : QK Φ M) (hr : Row rw 9) (hn : Row nu 32) (ha : G a) (hb : G b) (hc : G c) (hx : G x) : r_law_kinds_13 (ends Φ) [.d (.scr ns), .d (rowD rw), .d (.int mo), .d a.D, .d (rowD nu), .d b.D, .d c.D, .d x.D] M := by
  obtain ⟨r, ar, br⟩ := row_at hr (i := 6) (by omega) (by omega)
  have c6 : (0 : Int) < 6 := by decide
  refine ⟨_, ar, c6, fun _ => ?_, fun _ => ⟨_, ar, c6, fun _ => ?_, fun _ => ⟨_, ar, c6, fun _ => ?_, fun _ => ⟨_, ar, c6, fun _ => ?_, fun _ => ⟨_, ar, c6, fun _ => ?_, fun _ => ?_⟩⟩⟩⟩⟩
  · exact ⟨_, _, 1, [0, 0, 1], rfl, hn, by decide, by decide, hx.lt, by decide, by decide, one32 hx.2, fun u pu du => k14 q ha hb (hx.as pu du)⟩
  · exact ⟨_, _, 1, [0, 0, 1], rfl, hn, by decide, by decide, hx.lt, by decide, by decide, one32 hx.2, fun u pu du => k14 q ha hb (hx.as pu du)⟩
  · exact ⟨_, _, 1, [0, 0, 0, 0, 0, 0, 0, -1], rfl, hn, by decide, by decide, hx.lt, by decide, by decide, one32 hx.2, fun u pu du => k14 q ha hb (hx.as pu du)⟩
  · exact ⟨_, _, 0, rfl, hn, hx.lt, by decide, by decide, hx.le0, fun u pu du => k14 q ha hb (hx.ex pu du)⟩
  · exact ⟨_, _, 1, [0, 1, -1], rfl, hn, by decide, by decide, hb.lt, by decide, by decide, one32 hb.2, fun u pu du => k14 q ha hb (hb.as pu du)⟩
  · exact k14 q ha hb hc
theorem k12 {o : Option T} (q : QK Φ M) (hr : Row rw 9) (hn : Row nu 32) (ha : G a) (hb : G b) (hc : G c) (ho : ∀ t, o = some t → G t) : r_law_kinds_12 (ends Φ) [.d (.scr ns), .d (rowD rw), .d (.int mo), .d a.D, .d (rowD nu), .d b.D, .d c.D, .d (oD o)] M := by
  cases o with
  | none => exact ⟨fun _ => k13 q hr hn ha hb hc ha, tf⟩
  | some t =>
    have g : r_law_kinds_13 (ends Φ) [.d (.scr ns), .d (rowD rw), .d (.int mo), .d a.D, .d (rowD nu), .d b.D, .d c.D, .d t.D] M := k13 q hr hn ha hb hc (ho t rfl)
    cases t with
    | n i => exact ⟨ff, fun _ => g⟩
    | p x y => exact ⟨ff, fun _ => g⟩
theorem k11 (q : QK Φ M) (hr : Row rw 9) (hn : Row nu 32) (ha : G a) (hb : G b) (hc : G c) : r_law_kinds_11 (ends Φ) [.d (.scr ns), .d (rowD rw), .d (.int mo), .d a.D, .d (rowD nu), .d b.D, .d c.D, s7] M :=
  ⟨a, b, rfl, Nat.lt_of_le_of_lt ha.2 (by decide), Nat.lt_of_le_of_lt hb.2 (by decide), by decide, k12 q hr hn ha hb hc (join_G ha hb)⟩
theorem k10 (q : QK Φ M) (hr : Row rw 9) (hn : Row nu 32) (hm : 1 ≤ mo) (ha : G a) (hb : G b) : r_law_kinds_10 (ends Φ) [.d (.scr ns), .d (rowD rw), .d (.int mo), .d a.D, .d (rowD nu), .d b.D, s6, s7] M :=
  ⟨_, _, 32, rfl, by decide, by decide, by decide, ⟨_, _, 1, 4, _, rfl, (row_law _ _ _), hn, by decide, by decide, by decide, by decide, by decide, hm, fun u pu du => k11 q hr hn ha hb (G.of pu du)⟩⟩
theorem k9 (q : QK Φ M) (hr : Row rw 9) (hm : 1 ≤ mo) (ha : G a) (hb : G b) : r_law_kinds_9 (ends Φ) [.d (.scr ns), .d (rowD rw), .d (.int mo), .d a.D, s4, .d b.D, s6, s7] M :=
  ⟨_, _, 32, rfl, by decide, by decide, by decide, k10 q hr (row_law _ _ _) hm ha hb⟩
theorem k8 (q : QK Φ M) (hr : Row rw 9) (hm : 1 ≤ mo) (ha : G a) (hb : G b) : r_law_kinds_8 (ends Φ) [.d (.scr ns), .d (rowD rw), .d (.int mo), .d a.D, s4, .d b.D, s6, s7] M := by
  obtain ⟨r, ar, br⟩ := row_at hr (i := 4) (by omega) (by omega)
  obtain ⟨u, au, bu⟩ := row_at hr (i := 5) (by omega) (by omega)
  refine ⟨_, ar, (by show (0 : Int) < 11; decide), fun _ => ?_, fun _ => k9 q hr hm ha hb⟩
  refine ⟨_, au, _, ar, ⟨by decide, .inl (by decide)⟩, (by show (0 : Int) < 3; decide), cml ⟨by omega, by omega⟩, ?_⟩
  refine k9 q hr hm ha (b := .n (u * (if decide (r / 11 % 3 > 0) = true then 1 else 0))) (.n ?_)
  split <;> omega
theorem k7 (q : QK Φ M) (hr : Row rw 9) (hn : Row nu 32) (hm : 1 ≤ mo) (ha : G a) (hb : G b) : r_law_kinds_7 (ends Φ) [.d (.scr ns), .d (rowD rw), .d (.int mo), .d a.D, .d (rowD nu), .d b.D, s6, s7] M := by
  obtain ⟨r, ar, br⟩ := row_at hr (i := 3) (by omega) (by omega)
  have c6 : (0 : Int) < 6 := by decide
  refine ⟨_, ar, c6, fun _ => ?_, fun _ => ⟨_, ar, c6, fun _ => ?_, fun _ => ⟨_, ar, c6, fun _ => ?_, fun _ => ⟨_, ar, c6, fun _ => ?_, fun _ => ⟨_, ar, c6, fun _ => ?_, fun _ => ?_⟩⟩⟩⟩⟩
  · exact k8 q hr hm ha ha
  · exact ⟨_, _, 1, [0, 0, 0, 1, 0, -1], rfl, hn, by decide, by decide, ha.lt, by decide, by decide, one32 ha.2, fun u pu du => k8 q hr hm ha (ha.as pu du)⟩
  · exact ⟨_, _, 1, [0, 0, 0, 1, 0, -1], rfl, hn, by decide, by decide, ha.lt, by decide, by decide, one32 ha.2, fun u pu du => k8 q hr hm ha (ha.as pu du)⟩
  · exact ⟨_, _, 0, rfl, hn, ha.lt, by decide, by decide, ha.le0, fun u pu du => k8 q hr hm ha (ha.ex pu du)⟩
  · exact ⟨_, _, 1, [0, 1, -1], rfl, hn, by decide, by decide, ha.lt, by decide, by decide, one32 ha.2, fun u pu du => ⟨_, _, 0, rfl, hn, (ha.as pu du).lt, by decide, by decide, (ha.as pu du).le0, fun v pv dv => k8 q hr hm ha ((ha.as pu du).ex pv dv)⟩⟩
  · exact k8 q hr hm ha hb
theorem k6 (q : QK Φ M) (hr : Row rw 9) (hn : Row nu 32) (hm : 1 ≤ mo) (ha : G a) : r_law_kinds_6 (ends Φ) [.d (.scr ns), .d (rowD rw), .d (.int mo), .d a.D, .d (rowD nu), s5, s6, s7] M :=
  ⟨_, _, 32, rfl, by decide, by decide, by decide, ⟨_, _, 1, 4, _, rfl, (row_law _ _ _), hn, by decide, by decide, by decide, by decide, by decide, hm, fun u pu du => k7 q hr hn hm ha (G.of pu du)⟩⟩
theorem k5 (q : QK Φ M) (hr : Row rw 9) (hm : 1 ≤ mo) (ha : G a) : r_law_kinds_5 (ends Φ) [.d (.scr ns), .d (rowD rw), .d (.int mo), .d a.D, s4, s5, s6, s7] M :=
  ⟨_, _, 32, rfl, by decide, by decide, by decide, k6 q hr (row_law _ _ _) hm ha⟩
theorem k4 (q : QK Φ M) (hr : Row rw 9) (hm : 1 ≤ mo) (ha : G a) : r_law_kinds_4 (ends Φ) [.d (.scr ns), .d (rowD rw), .d (.int mo), .d a.D, s4, s5, s6, s7] M := by
  obtain ⟨r, ar, br⟩ := row_at hr (i := 1) (by omega) (by omega)
  obtain ⟨u, au, bu⟩ := row_at hr (i := 2) (by omega) (by omega)
  exact ⟨_, ar, (by show (0 : Int) < 9; decide), fun _ => ⟨_, au, k5 q hr hm (a := .n u) (.n bu.1)⟩, fun _ => k5 q hr hm ha⟩
theorem k3 (q : QK Φ M) (hr : Row rw 9) (hm : 1 ≤ mo) : r_law_kinds_3 (ends Φ) [.d (.scr ns), .d (rowD rw), .d (.int mo), s3, s4, s5, s6, s7] M :=
  ⟨_, _, 32, rfl, by decide, by decide, by decide, ⟨_, _, 32, rfl, by decide, by decide, by decide, ⟨_, _, 1, 4, _, rfl, (row_law _ _ _), (row_law _ _ _), by decide, by decide, by decide, by decide, by decide, hm, fun u pu du => k4 q hr hm (G.of pu du)⟩⟩⟩
theorem red_law_kinds : ∀ ds M Φ Ψ, S_law_kinds ds M Φ Ψ → r_law_kinds (ends Φ) (startD 8 ds) M := by
  rintro ds M Φ Ψ ⟨ns, rfl, q⟩
  have hr := row_law ns 0 9
  obtain ⟨r, ar, br⟩ := row_at hr (i := 0) (by omega) (by omega)
  exact ⟨_, 0, 9, rfl, by decide, by decide, by decide, _, ar, (by show (0 : Int) < 2; decide), fun _ => k3 q hr (by decide), fun _ => k3 q hr (by decide)⟩
end kinds
theorem tsD_at {ts : List T} {i : Nat} {d : D} (h : (tsD ts)[i]? = some d) : ∃ t, ts[i]? = some t ∧ t ∈ ts ∧ d = t.D := by
  unfold tsD at h
  rw [List.getElem?_map] at h
  cases e : ts[i]? with
  | none => rw [e] at h; cases h
  | some t => rw [e] at h; cases h; exact ⟨t, rfl, List.mem_of_getElem? e, rfl⟩
theorem tsD_ix {ts : List T} {i : Nat} (h : i < ts.length) : ∃ t, atI (tsD ts) (i : Int) = some t.D ∧ t ∈ ts :=
  ⟨ts[i], atI_nat (by unfold tsD; rw [List.getElem?_map, List.getElem?_eq_getElem h] <;> rfl), List.getElem_mem h⟩
theorem sz_big : 1000 ≤ sizeLine := by rw [sizeLine_eq]; decide
/-- the state of _law_values' loop -/
def PVal (ns : List Int) (p : Addr) (M0 : Mem) (i : Nat) (Δ : List Sl) (M : Mem) : Prop := M = M0 ∧ ∃ vs : List T, Δ = [.d (.scr ns), .d (.ref p), .own (tsD vs), .un, .un, .un, .un] ∧ vs.length = 2 + 4 * i ∧ ∀ v ∈ vs, v.dep ≤ 4
theorem red_law_values : ∀ ds M Φ Ψ, S_law_values ds M Φ Ψ → r_law_values (ends Φ) (startD 7 ds) M := by
  rintro ds M Φ Ψ ⟨ns, p, ks, rfl, hM, hl, hk, q⟩
  refine ⟨_, hM, ?_, PVal ns p M, ⟨rfl, [.n 0, .p (.n 0) (.n 0)], rfl, rfl, ?_⟩, ?_, ?_⟩
  · unfold tsD
    rw [List.length_map, hl]
    exact ⟨by decide, by decide⟩
  · intro v hv
    rcases hv with _ | ⟨_, _ | ⟨_, hv⟩⟩
    · decide
    · decide
    · cases hv
  · rintro i d Δ1 M1 hi ⟨rfl, vs, rfl, hvl, hv⟩
    obtain ⟨hi, rfl⟩ := rangeD_some hi
    have hi5 : i < ks.length := by
      have : ((tsD ks).length : Int).toNat = ks.length := by unfold tsD; rw [List.length_map]; omega
      omega
    obtain ⟨t, at_, mt⟩ := tsD_ix hi5
    have e0 : (0 : Int) + (i : Nat) = (i : Nat) := by omega
    have ht := hk t mt
    have hn := row_law ns (8 + (0 + (i : Nat))) 32
    refine ⟨ns, _, 32, rfl, by omega, by omega, by decide, ?_⟩
    obtain ⟨r, ar, br⟩ := row_at hn (i := 31) (by omega) (by omega)
    have at' : atI (tsD ks) (0 + (i : Nat)) = some t.D := by rw [e0]; exact at_
    refine ⟨_, hM, _, at', t, _, 1, rfl, hn, by omega, by omega, by omega, one32 ht, fun u su => ?_⟩
    have du := su.dep
    have dt := (topT.same t).dep
    refine ⟨_, hM, _, at', t, rfl, by omega, by omega, ?_⟩
    have dl : (tsD vs).length = 2 + 4 * i := by unfold tsD; rw [List.length_map]; exact hvl
    have sz := sz_big
    have fin : ∀ w z : T, w.dep ≤ 4 → z.dep ≤ 4 → PVal ns p M1 (i + 1) [.d (.scr ns), .d (.ref p), .own (tsD vs ++ [(topT t).D, u.D, w.D] ++ [z.D]), .un, .un, .un, .un] M1 := by
      intro w z hw hz
      refine ⟨rfl, vs ++ [topT t, u, w] ++ [z], ?_, ?_, ?_⟩
      · unfold tsD
        rw [List.map_append, List.map_append]
        rfl
      · rw [List.length_append, List.length_append, hvl]
        show 2 + 4 * i + 3 + 1 = _
        omega
      · intro v hm
        rcases List.mem_append.mp hm with hm | hm
        · rcases List.mem_append.mp hm with hm | hm
          · exact hv v hm
          · rcases hm with _ | ⟨_, _ | ⟨_, _ | ⟨_, hm⟩⟩⟩
            · omega
            · omega
            · exact hw
            · cases hm
        · rcases hm with _ | ⟨_, hm⟩
          · exact hz
          · cases hm
    have l1 : (tsD vs).length + 3 ≤ sizeLine := by omega
    have l2 : ∀ w : T, (tsD vs ++ [(topT t).D, u.D, w.D]).length < sizeLine := by
      intro w
      rw [List.length_append]
      show (tsD vs).length + 3 < sizeLine
      omega
    refine ⟨⟨_, rfl⟩, _, hM, _, at', _, ar, (by show (0 : Int) < 2; decide), ?_⟩
    rcases mod2 r with e | e
    · exact ⟨_, way0 e, t, topT t, _, 0, rfl, topT.same t, hn, by omega, by decide, by decide, by omega, fun w hw => ⟨l1, ⟨_, rfl⟩, u, _, 0, rfl, hn, by omega, by decide, by decide, by omega, fun z _ dz => ⟨l2 w, fin w z (by omega) (by omega)⟩⟩⟩
    · exact ⟨_, way1 e, t, u, _, 0, rfl, su, hn, by omega, by decide, by decide, by omega, fun w hw => ⟨l1, ⟨_, rfl⟩, u, _, 0, rfl, hn, by omega, by decide, by decide, by omega, fun z _ dz => ⟨l2 w, fin w z (by omega) (by omega)⟩⟩⟩
  · rintro Δ1 M1 ⟨rfl, vs, rfl, _, hv⟩
    exact q vs hv
/-- one turn of the first loop -/
theorem turn3 {De : DE} {ns : List Int} {p : Addr} {vs ks : List T} {i j : Nat} {M : Mem} (hM : M p = some (.lst (tsD ks))) (hi : i < ks.length) (hj : j < ks.length) (hl : ks.length ≤ 100) (hk : ∀ k ∈ ks, G k)
    (q : ∀ (ks' : List T) s M', M' p = some (.lst (tsD ks')) → ks.length ≤ ks'.length ∧ ks'.length ≤ ks.length + 1 → (∀ k ∈ ks', G k) → De.nx [.d (.scr ns), .d (.ref p), .d (.lst (tsD vs)), .d (.int (i : Nat)), .d (.int (j : Nat)), s, .un] M') :
    b_law_3 De [.d (.scr ns), .d (.ref p), .d (.lst (tsD vs)), .d (.int (i : Nat)), .d (.int (j : Nat)), .un, .un] M := by
  obtain ⟨a, aa, ma⟩ := tsD_ix hi
  obtain ⟨b, ab, mb⟩ := tsD_ix hj
  have ga := hk a ma
  have gb := hk b mb
  refine ⟨_, hM, _, aa, _, hM, _, ab, a, b, rfl, ga.lt, gb.lt, by decide, ?_⟩
  have hg := join_G ga gb
  revert hg
  generalize joinT a b = o
  intro hg
  have sz := sz_big
  have dl : (tsD ks).length < sizeLine := by unfold tsD; rw [List.length_map]; omega
  have more : ∀ t : T, G t → De.nx [.d (.scr ns), .d (.ref p), .d (.lst (tsD vs)), .d (.int (i : Nat)), .d (.int (j : Nat)), .d t.D, .un] (updM M p (.lst (tsD ks ++ [t.D]))) := by
    intro t gt
    refine q (ks ++ [t]) _ _ ?_ ?_ ?_
    · rw [updM_same]
      unfold tsD
      rw [List.map_append]
      rfl
    · rw [List.length_append]
      exact ⟨Nat.le_add_right _ _, Nat.le_refl _⟩
    · intro k hm
      rcases List.mem_append.mp hm with hm | hm
      · exact hk k hm
      · rcases hm with _ | ⟨_, hm⟩
        · exact gt
        · cases hm
  cases o with
  | none => exact ⟨ff, fun _ => q ks _ M hM ⟨Nat.le_refl _, Nat.le_succ _⟩ hk⟩
  | some t =>
    have m := more t (hg t rfl)
    cases t with
    | n x => exact ⟨fun _ => ⟨⟨_, hM⟩, _, hM, dl, m⟩, tf⟩
    | p x y => exact ⟨fun _ => ⟨⟨_, hM⟩, _, hM, dl, m⟩, tf⟩
/-- the state of the first loop -/
def P1 (ns : List Int) (p : Addr) (vs : List T) (i : Nat) (Δ : List Sl) (M : Mem) : Prop := Δ = [.d (.scr ns), .d (.ref p), .d (.lst (tsD vs)), .un, .un, .un, .un] ∧ ∃ ks : List T, M p = some (.lst (tsD ks)) ∧ 5 ≤ ks.length ∧ ks.length ≤ 5 + i ∧ ∀ k ∈ ks, G k
def P2 (ns : List Int) (p : Addr) (vs : List T) (M0 : Mem) (_ : Nat) (Δ : List Sl) (M : Mem) : Prop := M = M0 ∧ Δ = [.d (.scr ns), .d (.ref p), .d (.lst (tsD vs)), .un, .un, .un, .un]
def P3 (ns : List Int) (p : Addr) (vs : List T) (t : T) (M0 : Mem) (_ : Nat) (Δ : List Sl) (M : Mem) : Prop := M = M0 ∧ Δ = [.d (.scr ns), .d (.ref p), .d (.lst (tsD vs)), .d t.D, .un, .un, .un]
theorem pr1 {i : Nat} {d : D} (h : [D.tup [.int 0, .int 1], .tup [.int 1, .int 2], .tup [.int 2, .int 0]][i]? = some d) : i ≤ 2 ∧ ∃ a b : Nat, a < 5 ∧ b < 5 ∧ d = .tup [.int (a : Nat), .int (b : Nat)] := by
  match i, h with
  | 0, h => cases h; exact ⟨by decide, 0, 1, by decide, by decide, rfl⟩
  | 1, h => cases h; exact ⟨by decide, 1, 2, by decide, by decide, rfl⟩
  | 2, h => cases h; exact ⟨by decide, 2, 0, by decide, by decide, rfl⟩
  | i + 3, h => cases h
theorem red_law : ∀ ds M Φ Ψ, S_law ds M Φ Ψ → r_law (ends Φ) (startD 7 ds) M := by
  rintro ds M Φ Ψ ⟨ns, rfl, hl, q⟩
  refine ⟨ns, rfl, fun ks p hkl hk hp => ?_⟩
  refine ⟨ns, p, ks, rfl, updM_same, hkl, fun k m => (hk k m).2, fun vs hv => ?_⟩
  refine ⟨P1 ns p vs, ⟨rfl, ks, updM_same, by omega, by omega, hk⟩, ?_, ?_⟩
  · rintro i d Δ1 M1 hi ⟨rfl, ks, hM, l1, l2, hk⟩
    obtain ⟨i2, a, b, ha, hb, rfl⟩ := pr1 hi
    refine ⟨rfl, ?_⟩
    refine turn3 (i := a) (j := b) hM (by omega) (by omega) (by omega) hk ?_
    intro ks' s M' hM' hl' hk'
    exact ⟨rfl, ks', hM', by omega, by omega, hk'⟩
  · rintro Δ1 M1 ⟨rfl, ks, hM, l1, l2, hk⟩
    have sz := sz_big
    have dl : (tsD ks).length < sizeLine := by unfold tsD; rw [List.length_map]; have : ks.length ≤ 8 := l2; omega
    refine ⟨⟨_, hM⟩, _, hM, dl, ?_⟩
    have hM2 : updM M1 p (.lst (tsD ks ++ [D.int 0])) p = some (.lst (tsD (ks ++ [.n 0]))) := by
      rw [updM_same]
      unfold tsD
      rw [List.map_append]
      rfl
    have hk2 : ∀ k ∈ ks ++ [T.n 0], G k := by
      intro k hm
      rcases List.mem_append.mp hm with hm | hm
      · exact hk k hm
      · rcases hm with _ | ⟨_, hm⟩
        · exact .n (Int.le_refl _)
        · cases hm
    show r_law_4 (ends Φ) [.d (.scr ns), .d (.ref p), .d (.lst (tsD vs)), .un, .un, .un, .un] (updM M1 p (.lst (tsD ks ++ [D.int 0])))
    generalize updM M1 p (.lst (tsD ks ++ [D.int 0])) = M2 at hM2
    generalize ks ++ [T.n 0] = kk at hM2 hk2
    refine ⟨_, hM2, P2 ns p vs M2, ⟨rfl, rfl⟩, ?_, ?_, ?_⟩
    · rintro i Δ2 M3 ⟨rfl, rfl⟩
      exact hM2
    · rintro i d Δ2 M3 hi ⟨rfl, rfl⟩
      obtain ⟨t, -, mt, rfl⟩ := tsD_at hi
      have gt := hk2 t mt
      have t5 : t.dep ≤ 5 := Nat.le_trans gt.2 (by decide)
      refine ⟨_, hM2, P3 ns p vs t M3, ⟨rfl, rfl⟩, ?_, ?_, ?_⟩
      · rintro i Δ2 M3 ⟨rfl, rfl⟩
        exact hM2
      · rintro i d Δ2 M4 hi ⟨rfl, rfl⟩
        obtain ⟨u, -, mu, rfl⟩ := tsD_at hi
        have gu := hk2 u mu
        have u5 : u.dep ≤ 5 := Nat.le_trans gu.2 (by decide)
        refine ⟨t, u, rfl, gt.lt, gu.lt, by decide, t, u, rfl, gt.lt, gu.lt, by decide, joinT t u, rfl, ?_, by decide, by decide, fun _ => ?_, tf⟩
        · intro x e
          exact Nat.lt_of_lt_of_le (join_G gt gu x e).lt (by decide)
        · exact ⟨t, u, rfl, gt.lt, gu.lt, by decide, gt.1, t, u, rfl, t5, u5, _, rfl, fun _ => ⟨rfl, rfl⟩, tf⟩
      · rintro Δ2 M4 ⟨rfl, rfl⟩
        refine ⟨P3 ns p vs t M4, ⟨rfl, rfl⟩, ?_, ?_⟩
        · rintro i d Δ2 M5 hi ⟨rfl, rfl⟩
          obtain ⟨v, -, mv, rfl⟩ := tsD_at hi
          have v8 : v.dep < 8 := Nat.lt_of_le_of_lt (hv v mv) (by decide)
          have t8 : t.dep < 8 := Nat.lt_of_le_of_lt gt.2 (by decide)
          exact ⟨t, v, rfl, t8, v8, by decide, t, v, rfl, t8, v8, by decide, _, rfl, fun _ => ⟨rfl, rfl⟩, tf⟩
        · rintro Δ2 M5 ⟨rfl, rfl⟩
          exact ⟨rfl, rfl⟩
    · rintro Δ2 M3 ⟨rfl, rfl⟩
      exact q M3
end My

set_option Elab.async false
set_option linter.all false
set_option maxRecDepth 100000
set_option maxHeartbeats 4000000
namespace My
open PySem PySem.Spec PyProof.Rows L2 DL
open Evl (Ex)
def topS (i : Nat) : Stmt := PySem.Challenge.pw_besideandthrough_k05_joined_is_least.main.body.getD i (.Pass ⟨0, 0, 0, 0⟩)
abbrev s_joined : Stmt := topS 1
theorem sc_joined : FnScope ["one", "other", "left", "right"] ["one", "other"] (defScope s_joined) := ⟨rfl, rfl, rfl, by decide +kernel, rfl, by decide +kernel, by decide +kernel⟩

abbrev s_fits : Stmt := topS 2
theorem sc_fits : FnScope ["kind", "other"] ["kind", "other"] (defScope s_fits) := ⟨rfl, rfl, rfl, by decide +kernel, rfl, by decide +kernel, by decide +kernel⟩

abbrev s_has : Stmt := topS 3
theorem sc_has : FnScope ["kind", "value"] ["kind", "value"] (defScope s_has) := ⟨rfl, rfl, rfl, by decide +kernel, rfl, by decide +kernel, by decide +kernel⟩

abbrev s_law_row : Stmt := topS 5
theorem sc_law_row : FnScope ["_law_script", "_law_k", "_law_count", "_law_cell", "_law_row_here", "_law_at", "_law_seed"] ["_law_script", "_law_k", "_law_count"] (defScope s_law_row) := ⟨rfl, rfl, rfl, by decide +kernel, rfl, by decide +kernel, by decide +kernel⟩

abbrev s_law_equal : Stmt := topS 6
theorem sc_law_equal : FnScope ["_law_told", "_law_due", "_law_at"] ["_law_told", "_law_due"] (defScope s_law_equal) := ⟨rfl, rfl, rfl, by decide +kernel, rfl, by decide +kernel, by decide +kernel⟩

abbrev s_law_says : Stmt := topS 7
theorem sc_law_says : FnScope ["_law_told", "_law_due"] ["_law_told", "_law_due"] (defScope s_law_says) := ⟨rfl, rfl, rfl, by decide +kernel, rfl, by decide +kernel, by decide +kernel⟩

abbrev s_law_kind : Stmt := topS 8
theorem sc_law_kind : FnScope ["_law_shapes", "_law_numbers", "_law_place", "_law_deep", "_law_most", "_law_first"] ["_law_shapes", "_law_numbers", "_law_place", "_law_deep", "_law_most"] (defScope s_law_kind) := ⟨rfl, rfl, rfl, by decide +kernel, rfl, by decide +kernel, by decide +kernel⟩

abbrev s_law_near : Stmt := topS 9
theorem sc_law_near : FnScope ["_law_kind_here", "_law_numbers", "_law_place", "_law_menu", "_law_first"] ["_law_kind_here", "_law_numbers", "_law_place", "_law_menu"] (defScope s_law_near) := ⟨rfl, rfl, rfl, by decide +kernel, rfl, by decide +kernel, by decide +kernel⟩

abbrev s_law_exchanged : Stmt := topS 10
theorem sc_law_exchanged : FnScope ["_law_kind_here", "_law_row_here", "_law_level", "_law_way", "_law_part"] ["_law_kind_here", "_law_row_here", "_law_level"] (defScope s_law_exchanged) := ⟨rfl, rfl, rfl, by decide +kernel, rfl, by decide +kernel, by decide +kernel⟩

abbrev s_law_join : Stmt := topS 11
theorem sc_law_join : FnScope ["_law_one", "_law_other", "_law_first", "_law_second"] ["_law_one", "_law_other"] (defScope s_law_join) := ⟨rfl, rfl, rfl, by decide +kernel, rfl, by decide +kernel, by decide +kernel⟩

abbrev s_law_has : Stmt := topS 12
theorem sc_law_has : FnScope ["_law_kind_here", "_law_value_here"] ["_law_kind_here", "_law_value_here"] (defScope s_law_has) := ⟨rfl, rfl, rfl, by decide +kernel, rfl, by decide +kernel, by decide +kernel⟩

abbrev s_law_top : Stmt := topS 13
theorem sc_law_top : FnScope ["_law_kind_here"] ["_law_kind_here"] (defScope s_law_top) := ⟨rfl, rfl, rfl, by decide +kernel, rfl, by decide +kernel, by decide +kernel⟩

abbrev s_law_fits : Stmt := topS 14
theorem sc_law_fits : FnScope ["_law_one", "_law_other"] ["_law_one", "_law_other"] (defScope s_law_fits) := ⟨rfl, rfl, rfl, by decide +kernel, rfl, by decide +kernel, by decide +kernel⟩

abbrev s_law_value : Stmt := topS 15
theorem sc_law_value : FnScope ["_law_kind_here", "_law_numbers", "_law_place"] ["_law_kind_here", "_law_numbers", "_law_place"] (defScope s_law_value) := ⟨rfl, rfl, rfl, by decide +kernel, rfl, by decide +kernel, by decide +kernel⟩

abbrev s_law_beyond : Stmt := topS 16
theorem sc_law_beyond : FnScope ["_law_kind_here", "_law_value_here", "_law_row_here", "_law_level", "_law_way", "_law_part"] ["_law_kind_here", "_law_value_here", "_law_row_here", "_law_level"] (defScope s_law_beyond) := ⟨rfl, rfl, rfl, by decide +kernel, rfl, by decide +kernel, by decide +kernel⟩

abbrev s_law_kinds : Stmt := topS 17
theorem sc_law_kinds : FnScope ["_law_script", "_law_row_here", "_law_most", "_law_a", "_law_numbers", "_law_b", "_law_c", "_law_both"] ["_law_script"] (defScope s_law_kinds) := ⟨rfl, rfl, rfl, by decide +kernel, rfl, by decide +kernel, by decide +kernel⟩

abbrev s_law_values : Stmt := topS 18
theorem sc_law_values : FnScope ["_law_script", "_law_kinds_here", "_law_values_here", "_law_at", "_law_numbers", "_law_value_here", "_law_top_here"] ["_law_script", "_law_kinds_here"] (defScope s_law_values) := ⟨rfl, rfl, rfl, by decide +kernel, rfl, by decide +kernel, by decide +kernel⟩

abbrev s_law : Stmt := topS 19
theorem sc_law : FnScope ["_law_script", "_law_kinds_here", "_law_values_here", "_law_one", "_law_other", "_law_both", "_law_value_here"] ["_law_script"] (defScope s_law) := ⟨rfl, rfl, rfl, by decide +kernel, rfl, by decide +kernel, by decide +kernel⟩

structure Txt (K : PySem.W.Frag) (mg : Str → Option Value) where
  f_joined : Addr
  d_joined : FuncData
  F_joined : Fun K "joined" "joined" s_joined f_joined d_joined
  b_joined : Binds K d_joined ["one", "other"] []
  m_joined : mg "joined" = some (.ref f_joined)
  f_fits : Addr
  d_fits : FuncData
  F_fits : Fun K "fits" "fits" s_fits f_fits d_fits
  b_fits : Binds K d_fits ["kind", "other"] []
  m_fits : mg "fits" = some (.ref f_fits)
  f_has : Addr
  d_has : FuncData
  F_has : Fun K "has" "has" s_has f_has d_has
  b_has : Binds K d_has ["kind", "value"] []
  m_has : mg "has" = some (.ref f_has)
  f_law_row : Addr
  d_law_row : FuncData
  F_law_row : Fun K "_law_row" "_law_row" s_law_row f_law_row d_law_row
  b_law_row : Binds K d_law_row ["_law_script", "_law_k", "_law_count"] []
  m_law_row : mg "_law_row" = some (.ref f_law_row)
  f_law_equal : Addr
  d_law_equal : FuncData
  F_law_equal : Fun K "_law_equal" "_law_equal" s_law_equal f_law_equal d_law_equal
  b_law_equal : Binds K d_law_equal ["_law_told", "_law_due"] []
  m_law_equal : mg "_law_equal" = some (.ref f_law_equal)
  f_law_says : Addr
  d_law_says : FuncData
  F_law_says : Fun K "_law_says" "_law_says" s_law_says f_law_says d_law_says
  b_law_says : Binds K d_law_says ["_law_told", "_law_due"] []
  m_law_says : mg "_law_says" = some (.ref f_law_says)
  f_law_kind : Addr
  d_law_kind : FuncData
  F_law_kind : Fun K "_law_kind" "_law_kind" s_law_kind f_law_kind d_law_kind
  b_law_kind : Binds K d_law_kind ["_law_shapes", "_law_numbers", "_law_place", "_law_deep", "_law_most"] []
  m_law_kind : mg "_law_kind" = some (.ref f_law_kind)
  f_law_near : Addr
  d_law_near : FuncData
  F_law_near : Fun K "_law_near" "_law_near" s_law_near f_law_near d_law_near
  b_law_near : Binds K d_law_near ["_law_kind_here", "_law_numbers", "_law_place", "_law_menu"] []
  m_law_near : mg "_law_near" = some (.ref f_law_near)
  f_law_exchanged : Addr
  d_law_exchanged : FuncData
  F_law_exchanged : Fun K "_law_exchanged" "_law_exchanged" s_law_exchanged f_law_exchanged d_law_exchanged
  b_law_exchanged : Binds K d_law_exchanged ["_law_kind_here", "_law_row_here", "_law_level"] []
  m_law_exchanged : mg "_law_exchanged" = some (.ref f_law_exchanged)
  f_law_join : Addr
  d_law_join : FuncData
  F_law_join : Fun K "_law_join" "_law_join" s_law_join f_law_join d_law_join
  b_law_join : Binds K d_law_join ["_law_one", "_law_other"] []
  m_law_join : mg "_law_join" = some (.ref f_law_join)
  f_law_has : Addr
  d_law_has : FuncData
  F_law_has : Fun K "_law_has" "_law_has" s_law_has f_law_has d_law_has
  b_law_has : Binds K d_law_has ["_law_kind_here", "_law_value_here"] []
  m_law_has : mg "_law_has" = some (.ref f_law_has)
  f_law_top : Addr
  d_law_top : FuncData
  F_law_top : Fun K "_law_top" "_law_top" s_law_top f_law_top d_law_top
  b_law_top : Binds K d_law_top ["_law_kind_here"] []
  m_law_top : mg "_law_top" = some (.ref f_law_top)
  f_law_fits : Addr
  d_law_fits : FuncData
  F_law_fits : Fun K "_law_fits" "_law_fits" s_law_fits f_law_fits d_law_fits
  b_law_fits : Binds K d_law_fits ["_law_one", "_law_other"] []
  m_law_fits : mg "_law_fits" = some (.ref f_law_fits)
  f_law_value : Addr
  d_law_value : FuncData
  F_law_value : Fun K "_law_value" "_law_value" s_law_value f_law_value d_law_value
  b_law_value : Binds K d_law_value ["_law_kind_here", "_law_numbers", "_law_place"] []
  m_law_value : mg "_law_value" = some (.ref f_law_value)
  f_law_beyond : Addr
  d_law_beyond : FuncData
  F_law_beyond : Fun K "_law_beyond" "_law_beyond" s_law_beyond f_law_beyond d_law_beyond
  b_law_beyond : Binds K d_law_beyond ["_law_kind_here", "_law_value_here", "_law_row_here", "_law_level"] []
  m_law_beyond : mg "_law_beyond" = some (.ref f_law_beyond)
  f_law_kinds : Addr
  d_law_kinds : FuncData
  F_law_kinds : Fun K "_law_kinds" "_law_kinds" s_law_kinds f_law_kinds d_law_kinds
  b_law_kinds : Binds K d_law_kinds ["_law_script"] []
  m_law_kinds : mg "_law_kinds" = some (.ref f_law_kinds)
  f_law_values : Addr
  d_law_values : FuncData
  F_law_values : Fun K "_law_values" "_law_values" s_law_values f_law_values d_law_values
  b_law_values : Binds K d_law_values ["_law_script", "_law_kinds_here"] []
  m_law_values : mg "_law_values" = some (.ref f_law_values)
  f_law : Addr
  d_law : FuncData
  F_law : Fun K "law" "law" s_law f_law d_law
  b_law : Binds K d_law ["_law_script"] []
  m_law : mg "law" = some (.ref f_law)
  z_bool : mg "bool" = none
  z_int : mg "int" = none
  z_isinstance : mg "isinstance" = none
  z_len : mg "len" = none
  z_list : mg "list" = none
  z_max : mg "max" = none
  z_min : mg "min" = none
  z_range : mg "range" = none
  z_str : mg "str" = none
  z_tuple : mg "tuple" = none
section
variable {P : Program} {w : World} {K : PySem.W.Frag} {mg : Str → Option Value} {base : Heap}
theorem ok_joined (T : Txt K mg) : ∀ n, FnOk P w K mg base CX0 (0 + n) T.f_joined T.d_joined ["one", "other"] (spOf K (S_joined n))
  | 0 => fn_never nv_joined
  | n + 1 => by
    have ih := ok_joined T n
    refine fn_ok T.F_joined sc_joined (ar_joined (n + 1)) fun cdv A outer s H E Z hr => ⟨r_joined n, ?_, red_joined n⟩
    exact (qss_cons (qs_if (qw_or (qt_cmp (op_eqA hr.units) od_eqA (qe_var 0) qe_int) (qw_or1 (qt_cmp (op_eqA hr.units) od_eqA (qe_var 1) qe_int))).qt (qss_one (qs_ret (qe_if (qt_cmp (op_eqA hr.units) od_eqA (qe_var 0) qe_int) (qe_var 1) (qe_var 0)))) qss_nil)
      (qss_cons (qs_if (qt_cmp (op_neA hr.units) od_neA (qe_isi (qe_var 0) (by rfl) T.z_isinstance (by rfl) T.z_tuple (by decide +kernel)) (qe_isi (qe_var 1) (by rfl) T.z_isinstance (by rfl) T.z_tuple (by decide +kernel))) (qss_one (qs_ret qe_non)) qss_nil)
      (qss_cons (qs_if (qt_not (qt_truth (qe_isi (qe_var 0) (by rfl) T.z_isinstance (by rfl) T.z_tuple (by decide +kernel)))) (qss_one (qs_ret (qe_max2 (by rfl) (by rfl) T.z_max (qa_cons (qe_var 0) (qa_cons (qe_var 1) qa_nil))))) qss_nil)
      (qss_cons (qs_set (i := 2) sc_joined.nd (qe_call ih hr (by rfl) T.m_joined T.F_joined.kp T.b_joined (qa_cons (qe_ix (qe_var 0) qe_int) (qa_cons (qe_ix (qe_var 1) qe_int) qa_nil))))
      (qss_cons (qs_set (i := 3) sc_joined.nd (qe_call ih hr (by rfl) T.m_joined T.F_joined.kp T.b_joined (qa_cons (qe_ix (qe_var 0) qe_int) (qa_cons (qe_ix (qe_var 1) qe_int) qa_nil))))
      (qss_one (qs_ret (qe_if (qw_or (qt_cmp op_isNo od_isN (qe_var 2) qe_non) (qw_or1 (qt_cmp op_isNo od_isN (qe_var 3) qe_non))).qt qe_non (qe_tup (qa_cons (qe_var 2) (qa_cons (qe_var 3) qa_nil)))))))))))

theorem ok_fits (T : Txt K mg) : ∀ n, FnOk P w K mg base CX0 (0 + n) T.f_fits T.d_fits ["kind", "other"] (spOf K (S_fits n))
  | 0 => fn_never nv_fits
  | n + 1 => by
    have ih := ok_fits T n
    refine fn_ok T.F_fits sc_fits (ar_fits (n + 1)) fun cdv A outer s H E Z hr => ⟨r_fits n, ?_, red_fits n⟩
    exact (qss_cons (qs_if (qt_cmp (op_eqA hr.units) od_eqA (qe_var 0) qe_int) (qss_one (qs_ret qe_bl)) qss_nil)
      (qss_cons (qs_if (qt_cmp (op_neA hr.units) od_neA (qe_isi (qe_var 0) (by rfl) T.z_isinstance (by rfl) T.z_tuple (by decide +kernel)) (qe_isi (qe_var 1) (by rfl) T.z_isinstance (by rfl) T.z_tuple (by decide +kernel))) (qss_one (qs_ret qe_bl)) qss_nil)
      (qss_cons (qs_if (qt_not (qt_truth (qe_isi (qe_var 0) (by rfl) T.z_isinstance (by rfl) T.z_tuple (by decide +kernel)))) (qss_one (qs_ret (qe_cmp op_le od_le (qe_var 0) (qe_var 1)))) qss_nil)
      (qss_one (qs_ret (qe_and (qe_call ih hr (by rfl) T.m_fits T.F_fits.kp T.b_fits (qa_cons (qe_ix (qe_var 0) qe_int) (qa_cons (qe_ix (qe_var 1) qe_int) qa_nil))) (qe_one (qe_call ih hr (by rfl) T.m_fits T.F_fits.kp T.b_fits (qa_cons (qe_ix (qe_var 0) qe_int) (qa_cons (qe_ix (qe_var 1) qe_int) qa_nil))))))))))

theorem ok_has (T : Txt K mg) : ∀ n, FnOk P w K mg base CX0 (0 + n) T.f_has T.d_has ["kind", "value"] (spOf K (S_has n))
  | 0 => fn_never nv_has
  | n + 1 => by
    have ih := ok_has T n
    refine fn_ok T.F_has sc_has (ar_has (n + 1)) fun cdv A outer s H E Z hr => ⟨r_has n, ?_, red_has n⟩
    exact (qss_cons (qs_if (qt_cmp (op_neA hr.units) od_neA (qe_isi (qe_var 0) (by rfl) T.z_isinstance (by rfl) T.z_tuple (by decide +kernel)) (qe_isi (qe_var 1) (by rfl) T.z_isinstance (by rfl) T.z_tuple (by decide +kernel))) (qss_one (qs_ret qe_bl)) qss_nil)
      (qss_cons (qs_if (qt_not (qt_truth (qe_isi (qe_var 0) (by rfl) T.z_isinstance (by rfl) T.z_tuple (by decide +kernel)))) (qss_one (qs_ret (qe_cmp op_lt od_lt (qe_var 1) (qe_var 0)))) qss_nil)
      (qss_one (qs_ret (qe_and (qe_call ih hr (by rfl) T.m_has T.F_has.kp T.b_has (qa_cons (qe_ix (qe_var 0) qe_int) (qa_cons (qe_ix (qe_var 1) qe_int) qa_nil))) (qe_one (qe_call ih hr (by rfl) T.m_has T.F_has.kp T.b_has (qa_cons (qe_ix (qe_var 0) qe_int) (qa_cons (qe_ix (qe_var 1) qe_int) qa_nil)))))))))

theorem ok_law_row (T : Txt K mg) : FnOk P w K mg base CX0 1 T.f_law_row T.d_law_row ["_law_script", "_law_k", "_law_count"] (spOf K S_law_row) := by
  refine fn_ok T.F_law_row sc_law_row ar_law_row fun cdv A outer s H E Z hr => ⟨r_law_row, ?_, red_law_row⟩
  exact (qss_cons (qs_set (i := 3) sc_law_row.nd qe_int)
      (qss_cons (qs_if (qt_cmp op_lt od_lt (qe_var 1) (qe_len (by rfl) T.z_len (qa_cons (qe_var 0) qa_nil))) (qss_one (qs_set (i := 3) sc_law_row.nd (qe_int1 (by rfl) T.z_int (qa_cons (qe_ix (qe_var 0) (qe_var 1)) qa_nil)))) qss_nil)
      (qss_cons (qs_setO (i := 4) sc_law_row.nd (ql_lst qa_nil))
      (qss_cons (qs_if (qt_cmp op_ge od_ge (qe_var 3) (qe_pow qe_int qe_int)) (qss_cons (qs_forR (j := 5) (js := [5]) PassesOwn.never (by rfl) sc_law_row.nd (by rfl) T.z_range (qe_var 2) (qss_cons (qs_app (j := 4) (qe_mod (qe_int1 (by rfl) T.z_int (qa_cons (qe_var 3) qa_nil)) qe_int))
    (qss_one (qs_set (i := 3) sc_law_row.nd (qe_fdivA (qe_var 3) qe_int)))))
    (qss_one (qs_ret (qe_var 4)))) qss_nil)
      (qss_cons (qs_set (i := 6) sc_law_row.nd (qe_mod (qe_int1 (by rfl) T.z_int (qa_cons (qe_add (qe_add (qe_mulA (qe_var 3) qe_int) (qe_mulA (qe_var 1) qe_int)) qe_int) qa_nil)) qe_int))
      (qss_cons (qs_forR (j := 5) (js := [5]) PassesOwn.never (by rfl) sc_law_row.nd (by rfl) T.z_range (qe_var 2) (qss_cons (qs_set (i := 6) sc_law_row.nd (qe_mod (qe_int1 (by rfl) T.z_int (qa_cons (qe_add (qe_add (qe_mulA (qe_var 6) qe_int) (qe_mulA (qe_var 5) qe_int)) qe_int) qa_nil)) qe_int))
    (qss_one (qs_app (j := 4) (qe_mod (qe_fdivA (qe_var 6) qe_int) qe_int)))))
      (qss_one (qs_ret (qe_var 4)))))))))

theorem ok_law_equal (T : Txt K mg) : ∀ n, FnOk P w K mg base CX0 (0 + n) T.f_law_equal T.d_law_equal ["_law_told", "_law_due"] (spOf K (S_law_equal n))
  | 0 => fn_never nv_law_equal
  | n + 1 => by
    have ih := ok_law_equal T n
    refine fn_ok T.F_law_equal sc_law_equal (ar_law_equal (n + 1)) fun cdv A outer s H E Z hr => ⟨r_law_equal n, ?_, red_law_equal n⟩
    exact (qss_cons (qs_if (qw_or (qt_truth (qe_isi (qe_var 1) (by rfl) T.z_isinstance (by rfl) T.z_tuple (by decide +kernel))) (qw_or1 (qt_truth (qe_isi (qe_var 1) (by rfl) T.z_isinstance (by rfl) T.z_list (by decide +kernel))))).qt (qss_cons (qs_if (qw_or (qt_cmp (op_neA hr.units) od_neA (qe_isi (qe_var 1) (by rfl) T.z_isinstance (by rfl) T.z_tuple (by decide +kernel)) (qe_isi (qe_var 0) (by rfl) T.z_isinstance (by rfl) T.z_tuple (by decide +kernel))) (qw_or1 (qt_cmp (op_neA hr.units) od_neA (qe_isi (qe_var 1) (by rfl) T.z_isinstance (by rfl) T.z_list (by decide +kernel)) (qe_isi (qe_var 0) (by rfl) T.z_isinstance (by rfl) T.z_list (by decide +kernel))))).qt (qss_one (qs_ret qe_bl)) qss_nil)
    (qss_cons (qs_if (qt_cmp (op_neA hr.units) od_neA (qe_len (by rfl) T.z_len (qa_cons (qe_var 0) qa_nil)) (qe_len (by rfl) T.z_len (qa_cons (qe_var 1) qa_nil))) (qss_one (qs_ret qe_bl)) qss_nil)
    (qss_cons (qs_forR (j := 2) (js := [2]) PassesOwn.never (by rfl) sc_law_equal.nd (by rfl) T.z_range (qe_len (by rfl) T.z_len (qa_cons (qe_var 1) qa_nil)) (qss_one (qs_if (qt_not (qt_truth (qe_call ih hr (by rfl) T.m_law_equal T.F_law_equal.kp T.b_law_equal (qa_cons (qe_ix (qe_var 0) (qe_var 2)) (qa_cons (qe_ix (qe_var 1) (qe_var 2)) qa_nil))))) (qss_one (qs_ret qe_bl)) qss_nil)))
    (qss_one (qs_ret qe_bl))))) qss_nil)
      (qss_cons (qs_if (qw_or (qt_truth (qe_isi (qe_var 1) (by rfl) T.z_isinstance (by rfl) T.z_bool (by decide +kernel))) (qw_or1 (qt_truth (qe_isi (qe_var 0) (by rfl) T.z_isinstance (by rfl) T.z_bool (by decide +kernel))))).qt (qss_one (qs_ret (qe_and (qe_isi (qe_var 1) (by rfl) T.z_isinstance (by rfl) T.z_bool (by decide +kernel)) (qe_and (qe_isi (qe_var 0) (by rfl) T.z_isinstance (by rfl) T.z_bool (by decide +kernel)) (qe_one (qe_cmp (op_eqA hr.units) od_eqA (qe_var 0) (qe_var 1))))))) qss_nil)
      (qss_cons (qs_if (qt_truth (qe_isi (qe_var 1) (by rfl) T.z_isinstance (by rfl) T.z_int (by decide +kernel))) (qss_one (qs_ret (qe_and (qe_isi (qe_var 0) (by rfl) T.z_isinstance (by rfl) T.z_int (by decide +kernel)) (qe_one (qe_cmp (op_eqA hr.units) od_eqA (qe_var 0) (qe_var 1)))))) qss_nil)
      (qss_cons (qs_if (qt_truth (qe_isi (qe_var 1) (by rfl) T.z_isinstance (by rfl) T.z_str (by decide +kernel))) (qss_one (qs_ret (qe_and (qe_isi (qe_var 0) (by rfl) T.z_isinstance (by rfl) T.z_str (by decide +kernel)) (qe_one (qe_cmp (op_eqA hr.units) od_eqA (qe_var 0) (qe_var 1)))))) qss_nil)
      (qss_one (qs_ret (qe_and (qe_cmp op_isNo od_isN (qe_var 0) qe_non) (qe_one (qe_cmp op_isNo od_isN (qe_var 1) qe_non)))))))))

theorem ok_law_says (T : Txt K mg) : FnOk P w K mg base CX0 1 T.f_law_says T.d_law_says ["_law_told", "_law_due"] (spOf K S_law_says) := by
  refine fn_ok T.F_law_says sc_law_says ar_law_says fun cdv A outer s H E Z hr => ⟨r_law_says, ?_, red_law_says⟩
  exact (qss_cons (qs_if (qt_truth (qe_var 1)) (qss_one (qs_ret (qe_cmp op_isBl od_isB (qe_var 0) qe_bl))) qss_nil)
      (qss_one (qs_ret (qe_cmp op_isBl od_isB (qe_var 0) qe_bl))))

theorem ok_law_kind (T : Txt K mg) : ∀ n, FnOk P w K mg base CX0 (0 + n) T.f_law_kind T.d_law_kind ["_law_shapes", "_law_numbers", "_law_place", "_law_deep", "_law_most"] (spOf K (S_law_kind n))
  | 0 => fn_never nv_law_kind
  | n + 1 => by
    have ih := ok_law_kind T n
    refine fn_ok T.F_law_kind sc_law_kind (ar_law_kind (n + 1)) fun cdv A outer s H E Z hr => ⟨r_law_kind n, ?_, red_law_kind n⟩
    exact (qss_cons (qs_if (qw_and (qt_cmp op_gt od_gt (qe_var 3) qe_int) (qw_and1 (qt_cmp op_gt od_gt (qe_mod (qe_int1 (by rfl) T.z_int (qa_cons (qe_ix (qe_var 0) (qe_var 2)) qa_nil)) qe_int) qe_int))).qt (qss_cons (qs_set (i := 5) sc_law_kind.nd (qe_call ih hr (by rfl) T.m_law_kind T.F_law_kind.kp T.b_law_kind (qa_cons (qe_var 0) (qa_cons (qe_var 1) (qa_cons (qe_mulA qe_int (qe_var 2)) (qa_cons (qe_sub (qe_var 3) qe_int) (qa_cons (qe_var 4) qa_nil)))))))
    (qss_one (qs_ret (qe_tup (qa_cons (qe_var 5) (qa_cons (qe_call ih hr (by rfl) T.m_law_kind T.F_law_kind.kp T.b_law_kind (qa_cons (qe_var 0) (qa_cons (qe_var 1) (qa_cons (qe_add (qe_mulA qe_int (qe_var 2)) qe_int) (qa_cons (qe_sub (qe_var 3) qe_int) (qa_cons (qe_var 4) qa_nil)))))) qa_nil)))))) qss_nil)
      (qss_one (qs_ret (qe_add qe_int (qe_mod (qe_int1 (by rfl) T.z_int (qa_cons (qe_ix (qe_var 1) (qe_var 2)) qa_nil)) (qe_var 4))))))

theorem ok_law_near (T : Txt K mg) : ∀ n, FnOk P w K mg base CX0 (0 + n) T.f_law_near T.d_law_near ["_law_kind_here", "_law_numbers", "_law_place", "_law_menu"] (spOf K (S_law_near n))
  | 0 => fn_never nv_law_near
  | n + 1 => by
    have ih := ok_law_near T n
    refine fn_ok T.F_law_near sc_law_near (ar_law_near (n + 1)) fun cdv A outer s H E Z hr => ⟨r_law_near n, ?_, red_law_near n⟩
    exact (qss_cons (qs_if (qt_truth (qe_isi (qe_var 0) (by rfl) T.z_isinstance (by rfl) T.z_tuple (by decide +kernel))) (qss_cons (qs_set (i := 4) sc_law_near.nd (qe_call ih hr (by rfl) T.m_law_near T.F_law_near.kp T.b_law_near (qa_cons (qe_ix (qe_var 0) qe_int) (qa_cons (qe_var 1) (qa_cons (qe_mulA qe_int (qe_var 2)) (qa_cons (qe_var 3) qa_nil))))))
    (qss_one (qs_ret (qe_tup (qa_cons (qe_var 4) (qa_cons (qe_call ih hr (by rfl) T.m_law_near T.F_law_near.kp T.b_law_near (qa_cons (qe_ix (qe_var 0) qe_int) (qa_cons (qe_var 1) (qa_cons (qe_add (qe_mulA qe_int (qe_var 2)) qe_int) (qa_cons (qe_var 3) qa_nil))))) qa_nil)))))) qss_nil)
      (qss_one (qs_ret (qe_max2 (by rfl) (by rfl) T.z_max (qa_cons qe_int (qa_cons (qe_min2 (by rfl) (by rfl) T.z_min (qa_cons qe_int (qa_cons (qe_add (qe_var 0) (qe_ix (qe_var 3) (qe_mod (qe_int1 (by rfl) T.z_int (qa_cons (qe_ix (qe_var 1) (qe_var 2)) qa_nil)) (qe_len (by rfl) T.z_len (qa_cons (qe_var 3) qa_nil))))) qa_nil))) qa_nil))))))

theorem ok_law_exchanged (T : Txt K mg) : ∀ n, FnOk P w K mg base CX0 (0 + n) T.f_law_exchanged T.d_law_exchanged ["_law_kind_here", "_law_row_here", "_law_level"] (spOf K (S_law_exchanged n))
  | 0 => fn_never nv_law_exchanged
  | n + 1 => by
    have ih := ok_law_exchanged T n
    refine fn_ok T.F_law_exchanged sc_law_exchanged (ar_law_exchanged (n + 1)) fun cdv A outer s H E Z hr => ⟨r_law_exchanged n, ?_, red_law_exchanged n⟩
    exact (qss_cons (qs_if (qt_truth (qe_isi (qe_var 0) (by rfl) T.z_isinstance (by rfl) T.z_tuple (by decide +kernel))) (qss_cons (qs_if (qt_cmp (op_eqA hr.units) od_eqA (qe_mod (qe_ix (qe_var 1) (qe_var 2)) qe_int) qe_int) (qss_one (qs_ret (qe_add qe_int (qe_mod (qe_int1 (by rfl) T.z_int (qa_cons (qe_ix (qe_var 1) qe_int) qa_nil)) qe_int)))) qss_nil)
    (qss_cons (qs_set (i := 3) sc_law_exchanged.nd (qe_mod (qe_fdivA (qe_int1 (by rfl) T.z_int (qa_cons (qe_ix (qe_var 1) (qe_var 2)) qa_nil)) qe_int) qe_int))
    (qss_cons (qs_set (i := 4) sc_law_exchanged.nd (qe_call ih hr (by rfl) T.m_law_exchanged T.F_law_exchanged.kp T.b_law_exchanged (qa_cons (qe_ix (qe_var 0) (qe_var 3)) (qa_cons (qe_var 1) (qa_cons (qe_add (qe_var 2) qe_int) qa_nil)))))
    (qss_cons (qs_if (qt_cmp (op_eqA hr.units) od_eqA (qe_var 3) qe_int) (qss_one (qs_ret (qe_tup (qa_cons (qe_var 4) (qa_cons (qe_ix (qe_var 0) qe_int) qa_nil))))) qss_nil)
    (qss_one (qs_ret (qe_tup (qa_cons (qe_ix (qe_var 0) qe_int) (qa_cons (qe_var 4) qa_nil))))))))) qss_nil)
      (qss_cons (qs_if (qt_cmp op_lt od_lt (qe_var 2) qe_int) (qss_one (qs_ret (qe_tup (qa_cons (qe_max2 (by rfl) (by rfl) T.z_max (qa_cons qe_int (qa_cons (qe_var 0) qa_nil))) (qa_cons (qe_add qe_int (qe_mod (qe_int1 (by rfl) T.z_int (qa_cons (qe_ix (qe_var 1) qe_int) qa_nil)) qe_int)) qa_nil))))) qss_nil)
      (qss_one (qs_ret (qe_max2 (by rfl) (by rfl) T.z_max (qa_cons qe_int (qa_cons (qe_sub (qe_var 0) qe_int) qa_nil)))))))

theorem ok_law_join (T : Txt K mg) : ∀ n, FnOk P w K mg base CX0 (0 + n) T.f_law_join T.d_law_join ["_law_one", "_law_other"] (spOf K (S_law_join n))
  | 0 => fn_never nv_law_join
  | n + 1 => by
    have ih := ok_law_join T n
    refine fn_ok T.F_law_join sc_law_join (ar_law_join (n + 1)) fun cdv A outer s H E Z hr => ⟨r_law_join n, ?_, red_law_join n⟩
    exact (qss_cons (qs_if (qt_cmp (op_eqA hr.units) od_eqA (qe_var 0) qe_int) (qss_one (qs_ret (qe_var 1))) qss_nil)
      (qss_cons (qs_if (qt_cmp (op_eqA hr.units) od_eqA (qe_var 1) qe_int) (qss_one (qs_ret (qe_var 0))) qss_nil)
      (qss_cons (qs_if (qw_and (qt_truth (qe_isi (qe_var 0) (by rfl) T.z_isinstance (by rfl) T.z_tuple (by decide +kernel))) (qw_and1 (qt_truth (qe_isi (qe_var 1) (by rfl) T.z_isinstance (by rfl) T.z_tuple (by decide +kernel))))).qt (qss_cons (qs_set (i := 2) sc_law_join.nd (qe_call ih hr (by rfl) T.m_law_join T.F_law_join.kp T.b_law_join (qa_cons (qe_ix (qe_var 0) qe_int) (qa_cons (qe_ix (qe_var 1) qe_int) qa_nil))))
    (qss_cons (qs_set (i := 3) sc_law_join.nd (qe_call ih hr (by rfl) T.m_law_join T.F_law_join.kp T.b_law_join (qa_cons (qe_ix (qe_var 0) qe_int) (qa_cons (qe_ix (qe_var 1) qe_int) qa_nil))))
    (qss_cons (qs_if (qw_or (qt_cmp op_isNo od_isN (qe_var 2) qe_non) (qw_or1 (qt_cmp op_isNo od_isN (qe_var 3) qe_non))).qt (qss_one (qs_ret qe_non)) qss_nil)
    (qss_one (qs_ret (qe_tup (qa_cons (qe_var 2) (qa_cons (qe_var 3) qa_nil)))))))) qss_nil)
      (qss_cons (qs_if (qw_or (qt_truth (qe_isi (qe_var 0) (by rfl) T.z_isinstance (by rfl) T.z_tuple (by decide +kernel))) (qw_or1 (qt_truth (qe_isi (qe_var 1) (by rfl) T.z_isinstance (by rfl) T.z_tuple (by decide +kernel))))).qt (qss_one (qs_ret qe_non)) qss_nil)
      (qss_one (qs_ret (qe_max2 (by rfl) (by rfl) T.z_max (qa_cons (qe_var 0) (qa_cons (qe_var 1) qa_nil)))))))))

theorem ok_law_has (T : Txt K mg) : ∀ n, FnOk P w K mg base CX0 (0 + n) T.f_law_has T.d_law_has ["_law_kind_here", "_law_value_here"] (spOf K (S_law_has n))
  | 0 => fn_never nv_law_has
  | n + 1 => by
    have ih := ok_law_has T n
    refine fn_ok T.F_law_has sc_law_has (ar_law_has (n + 1)) fun cdv A outer s H E Z hr => ⟨r_law_has n, ?_, red_law_has n⟩
    exact (qss_cons (qs_if (qw_and (qt_truth (qe_isi (qe_var 0) (by rfl) T.z_isinstance (by rfl) T.z_tuple (by decide +kernel))) (qw_and1 (qt_truth (qe_isi (qe_var 1) (by rfl) T.z_isinstance (by rfl) T.z_tuple (by decide +kernel))))).qt (qss_one (qs_ret (qe_and (qe_call ih hr (by rfl) T.m_law_has T.F_law_has.kp T.b_law_has (qa_cons (qe_ix (qe_var 0) qe_int) (qa_cons (qe_ix (qe_var 1) qe_int) qa_nil))) (qe_one (qe_call ih hr (by rfl) T.m_law_has T.F_law_has.kp T.b_law_has (qa_cons (qe_ix (qe_var 0) qe_int) (qa_cons (qe_ix (qe_var 1) qe_int) qa_nil))))))) qss_nil)
      (qss_cons (qs_if (qw_or (qt_truth (qe_isi (qe_var 0) (by rfl) T.z_isinstance (by rfl) T.z_tuple (by decide +kernel))) (qw_or1 (qt_truth (qe_isi (qe_var 1) (by rfl) T.z_isinstance (by rfl) T.z_tuple (by decide +kernel))))).qt (qss_one (qs_ret qe_bl)) qss_nil)
      (qss_one (qs_ret (qe_cmp op_lt od_lt (qe_var 1) (qe_var 0))))))

theorem ok_law_top (T : Txt K mg) : ∀ n, FnOk P w K mg base CX0 (0 + n) T.f_law_top T.d_law_top ["_law_kind_here"] (spOf K (S_law_top n))
  | 0 => fn_never nv_law_top
  | n + 1 => by
    have ih := ok_law_top T n
    refine fn_ok T.F_law_top sc_law_top (ar_law_top (n + 1)) fun cdv A outer s H E Z hr => ⟨r_law_top n, ?_, red_law_top n⟩
    exact (qss_cons (qs_if (qt_truth (qe_isi (qe_var 0) (by rfl) T.z_isinstance (by rfl) T.z_tuple (by decide +kernel))) (qss_one (qs_ret (qe_tup (qa_cons (qe_call ih hr (by rfl) T.m_law_top T.F_law_top.kp T.b_law_top (qa_cons (qe_ix (qe_var 0) qe_int) qa_nil)) (qa_cons (qe_call ih hr (by rfl) T.m_law_top T.F_law_top.kp T.b_law_top (qa_cons (qe_ix (qe_var 0) qe_int) qa_nil)) qa_nil))))) qss_nil)
      (qss_one (qs_ret (qe_max2 (by rfl) (by rfl) T.z_max (qa_cons qe_int (qa_cons (qe_sub (qe_var 0) qe_int) qa_nil))))))

theorem ok_law_fits (T : Txt K mg) : FnOk P w K mg base CX0 9 T.f_law_fits T.d_law_fits ["_law_one", "_law_other"] (spOf K S_law_fits) := by
  refine fn_ok T.F_law_fits sc_law_fits ar_law_fits fun cdv A outer s H E Z hr => ⟨r_law_fits, ?_, red_law_fits⟩
  exact (qss_cons (qs_if (qt_cmp (op_eqA hr.units) od_eqA (qe_var 0) qe_int) (qss_one (qs_ret qe_bl)) qss_nil)
      (qss_one (qs_ret (qe_call (ok_law_has T 8) (hr.mono (by first | decide | omega)) (by rfl) T.m_law_has T.F_law_has.kp T.b_law_has (qa_cons (qe_var 1) (qa_cons (qe_call (ok_law_top T 6) (hr.mono (by first | decide | omega)) (by rfl) T.m_law_top T.F_law_top.kp T.b_law_top (qa_cons (qe_var 0) qa_nil)) qa_nil))))))

theorem ok_law_value (T : Txt K mg) : ∀ n, FnOk P w K mg base CX0 (0 + n) T.f_law_value T.d_law_value ["_law_kind_here", "_law_numbers", "_law_place"] (spOf K (S_law_value n))
  | 0 => fn_never nv_law_value
  | n + 1 => by
    have ih := ok_law_value T n
    refine fn_ok T.F_law_value sc_law_value (ar_law_value (n + 1)) fun cdv A outer s H E Z hr => ⟨r_law_value n, ?_, red_law_value n⟩
    exact (qss_cons (qs_if (qt_truth (qe_isi (qe_var 0) (by rfl) T.z_isinstance (by rfl) T.z_tuple (by decide +kernel))) (qss_one (qs_ret (qe_tup (qa_cons (qe_call ih hr (by rfl) T.m_law_value T.F_law_value.kp T.b_law_value (qa_cons (qe_ix (qe_var 0) qe_int) (qa_cons (qe_var 1) (qa_cons (qe_mulA qe_int (qe_var 2)) qa_nil)))) (qa_cons (qe_call ih hr (by rfl) T.m_law_value T.F_law_value.kp T.b_law_value (qa_cons (qe_ix (qe_var 0) qe_int) (qa_cons (qe_var 1) (qa_cons (qe_add (qe_mulA qe_int (qe_var 2)) qe_int) qa_nil)))) qa_nil))))) qss_nil)
      (qss_one (qs_ret (qe_mod (qe_int1 (by rfl) T.z_int (qa_cons (qe_ix (qe_var 1) (qe_var 2)) qa_nil)) (qe_max2 (by rfl) (by rfl) T.z_max (qa_cons qe_int (qa_cons (qe_var 0) qa_nil)))))))

theorem ok_law_beyond (T : Txt K mg) : ∀ n, FnOk P w K mg base CX0 (0 + n) T.f_law_beyond T.d_law_beyond ["_law_kind_here", "_law_value_here", "_law_row_here", "_law_level"] (spOf K (S_law_beyond n))
  | 0 => fn_never nv_law_beyond
  | n + 1 => by
    have ih := ok_law_beyond T n
    refine fn_ok T.F_law_beyond sc_law_beyond (ar_law_beyond (n + 1)) fun cdv A outer s H E Z hr => ⟨r_law_beyond n, ?_, red_law_beyond n⟩
    exact (qss_cons (qs_if (qt_truth (qe_isi (qe_var 0) (by rfl) T.z_isinstance (by rfl) T.z_tuple (by decide +kernel))) (qss_cons (qs_set (i := 4) sc_law_beyond.nd (qe_mod (qe_int1 (by rfl) T.z_int (qa_cons (qe_ix (qe_var 2) (qe_var 3)) qa_nil)) qe_int))
    (qss_cons (qs_set (i := 5) sc_law_beyond.nd (qe_call ih hr (by rfl) T.m_law_beyond T.F_law_beyond.kp T.b_law_beyond (qa_cons (qe_ix (qe_var 0) (qe_var 4)) (qa_cons (qe_ix (qe_var 1) (qe_var 4)) (qa_cons (qe_var 2) (qa_cons (qe_add (qe_var 3) qe_int) qa_nil))))))
    (qss_cons (qs_if (qt_cmp (op_eqA hr.units) od_eqA (qe_var 4) qe_int) (qss_one (qs_ret (qe_tup (qa_cons (qe_var 5) (qa_cons (qe_ix (qe_var 1) qe_int) qa_nil))))) qss_nil)
    (qss_one (qs_ret (qe_tup (qa_cons (qe_ix (qe_var 1) qe_int) (qa_cons (qe_var 5) qa_nil)))))))) qss_nil)
      (qss_one (qs_ret (qe_var 0))))

theorem ok_law_kinds (T : Txt K mg) : FnOk P w K mg base CX0 7 T.f_law_kinds T.d_law_kinds ["_law_script"] (spOf K S_law_kinds) := by
  refine fn_ok T.F_law_kinds sc_law_kinds ar_law_kinds fun cdv A outer s H E Z hr => ⟨r_law_kinds, ?_, red_law_kinds⟩
  exact (qss_cons (qs_set (i := 1) sc_law_kinds.nd (qe_call (ok_law_row T) (hr.mono (by first | decide | omega)) (by rfl) T.m_law_row T.F_law_row.kp T.b_law_row (qa_cons (qe_var 0) (qa_cons qe_int (qa_cons qe_int qa_nil)))))
      (qss_cons (qs_set (i := 2) sc_law_kinds.nd qe_int)
      (qss_cons (qs_if (qt_cmp (op_eqA hr.units) od_eqA (qe_mod (qe_ix (qe_var 1) qe_int) qe_int) qe_int) (qss_one (qs_set (i := 2) sc_law_kinds.nd qe_int)) qss_nil)
      (qss_cons (qs_set (i := 3) sc_law_kinds.nd (qe_call (ok_law_kind T 6) (hr.mono (by first | decide | omega)) (by rfl) T.m_law_kind T.F_law_kind.kp T.b_law_kind (qa_cons (qe_call (ok_law_row T) (hr.mono (by first | decide | omega)) (by rfl) T.m_law_row T.F_law_row.kp T.b_law_row (qa_cons (qe_var 0) (qa_cons qe_int (qa_cons qe_int qa_nil)))) (qa_cons (qe_call (ok_law_row T) (hr.mono (by first | decide | omega)) (by rfl) T.m_law_row T.F_law_row.kp T.b_law_row (qa_cons (qe_var 0) (qa_cons qe_int (qa_cons qe_int qa_nil)))) (qa_cons qe_int (qa_cons qe_int (qa_cons (qe_var 2) qa_nil)))))))
      (qss_cons (qs_if (qt_cmp (op_eqA hr.units) od_eqA (qe_mod (qe_ix (qe_var 1) qe_int) qe_int) qe_int) (qss_one (qs_set (i := 3) sc_law_kinds.nd (qe_int1 (by rfl) T.z_int (qa_cons (qe_ix (qe_var 1) qe_int) qa_nil)))) qss_nil)
      (qss_cons (qs_set (i := 4) sc_law_kinds.nd (qe_call (ok_law_row T) (hr.mono (by first | decide | omega)) (by rfl) T.m_law_row T.F_law_row.kp T.b_law_row (qa_cons (qe_var 0) (qa_cons qe_int (qa_cons qe_int qa_nil)))))
      (qss_cons (qs_set (i := 5) sc_law_kinds.nd (qe_call (ok_law_kind T 6) (hr.mono (by first | decide | omega)) (by rfl) T.m_law_kind T.F_law_kind.kp T.b_law_kind (qa_cons (qe_call (ok_law_row T) (hr.mono (by first | decide | omega)) (by rfl) T.m_law_row T.F_law_row.kp T.b_law_row (qa_cons (qe_var 0) (qa_cons qe_int (qa_cons qe_int qa_nil)))) (qa_cons (qe_var 4) (qa_cons qe_int (qa_cons qe_int (qa_cons (qe_var 2) qa_nil)))))))
      (qss_cons (qs_if (qt_cmp (op_eqA hr.units) od_eqA (qe_mod (qe_ix (qe_var 1) qe_int) qe_int) qe_int) (qss_one (qs_set (i := 5) sc_law_kinds.nd (qe_var 3))) (qss_one (qs_if (qw_or (qt_cmp (op_eqA hr.units) od_eqA (qe_mod (qe_ix (qe_var 1) qe_int) qe_int) qe_int) (qw_or1 (qt_cmp (op_eqA hr.units) od_eqA (qe_mod (qe_ix (qe_var 1) qe_int) qe_int) qe_int))).qt (qss_one (qs_set (i := 5) sc_law_kinds.nd (qe_call (ok_law_near T 6) (hr.mono (by first | decide | omega)) (by rfl) T.m_law_near T.F_law_near.kp T.b_law_near (qa_cons (qe_var 3) (qa_cons (qe_var 4) (qa_cons qe_int (qa_cons (qe_lst (qa_cons qe_int (qa_cons qe_int (qa_cons qe_int (qa_cons qe_int (qa_cons qe_int (qa_cons (qe_neg qe_int) qa_nil))))))) qa_nil))))))) (qss_one (qs_if (qt_cmp (op_eqA hr.units) od_eqA (qe_mod (qe_ix (qe_var 1) qe_int) qe_int) qe_int) (qss_one (qs_set (i := 5) sc_law_kinds.nd (qe_call (ok_law_exchanged T 6) (hr.mono (by first | decide | omega)) (by rfl) T.m_law_exchanged T.F_law_exchanged.kp T.b_law_exchanged (qa_cons (qe_var 3) (qa_cons (qe_var 4) (qa_cons qe_int qa_nil)))))) (qss_one (qs_if (qt_cmp (op_eqA hr.units) od_eqA (qe_mod (qe_ix (qe_var 1) qe_int) qe_int) qe_int) (qss_one (qs_set (i := 5) sc_law_kinds.nd (qe_call (ok_law_exchanged T 6) (hr.mono (by first | decide | omega)) (by rfl) T.m_law_exchanged T.F_law_exchanged.kp T.b_law_exchanged (qa_cons (qe_call (ok_law_near T 6) (hr.mono (by first | decide | omega)) (by rfl) T.m_law_near T.F_law_near.kp T.b_law_near (qa_cons (qe_var 3) (qa_cons (qe_var 4) (qa_cons qe_int (qa_cons (qe_lst (qa_cons qe_int (qa_cons qe_int (qa_cons (qe_neg qe_int) qa_nil)))) qa_nil))))) (qa_cons (qe_var 4) (qa_cons qe_int qa_nil)))))) qss_nil)))))))
      (qss_cons (qs_if (qt_cmp (op_eqA hr.units) od_eqA (qe_mod (qe_ix (qe_var 1) qe_int) qe_int) qe_int) (qss_one (qs_set (i := 5) sc_law_kinds.nd (qe_mulA (qe_int1 (by rfl) T.z_int (qa_cons (qe_ix (qe_var 1) qe_int) qa_nil)) (qe_int1 (by rfl) T.z_int (qa_cons (qe_cmp op_gt od_gt (qe_mod (qe_fdivA (qe_ix (qe_var 1) qe_int) qe_int) qe_int) qe_int) qa_nil))))) qss_nil)
      (qss_cons (qs_set (i := 4) sc_law_kinds.nd (qe_call (ok_law_row T) (hr.mono (by first | decide | omega)) (by rfl) T.m_law_row T.F_law_row.kp T.b_law_row (qa_cons (qe_var 0) (qa_cons qe_int (qa_cons qe_int qa_nil)))))
      (qss_cons (qs_set (i := 6) sc_law_kinds.nd (qe_call (ok_law_kind T 6) (hr.mono (by first | decide | omega)) (by rfl) T.m_law_kind T.F_law_kind.kp T.b_law_kind (qa_cons (qe_call (ok_law_row T) (hr.mono (by first | decide | omega)) (by rfl) T.m_law_row T.F_law_row.kp T.b_law_row (qa_cons (qe_var 0) (qa_cons qe_int (qa_cons qe_int qa_nil)))) (qa_cons (qe_var 4) (qa_cons qe_int (qa_cons qe_int (qa_cons (qe_var 2) qa_nil)))))))
      (qss_cons (qs_set (i := 7) sc_law_kinds.nd (qe_call (ok_law_join T 6) (hr.mono (by first | decide | omega)) (by rfl) T.m_law_join T.F_law_join.kp T.b_law_join (qa_cons (qe_var 3) (qa_cons (qe_var 5) qa_nil))))
      (qss_cons (qs_if (qt_cmp op_isNo od_isN (qe_var 7) qe_non) (qss_one (qs_set (i := 7) sc_law_kinds.nd (qe_var 3))) qss_nil)
      (qss_cons (qs_if (qw_or (qt_cmp (op_eqA hr.units) od_eqA (qe_mod (qe_ix (qe_var 1) qe_int) qe_int) qe_int) (qw_or1 (qt_cmp (op_eqA hr.units) od_eqA (qe_mod (qe_ix (qe_var 1) qe_int) qe_int) qe_int))).qt (qss_one (qs_set (i := 6) sc_law_kinds.nd (qe_call (ok_law_near T 6) (hr.mono (by first | decide | omega)) (by rfl) T.m_law_near T.F_law_near.kp T.b_law_near (qa_cons (qe_var 7) (qa_cons (qe_var 4) (qa_cons qe_int (qa_cons (qe_lst (qa_cons qe_int (qa_cons qe_int (qa_cons qe_int qa_nil)))) qa_nil))))))) (qss_one (qs_if (qt_cmp (op_eqA hr.units) od_eqA (qe_mod (qe_ix (qe_var 1) qe_int) qe_int) qe_int) (qss_one (qs_set (i := 6) sc_law_kinds.nd (qe_call (ok_law_near T 6) (hr.mono (by first | decide | omega)) (by rfl) T.m_law_near T.F_law_near.kp T.b_law_near (qa_cons (qe_var 7) (qa_cons (qe_var 4) (qa_cons qe_int (qa_cons (qe_lst (qa_cons qe_int (qa_cons qe_int (qa_cons qe_int (qa_cons qe_int (qa_cons qe_int (qa_cons qe_int (qa_cons qe_int (qa_cons (qe_neg qe_int) qa_nil))))))))) qa_nil))))))) (qss_one (qs_if (qt_cmp (op_eqA hr.units) od_eqA (qe_mod (qe_ix (qe_var 1) qe_int) qe_int) qe_int) (qss_one (qs_set (i := 6) sc_law_kinds.nd (qe_call (ok_law_exchanged T 6) (hr.mono (by first | decide | omega)) (by rfl) T.m_law_exchanged T.F_law_exchanged.kp T.b_law_exchanged (qa_cons (qe_var 7) (qa_cons (qe_var 4) (qa_cons qe_int qa_nil)))))) (qss_one (qs_if (qt_cmp (op_eqA hr.units) od_eqA (qe_mod (qe_ix (qe_var 1) qe_int) qe_int) qe_int) (qss_one (qs_set (i := 6) sc_law_kinds.nd (qe_call (ok_law_near T 6) (hr.mono (by first | decide | omega)) (by rfl) T.m_law_near T.F_law_near.kp T.b_law_near (qa_cons (qe_var 5) (qa_cons (qe_var 4) (qa_cons qe_int (qa_cons (qe_lst (qa_cons qe_int (qa_cons qe_int (qa_cons (qe_neg qe_int) qa_nil)))) qa_nil))))))) qss_nil)))))))
      (qss_cons (qs_set (i := 4) sc_law_kinds.nd (qe_call (ok_law_row T) (hr.mono (by first | decide | omega)) (by rfl) T.m_law_row T.F_law_row.kp T.b_law_row (qa_cons (qe_var 0) (qa_cons qe_int (qa_cons qe_int qa_nil)))))
      (qss_one (qs_ret (qe_newM (ql_lst (qa_cons (qe_var 3) (qa_cons (qe_var 5) (qa_cons (qe_var 6) (qa_cons (qe_call (ok_law_near T 6) (hr.mono (by first | decide | omega)) (by rfl) T.m_law_near T.F_law_near.kp T.b_law_near (qa_cons (qe_var 3) (qa_cons (qe_var 4) (qa_cons qe_int (qa_cons (qe_lst (qa_cons qe_int (qa_cons qe_int (qa_cons qe_int (qa_cons (qe_neg qe_int) qa_nil))))) qa_nil))))) (qa_cons (qe_call (ok_law_exchanged T 6) (hr.mono (by first | decide | omega)) (by rfl) T.m_law_exchanged T.F_law_exchanged.kp T.b_law_exchanged (qa_cons (qe_var 3) (qa_cons (qe_var 4) (qa_cons qe_int qa_nil)))) qa_nil))))))))))))))))))))))))

theorem ok_law_values (T : Txt K mg) : FnOk P w K mg base CX0 7 T.f_law_values T.d_law_values ["_law_script", "_law_kinds_here"] (spOf K S_law_values) := by
  refine fn_ok T.F_law_values sc_law_values ar_law_values fun cdv A outer s H E Z hr => ⟨r_law_values, ?_, red_law_values⟩
  exact (qss_cons (qs_setO (i := 2) sc_law_values.nd (ql_lst (qa_cons qe_int (qa_cons (qe_tup (qa_cons qe_int (qa_cons qe_int qa_nil))) qa_nil))))
      (qss_cons (qs_forR (j := 3) (js := [3, 4, 5, 6]) PassesOwn.never (by rfl) sc_law_values.nd (by rfl) T.z_range (qe_lenM (by rfl) T.z_len (qe_var 1)) (qss_cons (qs_set (i := 4) sc_law_values.nd (qe_call (ok_law_row T) (hr.mono (by first | decide | omega)) (by rfl) T.m_law_row T.F_law_row.kp T.b_law_row (qa_cons (qe_var 0) (qa_cons (qe_add qe_int (qe_var 3)) (qa_cons qe_int qa_nil)))))
    (qss_cons (qs_set (i := 5) sc_law_values.nd (qe_call (ok_law_value T 6) (hr.mono (by first | decide | omega)) (by rfl) T.m_law_value T.F_law_value.kp T.b_law_value (qa_cons (qe_ixM (qe_var 1) (qe_var 3)) (qa_cons (qe_var 4) (qa_cons qe_int qa_nil)))))
    (qss_cons (qs_set (i := 6) sc_law_values.nd (qe_call (ok_law_top T 6) (hr.mono (by first | decide | omega)) (by rfl) T.m_law_top T.F_law_top.kp T.b_law_top (qa_cons (qe_ixM (qe_var 1) (qe_var 3)) qa_nil)))
    (qss_cons (qs_setO (i := 2) sc_law_values.nd (ql_catO 2 (qe_lst (qa_cons (qe_var 6) (qa_cons (qe_var 5) (qa_cons (qe_call (ok_law_beyond T 6) (hr.mono (by first | decide | omega)) (by rfl) T.m_law_beyond T.F_law_beyond.kp T.b_law_beyond (qa_cons (qe_ixM (qe_var 1) (qe_var 3)) (qa_cons (qe_ix (qe_lst (qa_cons (qe_var 6) (qa_cons (qe_var 5) qa_nil))) (qe_mod (qe_int1 (by rfl) T.z_int (qa_cons (qe_ix (qe_var 4) qe_int) qa_nil)) qe_int)) (qa_cons (qe_var 4) (qa_cons qe_int qa_nil))))) qa_nil))))))
    (qss_one (qs_app (j := 2) (qe_call (ok_law_exchanged T 6) (hr.mono (by first | decide | omega)) (by rfl) T.m_law_exchanged T.F_law_exchanged.kp T.b_law_exchanged (qa_cons (qe_var 5) (qa_cons (qe_var 4) (qa_cons qe_int qa_nil)))))))))))
      (qss_one (qs_ret (qe_var 2)))))

theorem ok_law (T : Txt K mg) : FnOk P w K mg base CX0 10 T.f_law T.d_law ["_law_script"] (spOf K S_law) := by
  refine fn_ok T.F_law sc_law ar_law fun cdv A outer s H E Z hr => ⟨r_law, ?_, red_law⟩
  exact (qss_cons (qs_set (i := 1) sc_law.nd (qe_call (ok_law_kinds T) (hr.mono (by first | decide | omega)) (by rfl) T.m_law_kinds T.F_law_kinds.kp T.b_law_kinds (qa_cons (qe_var 0) qa_nil)))
      (qss_cons (qs_set (i := 2) sc_law.nd (qe_call (ok_law_values T) (hr.mono (by first | decide | omega)) (by rfl) T.m_law_values T.F_law_values.kp T.b_law_values (qa_cons (qe_var 0) (qa_cons (qe_var 1) qa_nil))))
      (qss_cons (qs_forU (is := [3, 4]) (js := [3, 4, 5]) PassesOwn.never (by rfl) (qe_tup (qa_cons (qe_tup (qa_cons qe_int (qa_cons qe_int qa_nil))) (qa_cons (qe_tup (qa_cons qe_int (qa_cons qe_int qa_nil))) (qa_cons (qe_tup (qa_cons qe_int (qa_cons qe_int qa_nil))) qa_nil)))) (pgs_cons (pg_name (i := 3) sc_law.nd rfl (Or.inl rfl)) (pgs_cons (pg_name (i := 4) sc_law.nd rfl (Or.inl rfl)) pgs_nil)) (qss_cons (qs_set (i := 5) sc_law.nd (qe_call (ok_law_join T 6) (hr.mono (by first | decide | omega)) (by rfl) T.m_law_join T.F_law_join.kp T.b_law_join (qa_cons (qe_ixM (qe_var 1) (qe_var 3)) (qa_cons (qe_ixM (qe_var 1) (qe_var 4)) qa_nil))))
    (qss_one (qs_if (qt_cmp op_notNo od_notN (qe_var 5) qe_non) (qss_one (qs_appM (qe_var 1) (qe_var 5))) qss_nil))))
      (qss_cons (qs_appM (qe_var 1) qe_int)
      (qss_cons (qs_forM (j := 3) (js := [3, 4, 6]) PassesOwn.never (by rfl) sc_law.nd (qe_var 1) (qss_cons (qs_forM (j := 4) (js := [4]) PassesOwn.never (by rfl) sc_law.nd (qe_var 1) (qss_cons (qs_if (qt_not (qt_truth (qe_call (ok_law_equal T 8) (hr.mono (by first | decide | omega)) (by rfl) T.m_law_equal T.F_law_equal.kp T.b_law_equal (qa_cons (qe_call (ok_joined T 6) (hr.mono (by first | decide | omega)) (by rfl) T.m_joined T.F_joined.kp T.b_joined (qa_cons (qe_var 3) (qa_cons (qe_var 4) qa_nil))) (qa_cons (qe_call (ok_law_join T 6) (hr.mono (by first | decide | omega)) (by rfl) T.m_law_join T.F_law_join.kp T.b_law_join (qa_cons (qe_var 3) (qa_cons (qe_var 4) qa_nil))) qa_nil))))) (qss_one (qs_ret qe_bl)) qss_nil)
    (qss_one (qs_if (qt_not (qt_truth (qe_call (ok_law_says T) (hr.mono (by first | decide | omega)) (by rfl) T.m_law_says T.F_law_says.kp T.b_law_says (qa_cons (qe_call (ok_fits T 6) (hr.mono (by first | decide | omega)) (by rfl) T.m_fits T.F_fits.kp T.b_fits (qa_cons (qe_var 3) (qa_cons (qe_var 4) qa_nil))) (qa_cons (qe_call (ok_law_fits T) (hr.mono (by first | decide | omega)) (by rfl) T.m_law_fits T.F_law_fits.kp T.b_law_fits (qa_cons (qe_var 3) (qa_cons (qe_var 4) qa_nil))) qa_nil))))) (qss_one (qs_ret qe_bl)) qss_nil))))
    (qss_one (qs_for (j := 6) (js := [6]) PassesOwn.never (by rfl) sc_law.nd (qe_var 2) (qss_one (qs_if (qt_not (qt_truth (qe_call (ok_law_says T) (hr.mono (by first | decide | omega)) (by rfl) T.m_law_says T.F_law_says.kp T.b_law_says (qa_cons (qe_call (ok_has T 8) (hr.mono (by first | decide | omega)) (by rfl) T.m_has T.F_has.kp T.b_has (qa_cons (qe_var 3) (qa_cons (qe_var 6) qa_nil))) (qa_cons (qe_call (ok_law_has T 8) (hr.mono (by first | decide | omega)) (by rfl) T.m_law_has T.F_law_has.kp T.b_law_has (qa_cons (qe_var 3) (qa_cons (qe_var 6) qa_nil))) qa_nil))))) (qss_one (qs_ret qe_bl)) qss_nil))))))
      (qss_one (qs_ret qe_bl)))))))

end
theorem all_mk {l : PySem.W.OpenLaw} {w : World} {K : PySem.W.Frag} {h : Heap} {mg : Str → Option Value} {fa f0 f1 f2 f3 f4 f5 f6 f7 f8 f9 f10 f11 f12 f13 f14 f15 f16 f17 : Addr} (X : K.In h) (G : h.Ns mainGlobals mg) (hfa : mg "law" = some (.ref fa))
    {oc0 kV0 dc0 pm0 cd0 ct0 : Value} {od0 an0 : Option Addr} {sl0 : Array (Option Value)}
    (a0 : PySem.W.nsIn K mainGlobals "joined" = some (some (.ref f0))) (l0 : K.lookup f0 = some ⟨oc0, od0, .func (PySem.W.fnOf "joined" "joined" (defArgs s_joined) (defBody s_joined) (defScope s_joined) .none kV0 dc0 pm0 an0 cd0 ct0), sl0⟩) (c0 : PySem.W.codeIn K cd0 "joined" = true) (k0 : PySem.W.keepIn K (.ref f0) = true)
    {oc1 kV1 dc1 pm1 cd1 ct1 : Value} {od1 an1 : Option Addr} {sl1 : Array (Option Value)}
    (a1 : PySem.W.nsIn K mainGlobals "fits" = some (some (.ref f1))) (l1 : K.lookup f1 = some ⟨oc1, od1, .func (PySem.W.fnOf "fits" "fits" (defArgs s_fits) (defBody s_fits) (defScope s_fits) .none kV1 dc1 pm1 an1 cd1 ct1), sl1⟩) (c1 : PySem.W.codeIn K cd1 "fits" = true) (k1 : PySem.W.keepIn K (.ref f1) = true)
    {oc2 kV2 dc2 pm2 cd2 ct2 : Value} {od2 an2 : Option Addr} {sl2 : Array (Option Value)}
    (a2 : PySem.W.nsIn K mainGlobals "has" = some (some (.ref f2))) (l2 : K.lookup f2 = some ⟨oc2, od2, .func (PySem.W.fnOf "has" "has" (defArgs s_has) (defBody s_has) (defScope s_has) .none kV2 dc2 pm2 an2 cd2 ct2), sl2⟩) (c2 : PySem.W.codeIn K cd2 "has" = true) (k2 : PySem.W.keepIn K (.ref f2) = true)
    {oc3 kV3 dc3 pm3 cd3 ct3 : Value} {od3 an3 : Option Addr} {sl3 : Array (Option Value)}
    (a3 : PySem.W.nsIn K mainGlobals "_law_row" = some (some (.ref f3))) (l3 : K.lookup f3 = some ⟨oc3, od3, .func (PySem.W.fnOf "_law_row" "_law_row" (defArgs s_law_row) (defBody s_law_row) (defScope s_law_row) .none kV3 dc3 pm3 an3 cd3 ct3), sl3⟩) (c3 : PySem.W.codeIn K cd3 "_law_row" = true) (k3 : PySem.W.keepIn K (.ref f3) = true)
    {oc4 kV4 dc4 pm4 cd4 ct4 : Value} {od4 an4 : Option Addr} {sl4 : Array (Option Value)}
    (a4 : PySem.W.nsIn K mainGlobals "_law_equal" = some (some (.ref f4))) (l4 : K.lookup f4 = some ⟨oc4, od4, .func (PySem.W.fnOf "_law_equal" "_law_equal" (defArgs s_law_equal) (defBody s_law_equal) (defScope s_law_equal) .none kV4 dc4 pm4 an4 cd4 ct4), sl4⟩) (c4 : PySem.W.codeIn K cd4 "_law_equal" = true) (k4 : PySem.W.keepIn K (.ref f4) = true)
    {oc5 kV5 dc5 pm5 cd5 ct5 : Value} {od5 an5 : Option Addr} {sl5 : Array (Option Value)}
    (a5 : PySem.W.nsIn K mainGlobals "_law_says" = some (some (.ref f5))) (l5 : K.lookup f5 = some ⟨oc5, od5, .func (PySem.W.fnOf "_law_says" "_law_says" (defArgs s_law_says) (defBody s_law_says) (defScope s_law_says) .none kV5 dc5 pm5 an5 cd5 ct5), sl5⟩) (c5 : PySem.W.codeIn K cd5 "_law_says" = true) (k5 : PySem.W.keepIn K (.ref f5) = true)
    {oc6 kV6 dc6 pm6 cd6 ct6 : Value} {od6 an6 : Option Addr} {sl6 : Array (Option Value)}
    (a6 : PySem.W.nsIn K mainGlobals "_law_kind" = some (some (.ref f6))) (l6 : K.lookup f6 = some ⟨oc6, od6, .func (PySem.W.fnOf "_law_kind" "_law_kind" (defArgs s_law_kind) (defBody s_law_kind) (defScope s_law_kind) .none kV6 dc6 pm6 an6 cd6 ct6), sl6⟩) (c6 : PySem.W.codeIn K cd6 "_law_kind" = true) (k6 : PySem.W.keepIn K (.ref f6) = true)
    {oc7 kV7 dc7 pm7 cd7 ct7 : Value} {od7 an7 : Option Addr} {sl7 : Array (Option Value)}
    (a7 : PySem.W.nsIn K mainGlobals "_law_near" = some (some (.ref f7))) (l7 : K.lookup f7 = some ⟨oc7, od7, .func (PySem.W.fnOf "_law_near" "_law_near" (defArgs s_law_near) (defBody s_law_near) (defScope s_law_near) .none kV7 dc7 pm7 an7 cd7 ct7), sl7⟩) (c7 : PySem.W.codeIn K cd7 "_law_near" = true) (k7 : PySem.W.keepIn K (.ref f7) = true)
    {oc8 kV8 dc8 pm8 cd8 ct8 : Value} {od8 an8 : Option Addr} {sl8 : Array (Option Value)}
    (a8 : PySem.W.nsIn K mainGlobals "_law_exchanged" = some (some (.ref f8))) (l8 : K.lookup f8 = some ⟨oc8, od8, .func (PySem.W.fnOf "_law_exchanged" "_law_exchanged" (defArgs s_law_exchanged) (defBody s_law_exchanged) (defScope s_law_exchanged) .none kV8 dc8 pm8 an8 cd8 ct8), sl8⟩) (c8 : PySem.W.codeIn K cd8 "_law_exchanged" = true) (k8 : PySem.W.keepIn K (.ref f8) = true)
    {oc9 kV9 dc9 pm9 cd9 ct9 : Value} {od9 an9 : Option Addr} {sl9 : Array (Option Value)}
    (a9 : PySem.W.nsIn K mainGlobals "_law_join" = some (some (.ref f9))) (l9 : K.lookup f9 = some ⟨oc9, od9, .func (PySem.W.fnOf "_law_join" "_law_join" (defArgs s_law_join) (defBody s_law_join) (defScope s_law_join) .none kV9 dc9 pm9 an9 cd9 ct9), sl9⟩) (c9 : PySem.W.codeIn K cd9 "_law_join" = true) (k9 : PySem.W.keepIn K (.ref f9) = true)
    {oc10 kV10 dc10 pm10 cd10 ct10 : Value} {od10 an10 : Option Addr} {sl10 : Array (Option Value)}
    (a10 : PySem.W.nsIn K mainGlobals "_law_has" = some (some (.ref f10))) (l10 : K.lookup f10 = some ⟨oc10, od10, .func (PySem.W.fnOf "_law_has" "_law_has" (defArgs s_law_has) (defBody s_law_has) (defScope s_law_has) .none kV10 dc10 pm10 an10 cd10 ct10), sl10⟩) (c10 : PySem.W.codeIn K cd10 "_law_has" = true) (k10 : PySem.W.keepIn K (.ref f10) = true)
    {oc11 kV11 dc11 pm11 cd11 ct11 : Value} {od11 an11 : Option Addr} {sl11 : Array (Option Value)}
    (a11 : PySem.W.nsIn K mainGlobals "_law_top" = some (some (.ref f11))) (l11 : K.lookup f11 = some ⟨oc11, od11, .func (PySem.W.fnOf "_law_top" "_law_top" (defArgs s_law_top) (defBody s_law_top) (defScope s_law_top) .none kV11 dc11 pm11 an11 cd11 ct11), sl11⟩) (c11 : PySem.W.codeIn K cd11 "_law_top" = true) (k11 : PySem.W.keepIn K (.ref f11) = true)
    {oc12 kV12 dc12 pm12 cd12 ct12 : Value} {od12 an12 : Option Addr} {sl12 : Array (Option Value)}
    (a12 : PySem.W.nsIn K mainGlobals "_law_fits" = some (some (.ref f12))) (l12 : K.lookup f12 = some ⟨oc12, od12, .func (PySem.W.fnOf "_law_fits" "_law_fits" (defArgs s_law_fits) (defBody s_law_fits) (defScope s_law_fits) .none kV12 dc12 pm12 an12 cd12 ct12), sl12⟩) (c12 : PySem.W.codeIn K cd12 "_law_fits" = true) (k12 : PySem.W.keepIn K (.ref f12) = true)
    {oc13 kV13 dc13 pm13 cd13 ct13 : Value} {od13 an13 : Option Addr} {sl13 : Array (Option Value)}
    (a13 : PySem.W.nsIn K mainGlobals "_law_value" = some (some (.ref f13))) (l13 : K.lookup f13 = some ⟨oc13, od13, .func (PySem.W.fnOf "_law_value" "_law_value" (defArgs s_law_value) (defBody s_law_value) (defScope s_law_value) .none kV13 dc13 pm13 an13 cd13 ct13), sl13⟩) (c13 : PySem.W.codeIn K cd13 "_law_value" = true) (k13 : PySem.W.keepIn K (.ref f13) = true)
    {oc14 kV14 dc14 pm14 cd14 ct14 : Value} {od14 an14 : Option Addr} {sl14 : Array (Option Value)}
    (a14 : PySem.W.nsIn K mainGlobals "_law_beyond" = some (some (.ref f14))) (l14 : K.lookup f14 = some ⟨oc14, od14, .func (PySem.W.fnOf "_law_beyond" "_law_beyond" (defArgs s_law_beyond) (defBody s_law_beyond) (defScope s_law_beyond) .none kV14 dc14 pm14 an14 cd14 ct14), sl14⟩) (c14 : PySem.W.codeIn K cd14 "_law_beyond" = true) (k14 : PySem.W.keepIn K (.ref f14) = true)
    {oc15 kV15 dc15 pm15 cd15 ct15 : Value} {od15 an15 : Option Addr} {sl15 : Array (Option Value)}
    (a15 : PySem.W.nsIn K mainGlobals "_law_kinds" = some (some (.ref f15))) (l15 : K.lookup f15 = some ⟨oc15, od15, .func (PySem.W.fnOf "_law_kinds" "_law_kinds" (defArgs s_law_kinds) (defBody s_law_kinds) (defScope s_law_kinds) .none kV15 dc15 pm15 an15 cd15 ct15), sl15⟩) (c15 : PySem.W.codeIn K cd15 "_law_kinds" = true) (k15 : PySem.W.keepIn K (.ref f15) = true)
    {oc16 kV16 dc16 pm16 cd16 ct16 : Value} {od16 an16 : Option Addr} {sl16 : Array (Option Value)}
    (a16 : PySem.W.nsIn K mainGlobals "_law_values" = some (some (.ref f16))) (l16 : K.lookup f16 = some ⟨oc16, od16, .func (PySem.W.fnOf "_law_values" "_law_values" (defArgs s_law_values) (defBody s_law_values) (defScope s_law_values) .none kV16 dc16 pm16 an16 cd16 ct16), sl16⟩) (c16 : PySem.W.codeIn K cd16 "_law_values" = true) (k16 : PySem.W.keepIn K (.ref f16) = true)
    {oc17 kV17 dc17 pm17 cd17 ct17 : Value} {od17 an17 : Option Addr} {sl17 : Array (Option Value)}
    (a17 : PySem.W.nsIn K mainGlobals "law" = some (some (.ref f17))) (l17 : K.lookup f17 = some ⟨oc17, od17, .func (PySem.W.fnOf "law" "law" (defArgs s_law) (defBody s_law) (defScope s_law) .none kV17 dc17 pm17 an17 cd17 ct17), sl17⟩) (c17 : PySem.W.codeIn K cd17 "law" = true) (k17 : PySem.W.keepIn K (.ref f17) = true)
    (z_bool : PySem.W.nsIn K mainGlobals "bool" = some none)
    (z_int : PySem.W.nsIn K mainGlobals "int" = some none)
    (z_isinstance : PySem.W.nsIn K mainGlobals "isinstance" = some none)
    (z_len : PySem.W.nsIn K mainGlobals "len" = some none)
    (z_list : PySem.W.nsIn K mainGlobals "list" = some none)
    (z_max : PySem.W.nsIn K mainGlobals "max" = some none)
    (z_min : PySem.W.nsIn K mainGlobals "min" = some none)
    (z_range : PySem.W.nsIn K mainGlobals "range" = some none)
    (z_str : PySem.W.nsIn K mainGlobals "str" = some none)
    (z_tuple : PySem.W.nsIn K mainGlobals "tuple" = some none) :
    ∃ fd : FuncData, (∀ (s : Shared) (v : Value), BindsTo s fd ⟨[v], []⟩ [("_law_script", v)]) ∧ ∀ base : Heap, K.In base → base.Ns mainGlobals mg → FnOk l.prog w K mg base CX0 10 fa fd ["_law_script"] (spOf K lawSp) := by
  have e := hfa.symm.trans (PySem.W.mg_of X G a17)
  cases e
  have F0 := fun_mk (st := s_joined) l0 c0 k0
  have b0 := F0.binds (ps := ["one", "other"]) fun _ _ _ _ _ _ us hl => match us, hl with | [_, _], _ => rfl
  have F1 := fun_mk (st := s_fits) l1 c1 k1
  have b1 := F1.binds (ps := ["kind", "other"]) fun _ _ _ _ _ _ us hl => match us, hl with | [_, _], _ => rfl
  have F2 := fun_mk (st := s_has) l2 c2 k2
  have b2 := F2.binds (ps := ["kind", "value"]) fun _ _ _ _ _ _ us hl => match us, hl with | [_, _], _ => rfl
  have F3 := fun_mk (st := s_law_row) l3 c3 k3
  have b3 := F3.binds (ps := ["_law_script", "_law_k", "_law_count"]) fun _ _ _ _ _ _ us hl => match us, hl with | [_, _, _], _ => rfl
  have F4 := fun_mk (st := s_law_equal) l4 c4 k4
  have b4 := F4.binds (ps := ["_law_told", "_law_due"]) fun _ _ _ _ _ _ us hl => match us, hl with | [_, _], _ => rfl
  have F5 := fun_mk (st := s_law_says) l5 c5 k5
  have b5 := F5.binds (ps := ["_law_told", "_law_due"]) fun _ _ _ _ _ _ us hl => match us, hl with | [_, _], _ => rfl
  have F6 := fun_mk (st := s_law_kind) l6 c6 k6
  have b6 := F6.binds (ps := ["_law_shapes", "_law_numbers", "_law_place", "_law_deep", "_law_most"]) fun _ _ _ _ _ _ us hl => match us, hl with | [_, _, _, _, _], _ => rfl
  have F7 := fun_mk (st := s_law_near) l7 c7 k7
  have b7 := F7.binds (ps := ["_law_kind_here", "_law_numbers", "_law_place", "_law_menu"]) fun _ _ _ _ _ _ us hl => match us, hl with | [_, _, _, _], _ => rfl
  have F8 := fun_mk (st := s_law_exchanged) l8 c8 k8
  have b8 := F8.binds (ps := ["_law_kind_here", "_law_row_here", "_law_level"]) fun _ _ _ _ _ _ us hl => match us, hl with | [_, _, _], _ => rfl
  have F9 := fun_mk (st := s_law_join) l9 c9 k9
  have b9 := F9.binds (ps := ["_law_one", "_law_other"]) fun _ _ _ _ _ _ us hl => match us, hl with | [_, _], _ => rfl
  have F10 := fun_mk (st := s_law_has) l10 c10 k10
  have b10 := F10.binds (ps := ["_law_kind_here", "_law_value_here"]) fun _ _ _ _ _ _ us hl => match us, hl with | [_, _], _ => rfl
  have F11 := fun_mk (st := s_law_top) l11 c11 k11
  have b11 := F11.binds (ps := ["_law_kind_here"]) fun _ _ _ _ _ _ us hl => match us, hl with | [_], _ => rfl
  have F12 := fun_mk (st := s_law_fits) l12 c12 k12
  have b12 := F12.binds (ps := ["_law_one", "_law_other"]) fun _ _ _ _ _ _ us hl => match us, hl with | [_, _], _ => rfl
  have F13 := fun_mk (st := s_law_value) l13 c13 k13
  have b13 := F13.binds (ps := ["_law_kind_here", "_law_numbers", "_law_place"]) fun _ _ _ _ _ _ us hl => match us, hl with | [_, _, _], _ => rfl
  have F14 := fun_mk (st := s_law_beyond) l14 c14 k14
  have b14 := F14.binds (ps := ["_law_kind_here", "_law_value_here", "_law_row_here", "_law_level"]) fun _ _ _ _ _ _ us hl => match us, hl with | [_, _, _, _], _ => rfl
  have F15 := fun_mk (st := s_law_kinds) l15 c15 k15
  have b15 := F15.binds (ps := ["_law_script"]) fun _ _ _ _ _ _ us hl => match us, hl with | [_], _ => rfl
  have F16 := fun_mk (st := s_law_values) l16 c16 k16
  have b16 := F16.binds (ps := ["_law_script", "_law_kinds_here"]) fun _ _ _ _ _ _ us hl => match us, hl with | [_, _], _ => rfl
  have F17 := fun_mk (st := s_law) l17 c17 k17
  have b17 := F17.binds (ps := ["_law_script"]) fun _ _ _ _ _ _ us hl => match us, hl with | [_], _ => rfl
  have T : Txt K mg := ⟨_, _, F0, b0, PySem.W.mg_of X G a0, _, _, F1, b1, PySem.W.mg_of X G a1, _, _, F2, b2, PySem.W.mg_of X G a2, _, _, F3, b3, PySem.W.mg_of X G a3, _, _, F4, b4, PySem.W.mg_of X G a4, _, _, F5, b5, PySem.W.mg_of X G a5, _, _, F6, b6, PySem.W.mg_of X G a6, _, _, F7, b7, PySem.W.mg_of X G a7, _, _, F8, b8, PySem.W.mg_of X G a8, _, _, F9, b9, PySem.W.mg_of X G a9, _, _, F10, b10, PySem.W.mg_of X G a10, _, _, F11, b11, PySem.W.mg_of X G a11, _, _, F12, b12, PySem.W.mg_of X G a12, _, _, F13, b13, PySem.W.mg_of X G a13, _, _, F14, b14, PySem.W.mg_of X G a14, _, _, F15, b15, PySem.W.mg_of X G a15, _, _, F16, b16, PySem.W.mg_of X G a16, _, _, F17, b17, PySem.W.mg_of X G a17, PySem.W.mg_none_of X G z_bool, PySem.W.mg_none_of X G z_int, PySem.W.mg_none_of X G z_isinstance, PySem.W.mg_none_of X G z_len, PySem.W.mg_none_of X G z_list, PySem.W.mg_none_of X G z_max, PySem.W.mg_none_of X G z_min, PySem.W.mg_none_of X G z_range, PySem.W.mg_none_of X G z_str, PySem.W.mg_none_of X G z_tuple⟩
  exact ⟨_, fun s v => .of_eq rfl, fun base _ _ => ok_law (T := ⟨_, _, F0, b0, PySem.W.mg_of X G a0, _, _, F1, b1, PySem.W.mg_of X G a1, _, _, F2, b2, PySem.W.mg_of X G a2, _, _, F3, b3, PySem.W.mg_of X G a3, _, _, F4, b4, PySem.W.mg_of X G a4, _, _, F5, b5, PySem.W.mg_of X G a5, _, _, F6, b6, PySem.W.mg_of X G a6, _, _, F7, b7, PySem.W.mg_of X G a7, _, _, F8, b8, PySem.W.mg_of X G a8, _, _, F9, b9, PySem.W.mg_of X G a9, _, _, F10, b10, PySem.W.mg_of X G a10, _, _, F11, b11, PySem.W.mg_of X G a11, _, _, F12, b12, PySem.W.mg_of X G a12, _, _, F13, b13, PySem.W.mg_of X G a13, _, _, F14, b14, PySem.W.mg_of X G a14, _, _, F15, b15, PySem.W.mg_of X G a15, _, _, F16, b16, PySem.W.mg_of X G a16, _, _, F17, b17, PySem.W.mg_of X G a17, PySem.W.mg_none_of X G z_bool, PySem.W.mg_none_of X G z_int, PySem.W.mg_none_of X G z_isinstance, PySem.W.mg_none_of X G z_len, PySem.W.mg_none_of X G z_list, PySem.W.mg_none_of X G z_max, PySem.W.mg_none_of X G z_min, PySem.W.mg_none_of X G z_range, PySem.W.mg_none_of X G z_str, PySem.W.mg_none_of X G z_tuple⟩)⟩
end My
open PySem PySem.W PyProof.Rows
set_option maxHeartbeats 0 in
theorem PySem.Challenge.cw_besideandthrough_k05_joined_is_least_holds : PySem.Challenge.rw_besideandthrough_k05_joined_is_least.Holds := by
  w_on; o_law; k_head; (case hw => w_witness2)
  k_fill
  refine L2.walk_of (l := PySem.Challenge.rw_besideandthrough_k05_joined_is_least) (n := 63) (k := 10) (x := "_law_script") (CX := fun _ => L2.CX0) (sp := fun w => DL.spOf _ DL.lawSp) rfl (by decide) rfl ⟨rfl, by decide, by decide⟩ (fun w h Y => PySem.W.kIn_of Y) ?F (fun _ _ a ns hl _ hS => DL.law_start hl hS) (fun _ _ _ _ _ h => h)
  case F =>
    intro w mg fa h KX G hmg
    refine' My.all_mk KX G hmg ?a0 ?l0 ?c0 ?k0 ?a1 ?l1 ?c1 ?k1 ?a2 ?l2 ?c2 ?k2 ?a3 ?l3 ?c3 ?k3 ?a4 ?l4 ?c4 ?k4 ?a5 ?l5 ?c5 ?k5 ?a6 ?l6 ?c6 ?k6 ?a7 ?l7 ?c7 ?k7 ?a8 ?l8 ?c8 ?k8 ?a9 ?l9 ?c9 ?k9 ?a10 ?l10 ?c10 ?k10 ?a11 ?l11 ?c11 ?k11 ?a12 ?l12 ?c12 ?k12 ?a13 ?l13 ?c13 ?k13 ?a14 ?l14 ?c14 ?k14 ?a15 ?l15 ?c15 ?k15 ?a16 ?l16 ?c16 ?k16 ?a17 ?l17 ?c17 ?k17 ?z_bool ?z_int ?z_isinstance ?z_len ?z_list ?z_max ?z_min ?z_range ?z_str ?z_tuple
    (case a0 => k_is); (case l0 => k_is); (case c0 => k_is); (case k0 => k_is); (case a1 => k_is); (case l1 => k_is); (case c1 => k_is); (case k1 => k_is); (case a2 => k_is); (case l2 => k_is); (case c2 => k_is); (case k2 => k_is); (case a3 => k_is); (case l3 => k_is); (case c3 => k_is); (case k3 => k_is); (case a4 => k_is); (case l4 => k_is); (case c4 => k_is); (case k4 => k_is); (case a5 => k_is); (case l5 => k_is); (case c5 => k_is); (case k5 => k_is); (case a6 => k_is); (case l6 => k_is); (case c6 => k_is); (case k6 => k_is); (case a7 => k_is); (case l7 => k_is); (case c7 => k_is); (case k7 => k_is); (case a8 => k_is); (case l8 => k_is); (case c8 => k_is); (case k8 => k_is); (case a9 => k_is); (case l9 => k_is); (case c9 => k_is); (case k9 => k_is); (case a10 => k_is); (case l10 => k_is); (case c10 => k_is); (case k10 => k_is); (case a11 => k_is); (case l11 => k_is); (case c11 => k_is); (case k11 => k_is); (case a12 => k_is); (case l12 => k_is); (case c12 => k_is); (case k12 => k_is); (case a13 => k_is); (case l13 => k_is); (case c13 => k_is); (case k13 => k_is); (case a14 => k_is); (case l14 => k_is); (case c14 => k_is); (case k14 => k_is); (case a15 => k_is); (case l15 => k_is); (case c15 => k_is); (case k15 => k_is); (case a16 => k_is); (case l16 => k_is); (case c16 => k_is); (case k16 => k_is); (case a17 => k_is); (case l17 => k_is); (case c17 => k_is); (case k17 => k_is); (case z_bool => k_is); (case z_int => k_is); (case z_isinstance => k_is); (case z_len => k_is); (case z_list => k_is); (case z_max => k_is); (case z_min => k_is); (case z_range => k_is); (case z_str => k_is); (case z_tuple => k_is)
