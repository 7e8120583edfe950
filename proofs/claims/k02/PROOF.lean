import PyProof.Rows.All
import Wide.All
import OpenK.AllK
import Wide.FinOn
import HandS.ForMost
import HandS.Evl
import HandS.Wide
import HandS.Gcd
import HandS.Style
import HandS.IsInst
import HandS.WordsExc
import HandS.ExcInit
import HandS.ExcField
import HandS.TryOnly
import HandS.ExcOwn
import HandS.Text
import HandS.StrMore
import HandS.Iter
import HandS.FStr
import HandS.RaiseMore
import HandS.ExcIs
import KE.KExcIs
import HandS.Walk
import HandS.Star
import HandS.TupAny
import HandS.TupMul
import HandS.Conv
import HandS.Sort
import HandS.More
import KE.DataMinMax
import KE.GoesEnum
import HandS.Zip
import PySem.Challenge.RW_besideandthrough_k02_plays
set_option Elab.async false
set_option linter.all false
set_option maxRecDepth 100000
set_option maxHeartbeats 4000000
/-! Data over the hand layer: values as trees of data, frozen in a part F of the heap; lists that a def owns stand in its slots. -/
namespace DL
open PySem L2
open Evl (Ex)

/-- a value as data -/
inductive D where
  | non | bl (b : Bool) | int (i : Int) | str (x : Str) | tup (xs : List D) | lst (xs : List D) | scr (ns : List Int) | ref (a : Addr) | rng (lo hi : Int)

mutual
def Rp (K : PySem.W.Frag) (F : Hp) : D → V → Prop
  | .non, v => v = .non
  | .bl b, v => v = .bl b
  | .int i, v => v = .int i
  | .str x, v => v = .str x
  | .tup ds, v => ∃ a vs, v = .ref a ∧ SqT K F a vs ∧ Rps K F ds vs
  | .lst ds, v => ∃ a vs, v = .ref a ∧ F a = some (.lst vs) ∧ Rps K F ds vs
  | .scr ns, v => ∃ a, v = .ref a ∧ SqL K F a (ns.map V.int)
  | .ref a, v => v = .ref a
  | .rng lo hi, v => ∃ a, v = .ref a ∧ F a = some (.rng lo hi)
def Rps (K : PySem.W.Frag) (F : Hp) : List D → List V → Prop
  | [], vs => vs = []
  | d :: ds, vs => ∃ v r, vs = v :: r ∧ Rp K F d v ∧ Rps K F ds r
end

section
variable {K : PySem.W.Frag} {F F' : Hp}
mutual
theorem rp_mono (e : Ex F F') : ∀ (d : D) (v : V), Rp K F d v → Rp K F' d v
  | .non, _, h => h
  | .bl _, _, h => h
  | .int _, _, h => h
  | .str _, _, h => h
  | .tup ds, v, h => by
    obtain ⟨a, vs, e1, h1, h2⟩ := h
    exact ⟨a, vs, e1, Evl.ex_t e h1, rps_mono e ds vs h2⟩
  | .lst ds, v, h => by
    obtain ⟨a, vs, e1, h1, h2⟩ := h
    exact ⟨a, vs, e1, e _ _ h1, rps_mono e ds vs h2⟩
  | .scr ns, v, h => by
    obtain ⟨a, e1, h1⟩ := h
    exact ⟨a, e1, Evl.ex_l e h1⟩
  | .ref _, _, h => h
  | .rng _ _, v, h => by
    obtain ⟨a, e1, h1⟩ := h
    exact ⟨a, e1, e _ _ h1⟩
theorem rps_mono (e : Ex F F') : ∀ (ds : List D) (vs : List V), Rps K F ds vs → Rps K F' ds vs
  | [], _, h => h
  | d :: ds, vs, h => by
    obtain ⟨v, r, e1, h1, h2⟩ := h
    exact ⟨v, r, e1, rp_mono e d v h1, rps_mono e ds r h2⟩
end
theorem rps_len : ∀ {ds : List D} {vs : List V}, Rps K F ds vs → vs.length = ds.length
  | [], vs, h => by
    rw [show vs = [] from h]
    rfl
  | d :: ds, vs, h => by
    obtain ⟨v, r, e1, h1, h2⟩ := h
    rw [e1, List.length_cons, List.length_cons, rps_len h2]
theorem rps_get : ∀ {ds : List D} {vs : List V} {i : Nat} {d : D}, Rps K F ds vs → ds[i]? = some d → ∃ v, vs[i]? = some v ∧ Rp K F d v
  | [], _, _, _, _, h => by simp at h
  | d :: ds, vs, 0, e, h, h' => by
    obtain ⟨v, r, e1, h1, h2⟩ := h
    have : d = e := by simpa using h'
    subst this
    exact ⟨v, by rw [e1] <;> rfl, h1⟩
  | d :: ds, vs, i + 1, e, h, h' => by
    obtain ⟨v, r, e1, h1, h2⟩ := h
    obtain ⟨w, h3, h4⟩ := rps_get (i := i) h2 (by simpa using h')
    exact ⟨w, by rw [e1]; simpa using h3, h4⟩
theorem rps_get' : ∀ {ds : List D} {vs : List V} {i : Nat} {v : V}, Rps K F ds vs → vs[i]? = some v → ∃ d, ds[i]? = some d ∧ Rp K F d v := fun {ds vs i v} h h' => by
  have hl := rps_len h
  have hi : i < vs.length := (List.getElem?_eq_some_iff.mp h').1
  have hd : ds[i]? = some ds[i] := List.getElem?_eq_getElem (by omega)
  obtain ⟨w, h1, h2⟩ := rps_get h hd
  rw [h'] at h1
  cases h1
  exact ⟨_, hd, h2⟩
theorem rps_app : ∀ {ds es : List D} {vs ws : List V}, Rps K F ds vs → Rps K F es ws → Rps K F (ds ++ es) (vs ++ ws)
  | [], _, vs, _, h, h' => by
    rw [show vs = [] from h]
    exact h'
  | d :: ds, es, vs, ws, h, h' => by
    obtain ⟨v, r, e1, h1, h2⟩ := h
    exact ⟨v, r ++ ws, by rw [e1] <;> rfl, h1, rps_app h2 h'⟩
theorem rps_one {d : D} {v : V} (h : Rp K F d v) : Rps K F [d] [v] := ⟨v, [], rfl, h, rfl⟩
theorem rps_ints : ∀ (ns : List Int) (vs : List V), Rps K F (ns.map D.int) vs → vs = ns.map V.int
  | [], _, h => h
  | n :: ns, vs, h => by
    obtain ⟨v, r, e1, h1, h2⟩ := h
    rw [e1, show v = V.int n from h1, rps_ints ns r h2] <;> rfl
theorem ints_rps : ∀ (ns : List Int), Rps K F (ns.map D.int) (ns.map V.int)
  | [] => rfl
  | n :: ns => ⟨.int n, ns.map V.int, rfl, rfl, ints_rps ns⟩
theorem rps_take : ∀ {ds : List D} {vs : List V} (n : Nat), Rps K F ds vs → Rps K F (ds.take n) (vs.take n)
  | [], vs, n, h => by
    rw [show vs = [] from h]
    cases n <;> rfl
  | d :: ds, vs, 0, h => by
    rw [List.take_zero, List.take_zero]
    rfl
  | d :: ds, vs, n + 1, h => by
    obtain ⟨v, r, e1, h1, h2⟩ := h
    rw [e1]
    exact ⟨v, r.take n, rfl, h1, rps_take n h2⟩
theorem rps_drop : ∀ {ds : List D} {vs : List V} (n : Nat), Rps K F ds vs → Rps K F (ds.drop n) (vs.drop n)
  | [], vs, n, h => by
    rw [show vs = [] from h]
    cases n <;> rfl
  | d :: ds, vs, 0, h => h
  | d :: ds, vs, n + 1, h => by
    obtain ⟨v, r, e1, h1, h2⟩ := h
    rw [e1]
    exact rps_drop n h2
theorem rps_set : ∀ {ds : List D} {vs : List V} {d : D} {v : V} (i : Nat), Rps K F ds vs → Rp K F d v → Rps K F (ds.set i d) (vs.set i v)
  | [], vs, d, v, i, h, h' => by
    rw [show vs = [] from h]
    rfl
  | e :: ds, vs, d, v, 0, h, h' => by
    obtain ⟨w, r, e1, h1, h2⟩ := h
    rw [e1]
    exact ⟨v, r, rfl, h', h2⟩
  | e :: ds, vs, d, v, i + 1, h, h' => by
    obtain ⟨w, r, e1, h1, h2⟩ := h
    rw [e1]
    exact ⟨w, r.set i v, rfl, h1, rps_set i h2 h'⟩
end

/-! ### memory that may change, frames -/
inductive OD where
  | lst (ds : List D) | ins (C : Addr) (fs : List (Str × D)) | dct (kvs : List (Key × D))
abbrev Mem := Addr → Option OD
def RpO (K : PySem.W.Frag) (F : Hp) : OD → Option HO → Prop
  | .lst ds, h => ∃ vs, h = some (.lst vs) ∧ Rps K F ds vs
  | .ins C fs, h => ∃ dx vfs, h = some (.ins C dx vfs) ∧ vfs.map Prod.fst = fs.map Prod.fst ∧ Rps K F (fs.map Prod.snd) (vfs.map Prod.snd)
  | .dct kvs, h => ∃ vs, h = some (.dK vs) ∧ vs.map Prod.fst = kvs.map Prod.fst ∧ Rps K F (kvs.map Prod.snd) (vs.map Prod.snd)
theorem RpO.mono {K : PySem.W.Frag} {F F' : Hp} (e : Ex F F') {o : OD} {h : Option HO} (x : RpO K F o h) : RpO K F' o h := by
  cases o with
  | lst ds =>
    obtain ⟨vs, e1, h1⟩ := x
    exact ⟨vs, e1, rps_mono e _ _ h1⟩
  | ins C fs =>
    obtain ⟨dx, vfs, e1, h0, h1⟩ := x
    exact ⟨dx, vfs, e1, h0, rps_mono e _ _ h1⟩
  | dct kvs =>
    obtain ⟨vs, e1, h0, h1⟩ := x
    exact ⟨vs, e1, h0, rps_mono e _ _ h1⟩
theorem RpO.some {K : PySem.W.Frag} {F : Hp} {o : OD} {h : Option HO} (x : RpO K F o h) : ∃ u, h = some u := by
  cases o with
  | lst ds =>
    obtain ⟨vs, e1, h1⟩ := x
    exact ⟨_, e1⟩
  | ins C fs =>
    obtain ⟨dx, vfs, e1, h0, h1⟩ := x
    exact ⟨_, e1⟩
  | dct kvs =>
    obtain ⟨vs, e1, h0, h1⟩ := x
    exact ⟨_, e1⟩

/-- what stays: the rest R of the heap, what was frozen at the entry -/
structure Zx where
  R : Hp
  F0 : Hp
structure Bs (K : PySem.W.Frag) (Z : Zx) (M : Mem) (H F : Hp) : Prop where
  f0 : Ex Z.F0 F
  fH : Ex F H
  rH : Ex Z.R H
  fr : ∀ a o, F a = some o → Z.R a = none
  mm : ∀ a o, M a = some o → F a = none ∧ Z.R a = none ∧ RpO K F o (H a)

inductive Sl where
  | un | d (d : D) | own (ds : List D)
def SlotOk (K : PySem.W.Frag) (Z : Zx) (F : Hp) (M : Mem) (H : Hp) (o : Option (Option V)) : Sl → Prop
  | .un => True
  | .d d => ∃ v, o = some (some v) ∧ Rp K F d v
  | .own ds => ∃ a vs, o = some (some (.ref a)) ∧ H a = some (.lst vs) ∧ Rps K F ds vs ∧ F a = none ∧ Z.R a = none ∧ M a = none
structure Cn (K : PySem.W.Frag) (Z : Zx) (M : Mem) (σ : L2.St) (H : Hp) (Δ : List Sl) (F : Hp) : Prop where
  bs : Bs K Z M H F
  len : Δ.length = σ.length
  slot : ∀ (i : Nat) (s : Sl), Δ[i]? = some s → SlotOk K Z F M H σ[i]? s
  sep : ∀ (i j : Nat) (a : Addr) (ds es : List D), i ≠ j → Δ[i]? = some (.own ds) → Δ[j]? = some (.own es) → σ[i]? = some (some (.ref a)) → σ[j]? = some (some (.ref a)) → False

section
variable {K : PySem.W.Frag} {Z : Zx} {M : Mem} {σ : L2.St} {H F : Hp} {Δ : List Sl} {p : Addr} {o : HO}
theorem Bs.new (b : Bs K Z M H F) (hp : H p = none) (o : HO) : Bs K Z M (upd H p o) (upd F p o) where
  f0 := b.f0.trans (Ex.new (by
    cases h : F p with
    | none => rfl
    | some u => rw [b.fH p u h] at hp; cases hp))
  fH := fun a u h => by
    by_cases e : a = p
    · subst e; rw [upd_same] at h ⊢; exact h
    · rw [upd_ne e] at h ⊢; exact b.fH a u h
  rH := b.rH.trans (Ex.new hp)
  fr := fun a u h => by
    by_cases e : a = p
    · subst e
      cases h : Z.R a with
      | none => rfl
      | some u => rw [b.rH a u h] at hp; cases hp
    · rw [upd_ne e] at h; exact b.fr a u h
  mm := fun a u h => by
    obtain ⟨h1, h2, h3⟩ := b.mm a u h
    obtain ⟨v, hv⟩ := h3.some
    have e : a ≠ p := ne_of_none hv hp
    have eF : Ex F (upd F p o) := Ex.new (by
      cases h : F p with
      | none => rfl
      | some u => rw [b.fH p u h] at hp; cases hp)
    exact ⟨by rw [upd_ne e]; exact h1, h2, by rw [upd_ne e]; exact h3.mono eF⟩
theorem Bs.freeF (b : Bs K Z M H F) (hp : H p = none) : F p = none := by
  cases h : F p with
  | none => rfl
  | some u => rw [b.fH p u h] at hp; cases hp
theorem Bs.freeR (b : Bs K Z M H F) (hp : H p = none) : Z.R p = none := by
  cases h : Z.R p with
  | none => rfl
  | some u => rw [b.rH p u h] at hp; cases hp
theorem Bs.freeM (b : Bs K Z M H F) (hp : H p = none) : M p = none := by
  cases h : M p with
  | none => rfl
  | some u =>
    obtain ⟨h1, h2, h3⟩ := b.mm p u h
    obtain ⟨v, hv⟩ := h3.some
    rw [hp] at hv; cases hv
theorem Bs.newH (b : Bs K Z M H F) (hp : H p = none) (o : HO) : Bs K Z M (upd H p o) F where
  f0 := b.f0
  fH := b.fH.trans (Ex.new hp)
  rH := b.rH.trans (Ex.new hp)
  fr := b.fr
  mm := fun a u h => by
    obtain ⟨h1, h2, h3⟩ := b.mm a u h
    obtain ⟨v, hv⟩ := h3.some
    exact ⟨h1, h2, by rw [upd_ne (ne_of_none hv hp)]; exact h3⟩
theorem Bs.exF (b : Bs K Z M H F) (hp : H p = none) (o : HO) : Ex F (upd F p o) := Ex.new (b.freeF hp)

theorem SlotOk.mono {H' F' : Hp} {so : Option (Option V)} {s : Sl} (h : SlotOk K Z F M H so s) (eF : Ex F F') (hO : ∀ a vs, H a = some (.lst vs) → F a = none → Z.R a = none → M a = none → F' a = none ∧ H' a = some (.lst vs)) : SlotOk K Z F' M H' so s := by
  cases s with
  | un => exact True.intro
  | d d =>
    obtain ⟨v, e, r⟩ := h
    exact ⟨v, e, rp_mono eF _ _ r⟩
  | own ds =>
    obtain ⟨a, vs, e, h1, h2, h3, h4, h5⟩ := h
    obtain ⟨q1, q2⟩ := hO a vs h1 h3 h4 h5
    exact ⟨a, vs, e, q2, rps_mono eF _ _ h2, q1, h4, h5⟩
/-- a new object is laid and frozen -/
theorem Cn.new (c : Cn K Z M σ H Δ F) (hp : H p = none) (o : HO) : Cn K Z M σ (upd H p o) Δ (upd F p o) where
  bs := c.bs.new hp o
  len := c.len
  slot := fun i s h => (c.slot i s h).mono (c.bs.exF hp o) fun a vs h1 h2 _ _ => by
    have e : a ≠ p := ne_of_none h1 hp
    rw [upd_ne e, upd_ne e]
    exact ⟨h2, h1⟩
  sep := c.sep
theorem Cn.newH (c : Cn K Z M σ H Δ F) (hp : H p = none) (o : HO) : Cn K Z M σ (upd H p o) Δ F where
  bs := c.bs.newH hp o
  len := c.len
  slot := fun i s h => (c.slot i s h).mono (Ex.refl _) fun a vs h1 h2 _ _ => by
    have e : a ≠ p := ne_of_none h1 hp
    rw [upd_ne e]
    exact ⟨h2, h1⟩
  sep := c.sep
theorem get_set {α : Type} {xs : List α} {i j : Nat} {x y : α} (h : (xs.set i x)[j]? = some y) : (i = j ∧ i < xs.length ∧ y = x) ∨ (i ≠ j ∧ xs[j]? = some y) := by
  by_cases e : i = j
  · subst e
    left
    by_cases hl : i < xs.length
    · rw [List.getElem?_set_self hl] at h
      exact ⟨rfl, hl, (Option.some.inj h).symm⟩
    · rw [List.getElem?_eq_none_iff.mpr (by rw [List.length_set]; omega)] at h
      cases h
  · right
    rw [List.getElem?_set_ne e] at h
    exact ⟨e, h⟩
/-- a slot is stored -/
theorem Cn.set (c : Cn K Z M σ H Δ F) {d : D} {v : V} (r : Rp K F d v) (i : Nat) : Cn K Z M (σ.set i (some v)) H (Δ.set i (.d d)) F where
  bs := c.bs
  len := by rw [List.length_set, List.length_set, c.len]
  slot := fun j s h => by
    rcases get_set h with ⟨e, hl, e2⟩ | ⟨e, h'⟩
    · subst e e2
      exact ⟨v, by rw [List.getElem?_set_self (by rw [← c.len]; exact hl)], r⟩
    · have q := c.slot j s h'
      rw [List.getElem?_set_ne e]
      exact q
  sep := fun j l a ds es hne h1 h2 h3 h4 => by
    rcases get_set h1 with ⟨_, _, e⟩ | ⟨n1, h1'⟩
    · cases e
    rcases get_set h2 with ⟨_, _, e⟩ | ⟨n2, h2'⟩
    · cases e
    rw [List.getElem?_set_ne n1] at h3
    rw [List.getElem?_set_ne n2] at h4
    exact c.sep j l a ds es hne h1' h2' h3 h4
/-- a slot is stored with a list that is new and its own -/
theorem Cn.setOwn (c : Cn K Z M σ H Δ F) {ds : List D} {vs : List V} (hp : H p = none) (r : Rps K F ds vs) (i : Nat) : Cn K Z M (σ.set i (some (.ref p))) (upd H p (.lst vs)) (Δ.set i (.own ds)) F where
  bs := c.bs.newH hp _
  len := by rw [List.length_set, List.length_set, c.len]
  slot := fun j s h => by
    rcases get_set h with ⟨e, hl, e2⟩ | ⟨e, h'⟩
    · subst e e2
      exact ⟨p, vs, by rw [List.getElem?_set_self (by rw [← c.len]; exact hl)], upd_same, r, c.bs.freeF hp, c.bs.freeR hp, c.bs.freeM hp⟩
    · have q := (c.newH hp (.lst vs)).slot j s h'
      rw [List.getElem?_set_ne e]
      exact q
  sep := fun j l a es fs hne h1 h2 h3 h4 => by
    have other : ∀ (j : Nat) (es : List D) (a : Addr), Δ[j]? = some (.own es) → σ[j]? = some (some (.ref a)) → a ≠ p := fun j es a h h' => by
      obtain ⟨b, ws, e1, e2, _⟩ := c.slot j _ h
      rw [h'] at e1
      cases e1
      exact ne_of_none e2 hp
    rcases get_set h1 with ⟨e1, l1, e1'⟩ | ⟨n1, h1'⟩
    · subst e1
      rcases get_set h2 with ⟨e2, _, _⟩ | ⟨n2, h2'⟩
      · exact hne e2
      rw [List.getElem?_set_ne n2] at h4
      rw [List.getElem?_set_self (by rw [← c.len]; exact l1)] at h3
      cases h3
      exact other l fs _ h2' h4 rfl
    · rw [List.getElem?_set_ne n1] at h3
      rcases get_set h2 with ⟨e2, l2, e2'⟩ | ⟨n2, h2'⟩
      · subst e2
        rw [List.getElem?_set_self (by rw [← c.len]; exact l2)] at h4
        cases h4
        exact other j es _ h1' h3 rfl
      · rw [List.getElem?_set_ne n2] at h4
        exact c.sep j l a es fs hne h1' h2' h3 h4
/-- a slot is forgotten -/
theorem Cn.drop (c : Cn K Z M σ H Δ F) (i : Nat) : Cn K Z M σ H (Δ.set i .un) F where
  bs := c.bs
  len := by rw [List.length_set, c.len]
  slot := fun j s h => by
    rcases get_set h with ⟨e, hl, e2⟩ | ⟨e, h'⟩
    · subst e2; exact True.intro
    · exact c.slot j s h'
  sep := fun j l a ds es hne h1 h2 h3 h4 => by
    rcases get_set h1 with ⟨_, _, e⟩ | ⟨n1, h1'⟩
    · cases e
    rcases get_set h2 with ⟨_, _, e⟩ | ⟨n2, h2'⟩
    · cases e
    exact c.sep j l a ds es hne h1' h2' h3 h4
/-- an own list becomes data -/
theorem Cn.freeze (c : Cn K Z M σ H Δ F) {i : Nat} {ds : List D} {a : Addr} {vs : List V} (hi : Δ[i]? = some (.own ds)) (hσ : σ[i]? = some (some (.ref a))) (hH : H a = some (.lst vs)) (r : Rps K F ds vs) (hF : F a = none) (hR : Z.R a = none) (hM : M a = none) :
    Cn K Z M σ H (Δ.set i (.d (.lst ds))) (upd F a (.lst vs)) where
  bs := {
    f0 := c.bs.f0.trans (Ex.new hF)
    fH := fun b u h => by
      by_cases e : b = a
      · subst e; rw [upd_same] at h; rw [hH]; exact h
      · rw [upd_ne e] at h; exact c.bs.fH b u h
    rH := c.bs.rH
    fr := fun b u h => by
      by_cases e : b = a
      · subst e; exact hR
      · rw [upd_ne e] at h; exact c.bs.fr b u h
    mm := fun b u h => by
      obtain ⟨h1, h2, h3⟩ := c.bs.mm b u h
      have e : b ≠ a := fun e => by
        subst e; rw [hM] at h; cases h
      exact ⟨by rw [upd_ne e]; exact h1, h2, h3.mono (Ex.new hF)⟩ }
  len := by rw [List.length_set, c.len]
  slot := fun j s h => by
    rcases get_set h with ⟨e, hl, e2⟩ | ⟨e, h'⟩
    · subst e e2
      exact ⟨.ref a, hσ, a, vs, rfl, upd_same, rps_mono (Ex.new hF) _ _ r⟩
    · have q := c.slot j s h'
      cases s with
      | un => exact True.intro
      | d d =>
        obtain ⟨v, e1, r1⟩ := q
        exact ⟨v, e1, rp_mono (Ex.new hF) _ _ r1⟩
      | own es =>
        obtain ⟨b, ws, e1, h1, h2, h3, h4, h5⟩ := q
        have hb : b ≠ a := fun e2 => by
          subst e2
          exact c.sep i j b ds es e hi h' hσ e1
        exact ⟨b, ws, e1, h1, rps_mono (Ex.new hF) _ _ h2, by rw [upd_ne hb]; exact h3, h4, h5⟩
  sep := fun j l b es fs hne h1 h2 h3 h4 => by
    rcases get_set h1 with ⟨_, _, e⟩ | ⟨n1, h1'⟩
    · cases e
    rcases get_set h2 with ⟨_, _, e⟩ | ⟨n2, h2'⟩
    · cases e
    exact c.sep j l b es fs hne h1' h2' h3 h4
/-- an own list changes -/
theorem Cn.change (c : Cn K Z M σ H Δ F) {i : Nat} {ds es : List D} {a : Addr} {vs : List V} (hi : Δ[i]? = some (.own ds)) (hσ : σ[i]? = some (some (.ref a))) (hF : F a = none) (hR : Z.R a = none) (hM : M a = none) (r : Rps K F es vs) :
    Cn K Z M σ (upd H a (.lst vs)) (Δ.set i (.own es)) F where
  bs := {
    f0 := c.bs.f0
    fH := fun b u h => by
      have e : b ≠ a := fun e => by subst e; rw [hF] at h; cases h
      rw [upd_ne e]; exact c.bs.fH b u h
    rH := fun b u h => by
      have e : b ≠ a := fun e => by subst e; rw [hR] at h; cases h
      rw [upd_ne e]; exact c.bs.rH b u h
    fr := c.bs.fr
    mm := fun b u h => by
      have e : b ≠ a := fun e => by subst e; rw [hM] at h; cases h
      rw [upd_ne e]; exact c.bs.mm b u h }
  len := by rw [List.length_set, c.len]
  slot := fun j s h => by
    rcases get_set h with ⟨e, hl, e2⟩ | ⟨e, h'⟩
    · subst e e2
      exact ⟨a, vs, hσ, upd_same, r, hF, hR, hM⟩
    · have q := c.slot j s h'
      cases s with
      | un => exact True.intro
      | d d => exact q
      | own fs =>
        obtain ⟨b, ws, e1, h1, h2, h3, h4, h5⟩ := q
        have hb : b ≠ a := fun e2 => by
          subst e2
          exact c.sep i j b ds fs e hi h' hσ e1
        exact ⟨b, ws, e1, by rw [upd_ne hb]; exact h1, h2, h3, h4, h5⟩
  sep := fun j l b fs gs hne h1 h2 h3 h4 => by
    rcases get_set h1 with ⟨e1, l1, e1'⟩ | ⟨n1, h1'⟩
    · subst e1
      rcases get_set h2 with ⟨e2, _, _⟩ | ⟨n2, h2'⟩
      · exact hne e2
      · exact c.sep i l b ds gs hne hi h2' h3 h4
    · rcases get_set h2 with ⟨e2, l2, e2'⟩ | ⟨n2, h2'⟩
      · subst e2
        exact c.sep j i b fs ds hne h1' hi h3 h4
      · exact c.sep j l b fs gs hne h1' h2' h3 h4
end
end DL

set_option Elab.async false
set_option linter.all false
set_option maxRecDepth 100000
set_option maxHeartbeats 4000000
namespace DL
open PySem L2
open Evl (Ex)

/-! ### readings over data -/
abbrev RE := List Sl → Mem → (D → List Sl → Mem → Prop) → Prop
abbrev RT := List Sl → Mem → (Bool → List Sl → Mem → Prop) → Prop
abbrev RA := List Sl → Mem → (List D → List Sl → Mem → Prop) → Prop
structure DE where
  nx : List Sl → Mem → Prop
  rt : D → Mem → Prop
  bk : List Sl → Mem → Prop := fun _ _ => False
  ct : List Sl → Mem → Prop := fun _ _ => False
abbrev RS := DE → List Sl → Mem → Prop

def Sim (K : PySem.W.Frag) (Z : Zx) (t : TE) (r : RE) : Prop := ∀ (M : Mem) (σ : L2.St) (H : Hp) (Δ : List Sl) (F : Hp) (Φ : D → List Sl → Mem → Prop), Cn K Z M σ H Δ F → r Δ M Φ →
  ∀ Q : VK, (∀ v H' d Δ' M' F', Ex F F' → Cn K Z M' σ H' Δ' F' → Rp K F' d v → Φ d Δ' M' → Q v H') → t σ H Q
def SimT (K : PySem.W.Frag) (Z : Zx) (t : TT) (r : RT) : Prop := ∀ (M : Mem) (σ : L2.St) (H : Hp) (Δ : List Sl) (F : Hp) (Φ : Bool → List Sl → Mem → Prop), Cn K Z M σ H Δ F → r Δ M Φ →
  ∀ Q : Bool → Hp → Prop, (∀ b H' Δ' M' F', Ex F F' → Cn K Z M' σ H' Δ' F' → Φ b Δ' M' → Q b H') → t σ H Q
def SimA (K : PySem.W.Frag) (Z : Zx) (n : Nat) (t : TA) (r : RA) : Prop := ∀ (M : Mem) (σ : L2.St) (H : Hp) (Δ : List Sl) (F : Hp) (Φ : List D → List Sl → Mem → Prop), Cn K Z M σ H Δ F → r Δ M Φ →
  ∀ Q : List V → Hp → Prop, (∀ vs H' ds Δ' M' F', Ex F F' → Cn K Z M' σ H' Δ' F' → Rps K F' ds vs → ds.length = n → Φ ds Δ' M' → Q vs H') → t σ H Q
/-- what the concrete ends must take, from the frozen part F on -/
structure EndsOk (K : PySem.W.Frag) (Z : Zx) (F : Hp) (De : DE) (Dv : Ends) : Prop where
  nx : ∀ σ' H' Δ' M' F', Ex F F' → Cn K Z M' σ' H' Δ' F' → De.nx Δ' M' → Dv.nx σ' H'
  rt : ∀ v H' d M' F', Ex F F' → Bs K Z M' H' F' → Rp K F' d v → De.rt d M' → Dv.rt v H'
  bk : ∀ σ' H' Δ' M' F', Ex F F' → Cn K Z M' σ' H' Δ' F' → De.bk Δ' M' → Dv.bk σ' H'
  ct : ∀ σ' H' Δ' M' F', Ex F F' → Cn K Z M' σ' H' Δ' F' → De.ct Δ' M' → Dv.ct σ' H'
theorem EndsOk.mono {K : PySem.W.Frag} {Z : Zx} {F F1 : Hp} {De : DE} {Dv : Ends} (e : Ex F F1) (ok : EndsOk K Z F De Dv) : EndsOk K Z F1 De Dv :=
  ⟨fun σ' H' Δ' M' F' e1 => ok.nx σ' H' Δ' M' F' (e.trans e1), fun v H' d M' F' e1 => ok.rt v H' d M' F' (e.trans e1), fun σ' H' Δ' M' F' e1 => ok.bk σ' H' Δ' M' F' (e.trans e1), fun σ' H' Δ' M' F' e1 => ok.ct σ' H' Δ' M' F' (e.trans e1)⟩
def SimS (K : PySem.W.Frag) (Z : Zx) (t : TS) (r : RS) : Prop := ∀ (M : Mem) (σ : L2.St) (H : Hp) (Δ : List Sl) (F : Hp) (De : DE), Cn K Z M σ H Δ F → r De Δ M → ∀ Dv : Ends, EndsOk K Z F De Dv → t Dv σ H

def QE (X : Cx) (Z : Zx) (e : Expr) (r : RE) : Prop := ∃ t, PE X e t ∧ Sim X.K Z t r
def QT (X : Cx) (Z : Zx) (e : Expr) (r : RT) : Prop := ∃ t, PT X e t ∧ SimT X.K Z t r
def QW (X : Cx) (Z : Zx) (e : Expr) (r : RT) : Prop := ∃ t, PW X e t ∧ SimT X.K Z t r
def QA (X : Cx) (Z : Zx) (n : Nat) (es : List Expr) (r : RA) : Prop := ∃ t, PA X es t ∧ SimA X.K Z n t r
def QS (X : Cx) (Z : Zx) (s : Stmt) (r : RS) : Prop := ∃ t, PS X s t ∧ SimS X.K Z t r
def QSs (X : Cx) (Z : Zx) (s : List Stmt) (r : RS) : Prop := ∃ t, PSs X s t ∧ SimS X.K Z t r

section
variable {X : Cx} {Z : Zx} {e a b c : Expr} {ra rb rc r : RE} {pos : Pos}

/-! ### names, constants -/
/-- the value in a slot; an own list becomes data -/
def dVar (i : Nat) : RE := fun Δ M Φ => match Δ[i]? with
  | some (.d d) => Φ d Δ M
  | some (.own ds) => Φ (.lst ds) (Δ.set i (.d (.lst ds))) M
  | _ => False
def dC (d : D) : RE := fun Δ M Φ => Φ d Δ M
theorem sim_var {K : PySem.W.Frag} {i : Nat} : Sim K Z (tVar i) (dVar i) := by
  intro M σ H Δ F Φ c h Q q
  unfold dVar at h
  cases hs : Δ[i]? with
  | none => rw [hs] at h; exact h.elim
  | some s =>
    rw [hs] at h
    have k := c.slot i s hs
    cases s with
    | un => exact h.elim
    | d d =>
      obtain ⟨v, e, r⟩ := k
      exact ⟨v, e, q v H d Δ M F (Ex.refl _) c r h⟩
    | own ds =>
      obtain ⟨p, vs, e, h1, h2, h3, h4, h5⟩ := k
      exact ⟨.ref p, e, q _ H (.lst ds) _ M (upd F p (.lst vs)) (Ex.new h3) (c.freeze hs e h1 h2 h3 h4 h5) ⟨p, vs, rfl, upd_same, rps_mono (Ex.new h3) _ _ h2⟩ h⟩
theorem qe_var (i : Nat) {x : Str} (hN : X.N[i]? = some x := by rfl) (hv : Vis X.env.scope x := by first | exact Or.inl rfl | exact Or.inr (Or.inl rfl) | exact Or.inr (Or.inr rfl)) (hd : (x == ("__debug__" : Str)) = false := by decide)
    (hcd : (x == ("__classdict__" : Str)) = false := by decide) : QE X Z (.Name x pos) (dVar i) := ⟨_, pe_var hN hv hd hcd, sim_var⟩
theorem sim_c {K : PySem.W.Frag} {v : V} {d : D} (h : ∀ F, Rp K F d v) : Sim K Z (tC v) (dC d) := fun M σ H Δ F Φ c k Q q => q v H d Δ M F (Ex.refl _) c (h F) k
theorem qe_int {i j} : QE X Z (.Constant (.int i) j pos) (dC (.int i)) := ⟨_, pe_int, sim_c fun _ => rfl⟩
theorem qe_bl {b j} : QE X Z (.Constant (.bool b) j pos) (dC (.bl b)) := ⟨_, pe_bl, sim_c fun _ => rfl⟩
theorem qe_non {j} : QE X Z (.Constant .none j pos) (dC .non) := ⟨_, pe_non, sim_c fun _ => rfl⟩
theorem qe_str {x j} : QE X Z (.Constant (.str x) j pos) (dC (.str x)) := ⟨_, pe_str, sim_c fun _ => rfl⟩

/-! ### two-place operations -/
/-- an operation on data: dr x y Φ asks, then hands on a value; nothing but new frozen objects is made -/
def OpD (K : PySem.W.Frag) (rv : R2) (dr : D → D → (D → Prop) → Prop) : Prop := ∀ (Z : Zx) (M : Mem) (σ : L2.St) (H : Hp) (Δ : List Sl) (F : Hp) (x y : D) (v w : V) (Φ : D → Prop), Cn K Z M σ H Δ F → Rp K F x v → Rp K F y w → dr x y Φ →
  ∀ Q : VK, (∀ u H' d F', Ex F F' → Cn K Z M σ H' Δ F' → Rp K F' d u → Φ d → Q u H') → rv v w H Q
def dOp (dr : D → D → (D → Prop) → Prop) (ra rb : RE) : RE := fun Δ M Φ => ra Δ M fun x Δ1 M1 => rb Δ1 M1 fun y Δ2 M2 => dr x y fun d => Φ d Δ2 M2
theorem sim_op {K : PySem.W.Frag} {rv : R2} {dr : D → D → (D → Prop) → Prop} {ta tb : TE} (ho : OpD K rv dr) (ha : Sim K Z ta ra) (hb : Sim K Z tb rb) : Sim K Z (tOp rv ta tb) (dOp dr ra rb) := by
  intro M σ H Δ F Φ c h Q q
  refine ha M σ H Δ F _ c h _ fun v H1 x Δ1 M1 F1 e1 c1 r1 h1 => ?_
  refine hb M1 σ H1 Δ1 F1 _ c1 h1 _ fun w H2 y Δ2 M2 F2 e2 c2 r2 h2 => ?_
  exact ho Z M2 σ H2 Δ2 F2 x y v w _ c2 (rp_mono e2 _ _ r1) r2 h2 Q fun u H3 d F3 e3 c3 r3 h3 => q u H3 d Δ2 M2 F3 ((e1.trans e2).trans e3) c3 r3 h3
theorem OpD.or {K : PySem.W.Frag} {r1 r2 : R2} {d1 d2 dr : D → D → (D → Prop) → Prop} (h1 : OpD K r1 d1) (h2 : OpD K r2 d2) (h : ∀ x y Φ, dr x y Φ → d1 x y Φ ∨ d2 x y Φ) : OpD K (fun x y H Q => r1 x y H Q ∨ r2 x y H Q) dr := by
  intro Z M σ H Δ F x y v w Φ c rx ry k Q q
  rcases h x y Φ k with k | k
  · exact .inl (h1 Z M σ H Δ F x y v w Φ c rx ry k Q q)
  · exact .inr (h2 Z M σ H Δ F x y v w Φ c rx ry k Q q)
theorem qe_bin {op : Operator} {rv : R2} {dr : D → D → (D → Prop) → Prop} (ho : OpR X (binaryOp op) rv) (hd : OpD X.K rv dr) (ha : QE X Z a ra) (hb : QE X Z b rb) : QE X Z (.BinOp a op b pos) (dOp dr ra rb) := by
  obtain ⟨ta, pa, sa⟩ := ha
  obtain ⟨tb, pb, sb⟩ := hb
  exact ⟨_, pe_op ho pa pb, sim_op hd sa sb⟩
theorem qe_cmp {op : CmpOp} {rv : R2} {dr : D → D → (D → Prop) → Prop} (ho : OpR X (compareOp op) rv) (hd : OpD X.K rv dr) (ha : QE X Z a ra) (hb : QE X Z b rb) (hm : behindInMarks op b = false := by first | exact nobehind _ (by decide) (by decide) | rfl) : QE X Z (.Compare a [op] [b] pos) (dOp dr ra rb) := by
  obtain ⟨ta, pa, sa⟩ := ha
  obtain ⟨tb, pb, sb⟩ := hb
  exact ⟨_, pe_cmpR ho pa pb hm, sim_op hd sa sb⟩
/-- the two ways of a truth value -/
def bs (k : Bool) (Φ : Bool → Prop) : Prop := (k = true → Φ true) ∧ (k = false → Φ false)
theorem bs_of {k : Bool} {Φ : Bool → Prop} (h : bs k Φ) : Φ k := by
  cases k with
  | true => exact h.1 rfl
  | false => exact h.2 rfl
/-- a test that is a truth value -/
def dTest (r : RE) : RT := fun Δ M Φ => r Δ M fun x Δ1 M1 => match x with
  | .bl k => bs k fun k => Φ k Δ1 M1
  | _ => False
theorem simT_test {K : PySem.W.Frag} {t : TE} (h : Sim K Z t r) : SimT K Z (tTest t) (dTest r) := by
  intro M σ H Δ F Φ c k Q q
  refine h M σ H Δ F _ c k _ fun v H1 x Δ1 M1 F1 e1 c1 r1 h1 => ?_
  cases x with
  | bl b => exact ⟨b, r1, q b H1 Δ1 M1 F1 e1 c1 (bs_of h1)⟩
  | _ => exact h1.elim
theorem qt_cmp {op : CmpOp} {rv : R2} {dr : D → D → (D → Prop) → Prop} (ho : OpR X (compareOp op) rv) (hd : OpD X.K rv dr) (ha : QE X Z a ra) (hb : QE X Z b rb) (hm : behindInMarks op b = false := by first | exact nobehind _ (by decide) (by decide) | rfl) : QT X Z (.Compare a [op] [b] pos) (dTest (dOp dr ra rb)) := by
  obtain ⟨ta, pa, sa⟩ := ha
  obtain ⟨tb, pb, sb⟩ := hb
  exact ⟨_, pt_cmpR ho pa pb hm, simT_test (sim_op hd sa sb)⟩
/-- an expression whose value is a truth value, as a test -/
theorem qt_val (h : QE X Z e r) (he : ∀ whole, isTrue e X.env whole = (do let v ← whole; standAt e.pos; holding [v] (truthy v)) := by intro _; rfl) : QT X Z e (dTest r) := by
  obtain ⟨t, p, s⟩ := h
  exact ⟨_, pt_val p he, simT_test s⟩

/-- ints -/
def dI (g : Int → Int → D) : D → D → (D → Prop) → Prop := fun x y Φ => match x, y with
  | .int i, .int j => Φ (g i j)
  | _, _ => False
def dIC (C : Int → Int → Prop) (g : Int → Int → D) : D → D → (D → Prop) → Prop := fun x y Φ => match x, y with
  | .int i, .int j => C i j ∧ Φ (g i j)
  | _, _ => False
theorem opD_I {K : PySem.W.Frag} {g : Int → Int → V} {g' : Int → Int → D} (hg : ∀ F i j, Rp K F (g' i j) (g i j)) : OpD K (rI0 g) (dI g') := by
  intro Z M σ H Δ F x y v w Φ c rx ry k Q q
  unfold dI at k
  split at k
  · exact ⟨_, _, rx, ry, q _ H _ F (Ex.refl _) c (hg F _ _) k⟩
  · exact k.elim
theorem opD_IC {K : PySem.W.Frag} {C : Int → Int → Prop} {g : Int → Int → V} {g' : Int → Int → D} (hg : ∀ F i j, Rp K F (g' i j) (g i j)) : OpD K (rI C g) (dIC C g') := by
  intro Z M σ H Δ F x y v w Φ c rx ry k Q q
  unfold dIC at k
  split at k
  · exact ⟨_, _, rx, ry, k.1, q _ H _ F (Ex.refl _) c (hg F _ _) k.2⟩
  · exact k.elim
theorem qe_sub (ha : QE X Z a ra) (hb : QE X Z b rb) : QE X Z (.BinOp a .Sub b pos) (dOp (dI fun i j => .int (i - j)) ra rb) := qe_bin op_sub (opD_I fun _ _ _ => rfl) ha hb
theorem qe_mul (ha : QE X Z a ra) (hb : QE X Z b rb) : QE X Z (.BinOp a .Mult b pos) (dOp (dIC CMul fun i j => .int (i * j)) ra rb) := qe_bin op_mul (opD_IC fun _ _ _ => rfl) ha hb
theorem qe_mulW (ha : QE X Z a ra) (hb : QE X Z b rb) : QE X Z (.BinOp a .Mult b pos) (dOp (dIC CMulW fun i j => .int (i * j)) ra rb) := qe_bin op_mulW (opD_IC fun _ _ _ => rfl) ha hb
theorem qe_fdiv (ha : QE X Z a ra) (hb : QE X Z b rb) : QE X Z (.BinOp a .FloorDiv b pos) (dOp (dIC CDiv fun i j => .int (i / j)) ra rb) := qe_bin op_fdiv (opD_IC fun _ _ _ => rfl) ha hb
theorem qe_fdivW (ha : QE X Z a ra) (hb : QE X Z b rb) : QE X Z (.BinOp a .FloorDiv b pos) (dOp (dIC CDivW fun i j => .int (i / j)) ra rb) := qe_bin op_fdivW (opD_IC fun _ _ _ => rfl) ha hb
theorem qe_mod (ha : QE X Z a ra) (hb : QE X Z b rb) : QE X Z (.BinOp a .Mod b pos) (dOp (dIC (fun _ j => 0 < j) fun i j => .int (i % j)) ra rb) := qe_bin op_mod (opD_IC fun _ _ _ => rfl) ha hb
theorem qe_pow (ha : QE X Z a ra) (hb : QE X Z b rb) : QE X Z (.BinOp a .Pow b pos) (dOp (dIC CPow fun i j => .int (i ^ j.toNat)) ra rb) := qe_bin op_pow (opD_IC fun _ _ _ => rfl) ha hb
/-- + : ints, texts, lists, tuples -/
def dAdd : D → D → (D → Prop) → Prop := fun x y Φ => match x, y with
  | .int i, .int j => Φ (.int (i + j))
  | .str i, .str j => i.length + j.length ≤ sizeLine ∧ Φ (.str (i ++ j))
  | .lst xs, .lst ys => xs.length + ys.length ≤ sizeLine ∧ Φ (.lst (xs ++ ys))
  | .tup xs, .tup ys => xs ≠ [] ∧ xs.length + ys.length ≤ sizeLine ∧ Φ (.tup (xs ++ ys))
  | _, _ => False
def rAddAll (K : PySem.W.Frag) : R2 := fun x y H Q => (rI0 (fun i j => .int (i + j)) x y H Q ∨ (∃ i j, x = .str i ∧ y = .str j ∧ i.length + j.length ≤ sizeLine ∧ Q (.str (i ++ j)) H)) ∨ (rCat x y H Q ∨ rCatT K x y H Q)
theorem op_addAll : OpR X (binaryOp .Add) (rAddAll X.K) := OpR.or (OpR.or op_add op_add_str) (OpR.or op_cat op_catT)
theorem opD_add {K : PySem.W.Frag} : OpD K (rAddAll K) dAdd := by
  intro Z M σ H Δ F x y v w Φ c rx ry k Q q
  unfold dAdd at k
  split at k
  · exact .inl (.inl ⟨_, _, rx, ry, q _ H (.int _) F (Ex.refl _) c rfl k⟩)
  · exact .inl (.inr ⟨_, _, rx, ry, k.1, q _ H (.str _) F (Ex.refl _) c rfl k.2⟩)
  · obtain ⟨a, vs, e1, h1, h2⟩ := rx
    obtain ⟨b, ws, e2, h3, h4⟩ := ry
    obtain ⟨k1, k2⟩ := k
    refine .inr (.inl ⟨a, b, vs, ws, e1, e2, c.bs.fH _ _ h1, c.bs.fH _ _ h3, by rw [rps_len h2, rps_len h4]; exact k1, fun p hp => ?_⟩)
    exact q _ _ (.lst _) _ (c.bs.exF hp _) (c.new hp _) ⟨p, _, rfl, upd_same, rps_mono (c.bs.exF hp _) _ _ (rps_app h2 h4)⟩ k2
  · rename_i xs ys
    obtain ⟨a, vs, e1, h1, h2⟩ := rx
    obtain ⟨b, ws, e2, h3, h4⟩ := ry
    obtain ⟨k0, k1, k2⟩ := k
    refine .inr (.inr ⟨a, b, vs, ws, e1, e2, Evl.ex_t c.bs.fH h1, Evl.ex_t c.bs.fH h3, fun z => ?_, by rw [rps_len h2, rps_len h4]; exact k1, fun z => ?_, fun z p hp => ?_⟩)
    · have := rps_len h2
      rw [z] at this
      exact k0 (List.length_eq_zero_iff.mp this.symm)
    · have hy : ys = [] := by
        have := rps_len h4
        rw [z] at this
        exact List.length_eq_zero_iff.mp this.symm
      refine q _ H (.tup xs) F (Ex.refl _) c ⟨a, vs, rfl, h1, h2⟩ ?_
      rw [hy, List.append_nil] at k2
      exact k2
    · exact q _ _ (.tup _) _ (c.bs.exF hp _) (c.new hp _) ⟨p, _, rfl, SqT.of upd_same, rps_mono (c.bs.exF hp _) _ _ (rps_app h2 h4)⟩ k2
  · exact k.elim
theorem qe_add (ha : QE X Z a ra) (hb : QE X Z b rb) : QE X Z (.BinOp a .Add b pos) (dOp dAdd ra rb) := qe_bin op_addAll opD_add ha hb

/-! ### comparisons of ints -/
abbrev dLt := dI fun i j => .bl (decide (i < j))
abbrev dLe := dI fun i j => .bl (decide (i ≤ j))
abbrev dGt := dI fun i j => .bl (decide (j < i))
abbrev dGe := dI fun i j => .bl (decide (j ≤ i))
theorem od_lt {K : PySem.W.Frag} : OpD K (rI0 fun i j => .bl (decide (i < j))) dLt := opD_I fun _ _ _ => rfl
theorem od_le {K : PySem.W.Frag} : OpD K (rI0 fun i j => .bl (decide (i ≤ j))) dLe := opD_I fun _ _ _ => rfl
theorem od_gt {K : PySem.W.Frag} : OpD K (rI0 fun i j => .bl (decide (j < i))) dGt := opD_I fun _ _ _ => rfl
theorem od_ge {K : PySem.W.Frag} : OpD K (rI0 fun i j => .bl (decide (j ≤ i))) dGe := opD_I fun _ _ _ => rfl

/-! ### == over data -/
/-! whole data -/
mutual
def D.py : D → PyData
  | .non => .none
  | .bl b => .bool b
  | .int i => .int i
  | .str x => .str x
  | .tup ds => .tuple (pys ds)
  | .lst ds => .list (pys ds)
  | .scr ns => .list (ns.map .int)
  | .ref _ => .none
  | .rng _ _ => .none
def pys : List D → List PyData
  | [] => []
  | d :: ds => d.py :: pys ds
end
mutual
def D.pure : D → Bool
  | .tup ds => pures ds
  | .lst ds => pures ds
  | .ref _ => false
  | .rng _ _ => false
  | _ => true
def pures : List D → Bool
  | [] => true
  | d :: ds => d.pure && pures ds
end
theorem dpAll_ints {K : PySem.W.Frag} {H : Hp} : ∀ ns : List Int, DpAll K H (ns.map V.int) (ns.map PyData.int)
  | [] => .nil
  | n :: ns => .cons (.int n) (dpAll_ints ns)
mutual
theorem rp_dp {K : PySem.W.Frag} {F H : Hp} (e : Ex F H) : ∀ (d : D) (v : V), d.pure = true → Rp K F d v → Dp K H v d.py
  | .non, v, _, h => by rw [show v = .non from h]; exact .non
  | .bl b, v, _, h => by rw [show v = .bl b from h]; exact .bl b
  | .int i, v, _, h => by rw [show v = .int i from h]; exact .int i
  | .str x, v, _, h => by rw [show v = .str x from h]; exact .str x
  | .tup ds, v, p, h => by
    obtain ⟨a, vs, e1, h1, h2⟩ := h
    rw [e1]
    exact .tup (Evl.ex_t e h1) (rps_dp e ds vs p h2)
  | .lst ds, v, p, h => by
    obtain ⟨a, vs, e1, h1, h2⟩ := h
    rw [e1]
    exact .lst (SqL.of (e _ _ h1)) (rps_dp e ds vs p h2)
  | .scr ns, v, p, h => by
    obtain ⟨a, e1, h1⟩ := h
    rw [e1]
    exact .lst (Evl.ex_l e h1) (dpAll_ints ns)
  | .ref _, _, p, _ => by cases p
  | .rng _ _, _, p, _ => by cases p
theorem rps_dp {K : PySem.W.Frag} {F H : Hp} (e : Ex F H) : ∀ (ds : List D) (vs : List V), pures ds = true → Rps K F ds vs → DpAll K H vs (pys ds)
  | [], vs, _, h => by rw [show vs = [] from h]; exact .nil
  | d :: ds, vs, p, h => by
    obtain ⟨v, r, e1, h1, h2⟩ := h
    rw [e1]
    have p' : (d.pure && pures ds) = true := p
    rw [Bool.and_eq_true] at p'
    exact .cons (rp_dp e d v p'.1 h1) (rps_dp e ds r p'.2 h2)
end
def dEq : D → D → (D → Prop) → Prop := fun x y Φ => x.pure = true ∧ y.pure = true ∧ SeqAt.shaped x.py = true ∧ SeqAt.shaped y.py = true ∧ Φ (.bl (PyData.eqv x.py y.py))
def dNe : D → D → (D → Prop) → Prop := fun x y Φ => x.pure = true ∧ y.pure = true ∧ SeqAt.shaped x.py = true ∧ SeqAt.shaped y.py = true ∧ Φ (.bl (!PyData.eqv x.py y.py))
theorem od_eq {K : PySem.W.Frag} : OpD K (rEqD K) dEq := by
  intro Z M σ H Δ F x y v w Φ c rx ry k Q q
  obtain ⟨h1, h2, h3, h4, k⟩ := k
  exact ⟨_, _, rp_dp c.bs.fH x v h1 rx, rp_dp c.bs.fH y w h2 ry, h3, h4, q _ H (.bl _) F (Ex.refl _) c rfl k⟩
theorem od_ne {K : PySem.W.Frag} : OpD K (rNeD K) dNe := by
  intro Z M σ H Δ F x y v w Φ c rx ry k Q q
  obtain ⟨h1, h2, h3, h4, k⟩ := k
  exact ⟨_, _, rp_dp c.bs.fH x v h1 rx, rp_dp c.bs.fH y w h2 ry, h3, h4, q _ H (.bl _) F (Ex.refl _) c rfl k⟩
/-- == of two ints, texts or truth values -/
def dEqS : D → D → (D → Prop) → Prop := fun x y Φ => match x, y with
  | .int i, .int j => Φ (.bl (decide (i = j)))
  | .str i, .str j => Φ (.bl (decide (i = j)))
  | .bl i, .bl j => Φ (.bl (decide (i = j)))
  | _, _ => False
def dNeS : D → D → (D → Prop) → Prop := fun x y Φ => match x, y with
  | .int i, .int j => Φ (.bl (!decide (i = j)))
  | .str i, .str j => Φ (.bl (!decide (i = j)))
  | .bl i, .bl j => Φ (.bl (!decide (i = j)))
  | _, _ => False
theorem dec_vi {i j : Int} : decide (V.int i = V.int j) = decide (i = j) := by simp
theorem dec_vs {i j : Str} : decide (V.str i = V.str j) = decide (i = j) := by simp
theorem dec_vb {i j : Bool} : decide (V.bl i = V.bl j) = decide (i = j) := by simp
theorem od_eqS {K : PySem.W.Frag} : OpD K rEq dEqS := by
  intro Z M σ H Δ F x y v w Φ c rx ry k Q q
  unfold dEqS at k
  split at k
  · cases rx; cases ry
    exact ⟨rfl, by rw [dec_vi]; exact q _ H (.bl _) F (Ex.refl _) c rfl k⟩
  · cases rx; cases ry
    exact ⟨rfl, by rw [dec_vs]; exact q _ H (.bl _) F (Ex.refl _) c rfl k⟩
  · cases rx; cases ry
    exact ⟨rfl, by rw [dec_vb]; exact q _ H (.bl _) F (Ex.refl _) c rfl k⟩
  · exact k.elim
theorem od_neS {K : PySem.W.Frag} : OpD K rNe dNeS := by
  intro Z M σ H Δ F x y v w Φ c rx ry k Q q
  unfold dNeS at k
  split at k
  · cases rx; cases ry
    exact ⟨rfl, by rw [dec_vi]; exact q _ H (.bl _) F (Ex.refl _) c rfl k⟩
  · cases rx; cases ry
    exact ⟨rfl, by rw [dec_vs]; exact q _ H (.bl _) F (Ex.refl _) c rfl k⟩
  · cases rx; cases ry
    exact ⟨rfl, by rw [dec_vb]; exact q _ H (.bl _) F (Ex.refl _) c rfl k⟩
  · exact k.elim
/-- is, is not of truth values; is None -/
def dIsB : D → D → (D → Prop) → Prop := fun x y Φ => match x, y with
  | .bl i, .bl j => Φ (.bl (decide (i = j)))
  | _, _ => False
def dNotB : D → D → (D → Prop) → Prop := fun x y Φ => match x, y with
  | .bl i, .bl j => Φ (.bl (!decide (i = j)))
  | _, _ => False
theorem od_isB {K : PySem.W.Frag} : OpD K rIsB dIsB := by
  intro Z M σ H Δ F x y v w Φ c rx ry k Q q
  unfold dIsB at k
  split at k
  · exact ⟨_, _, rx, ry, q _ H (.bl _) F (Ex.refl _) c rfl k⟩
  · exact k.elim
theorem od_notB {K : PySem.W.Frag} : OpD K rNotB dNotB := by
  intro Z M σ H Δ F x y v w Φ c rx ry k Q q
  unfold dNotB at k
  split at k
  · exact ⟨_, _, rx, ry, q _ H (.bl _) F (Ex.refl _) c rfl k⟩
  · exact k.elim
def D.isNon : D → Bool
  | .non => true
  | _ => false
theorem rp_isNon {K : PySem.W.Frag} {F : Hp} {d : D} {v : V} (h : Rp K F d v) : decide (v = .non) = d.isNon := by
  cases d with
  | non => rw [show v = .non from h] <;> rfl
  | bl b => rw [show v = .bl b from h] <;> rfl
  | int b => rw [show v = .int b from h] <;> rfl
  | str b => rw [show v = .str b from h] <;> rfl
  | tup ds => obtain ⟨a, vs, e, _⟩ := h; rw [e] <;> rfl
  | lst ds => obtain ⟨a, vs, e, _⟩ := h; rw [e] <;> rfl
  | scr ds => obtain ⟨a, e, _⟩ := h; rw [e] <;> rfl
  | ref a => rw [show v = .ref a from h] <;> rfl
  | rng lo hi => obtain ⟨a, e, _⟩ := h; rw [e] <;> rfl
def dIsN : D → D → (D → Prop) → Prop := fun x y Φ => match y with
  | .non => Φ (.bl x.isNon)
  | _ => False
def dNotN : D → D → (D → Prop) → Prop := fun x y Φ => match y with
  | .non => Φ (.bl (!x.isNon))
  | _ => False
def rIsNo : R2 := fun x y H Q => y = .non ∧ Q (.bl (decide (x = .non))) H
def rNotNo : R2 := fun x y H Q => y = .non ∧ Q (.bl (!decide (x = .non))) H
theorem op_isNo : OpR X (compareOp .Is) rIsNo := op_isN
theorem op_notNo : OpR X (compareOp .IsNot) rNotNo := op_notN
theorem od_isN {K : PySem.W.Frag} : OpD K rIsNo dIsN := by
  intro Z M σ H Δ F x y v w Φ c rx ry k Q q
  unfold dIsN at k
  split at k
  · exact ⟨ry, by rw [rp_isNon rx]; exact q _ H (.bl _) F (Ex.refl _) c rfl k⟩
  · exact k.elim
theorem od_notN {K : PySem.W.Frag} : OpD K rNotNo dNotN := by
  intro Z M σ H Δ F x y v w Φ c rx ry k Q q
  unfold dNotN at k
  split at k
  · exact ⟨ry, by rw [rp_isNon rx]; exact q _ H (.bl _) F (Ex.refl _) c rfl k⟩
  · exact k.elim
end
end DL

set_option Elab.async false
set_option linter.all false
set_option maxRecDepth 100000
set_option maxHeartbeats 4000000
namespace DL
open PySem L2
open Evl (Ex)
section
variable {X : Cx} {Z : Zx} {e a b c : Expr} {ra rb rc r : RE} {rt ru : RT} {pos : Pos} {es : List Expr} {rl : RA} {n : Nat} {K : PySem.W.Frag}

/-! ### arguments, tuples, lists -/
def dNil : RA := fun Δ M Φ => Φ [] Δ M
def dCons (r : RE) (rl : RA) : RA := fun Δ M Φ => r Δ M fun d Δ1 M1 => rl Δ1 M1 fun ds Δ2 M2 => Φ (d :: ds) Δ2 M2
theorem qa_nil : QA X Z 0 [] dNil := ⟨_, pa_nil, fun M σ H Δ F Φ c h Q q => q [] H [] Δ M F (Ex.refl _) c rfl rfl h⟩
theorem qa_cons (he : QE X Z e r) (hr : QA X Z n es rl) (hs : starEach (e :: es) X.env = (false, eval e X.env) :: starEach es X.env := by rfl) : QA X Z (n + 1) (e :: es) (dCons r rl) := by
  obtain ⟨t, p, s⟩ := he
  obtain ⟨u, p', s'⟩ := hr
  refine ⟨_, pa_cons p p' hs, fun M σ H Δ F Φ c h Q q => ?_⟩
  refine s M σ H Δ F _ c h _ fun v H1 x Δ1 M1 F1 e1 c1 r1 h1 => ?_
  refine s' M1 σ H1 Δ1 F1 _ c1 h1 _ fun vs H2 ds Δ2 M2 F2 e2 c2 r2 hl h2 => ?_
  exact q _ H2 (x :: ds) Δ2 M2 F2 (e1.trans e2) c2 ⟨v, vs, rfl, rp_mono e2 _ _ r1, r2⟩ (by rw [List.length_cons, hl]) h2
def dTup (rl : RA) : RE := fun Δ M Φ => rl Δ M fun ds Δ1 M1 => Φ (.tup ds) Δ1 M1
theorem line_of {n : Nat} (h : n ≤ 1000) : n ≤ sizeLine := Nat.le_trans h (by decide)
theorem qe_tup {x1} (h : QA X Z n es rl) (hn : n ≤ 1000 := by decide) : QE X Z (.Tuple es x1 pos) (dTup rl) := by
  obtain ⟨t, p, s⟩ := h
  refine ⟨_, pe_tup p, fun M σ H Δ F Φ c h Q q => ?_⟩
  refine s M σ H Δ F _ c h _ fun vs H1 ds Δ1 M1 F1 e1 c1 r1 hl h1 => ?_
  refine ⟨by rw [rps_len r1, hl]; exact line_of hn, fun p hp => ?_⟩
  exact q _ _ (.tup ds) Δ1 M1 _ (e1.trans (c1.bs.exF hp _)) (c1.new hp _) ⟨p, vs, rfl, SqT.of upd_same, rps_mono (c1.bs.exF hp _) _ _ r1⟩ h1

/-! ### expressions that make a new list -/
def SimL (K : PySem.W.Frag) (Z : Zx) (t : TE) (r : RA) : Prop := ∀ (M : Mem) (σ : L2.St) (H : Hp) (Δ : List Sl) (F : Hp) (Φ : List D → List Sl → Mem → Prop), Cn K Z M σ H Δ F → r Δ M Φ →
  ∀ Q : VK, (∀ p H1 vs ds Δ' M' F', Ex F F' → Cn K Z M' σ H1 Δ' F' → H1 p = none → Rps K F' ds vs → Φ ds Δ' M' → Q (.ref p) (upd H1 p (.lst vs))) → t σ H Q
def QL (X : Cx) (Z : Zx) (e : Expr) (r : RA) : Prop := ∃ t, PE X e t ∧ SimL X.K Z t r
/-- frozen at once -/
def dFz (rl : RA) : RE := fun Δ M Φ => rl Δ M fun ds Δ1 M1 => Φ (.lst ds) Δ1 M1
theorem qe_fz (h : QL X Z e rl) : QE X Z e (dFz rl) := by
  obtain ⟨t, p, s⟩ := h
  refine ⟨t, p, fun M σ H Δ F Φ c h Q q => ?_⟩
  refine s M σ H Δ F _ c h Q fun p H1 vs ds Δ1 M1 F1 e1 c1 hp r1 h1 => ?_
  exact q _ _ (.lst ds) Δ1 M1 _ (e1.trans (c1.bs.exF hp _)) (c1.new hp _) ⟨p, vs, rfl, upd_same, rps_mono (c1.bs.exF hp _) _ _ r1⟩ h1
theorem ql_lst (h : QA X Z n es rl) (hn : n ≤ 1000 := by decide) : QL X Z (.List es pos) rl := by
  obtain ⟨t, p, s⟩ := h
  refine ⟨_, pe_lst p, fun M σ H Δ F Φ c h Q q => ?_⟩
  refine s M σ H Δ F _ c h _ fun vs H1 ds Δ1 M1 F1 e1 c1 r1 hl h1 => ?_
  exact ⟨by rw [rps_len r1, hl]; exact line_of hn, fun p hp => q p H1 vs ds Δ1 M1 F1 e1 c1 hp r1 h1⟩
theorem qe_lst (h : QA X Z n es rl) (hn : n ≤ 1000 := by decide) : QE X Z (.List es pos) (dFz rl) := qe_fz (ql_lst h hn)

/-! ### truth values -/
def dNot (r : RT) : RT := fun Δ M Φ => r Δ M fun b Δ1 M1 => Φ (!b) Δ1 M1
theorem qt_not (h : QT X Z e rt) : QT X Z (.UnaryOp .Not e pos) (dNot rt) := by
  obtain ⟨t, p, s⟩ := h
  refine ⟨_, pt_not p, fun M σ H Δ F Φ c h Q q => ?_⟩
  exact s M σ H Δ F _ c h _ fun b H1 Δ1 M1 F1 e1 c1 h1 => q (!b) H1 Δ1 M1 F1 e1 c1 h1
def dAnd (r u : RT) : RT := fun Δ M Φ => r Δ M fun b Δ1 M1 => match b with
  | true => u Δ1 M1 Φ
  | false => Φ false Δ1 M1
def dOr (r u : RT) : RT := fun Δ M Φ => r Δ M fun b Δ1 M1 => match b with
  | true => Φ true Δ1 M1
  | false => u Δ1 M1 Φ
theorem simT_and {t u : TT} (h1 : SimT K Z t rt) (h2 : SimT K Z u ru) : SimT K Z (tAnd t u) (dAnd rt ru) := by
  intro M σ H Δ F Φ c h Q q
  refine h1 M σ H Δ F _ c h _ fun b H1 Δ1 M1 F1 e1 c1 k1 => ?_
  cases b with
  | true => exact iteT (h2 M1 σ H1 Δ1 F1 Φ c1 k1 Q fun b H2 Δ2 M2 F2 e2 c2 k2 => q b H2 Δ2 M2 F2 (e1.trans e2) c2 k2)
  | false => exact iteF (q false H1 Δ1 M1 F1 e1 c1 k1)
theorem simT_or {t u : TT} (h1 : SimT K Z t rt) (h2 : SimT K Z u ru) : SimT K Z (tOr t u) (dOr rt ru) := by
  intro M σ H Δ F Φ c h Q q
  refine h1 M σ H Δ F _ c h _ fun b H1 Δ1 M1 F1 e1 c1 k1 => ?_
  cases b with
  | false => exact iteF (h2 M1 σ H1 Δ1 F1 Φ c1 k1 Q fun b H2 Δ2 M2 F2 e2 c2 k2 => q b H2 Δ2 M2 F2 (e1.trans e2) c2 k2)
  | true => exact iteT (q true H1 Δ1 M1 F1 e1 c1 k1)
theorem qw_and1 (h : QT X Z a rt) : QW X Z (.BoolOp .And [a] pos) rt := by
  obtain ⟨t, p, s⟩ := h
  exact ⟨t, pw_and1 p, s⟩
theorem qw_or1 (h : QT X Z a rt) : QW X Z (.BoolOp .Or [a] pos) rt := by
  obtain ⟨t, p, s⟩ := h
  exact ⟨t, pw_or1 p, s⟩
theorem qw_and {rest : List Expr} (h : QT X Z a rt) (h2 : QW X Z (.BoolOp .And (b :: rest) pos) ru) : QW X Z (.BoolOp .And (a :: b :: rest) pos) (dAnd rt ru) := by
  obtain ⟨t, p, s⟩ := h
  obtain ⟨u, p2, s2⟩ := h2
  exact ⟨_, pw_and p p2, simT_and s s2⟩
theorem qw_or {rest : List Expr} (h : QT X Z a rt) (h2 : QW X Z (.BoolOp .Or (b :: rest) pos) ru) : QW X Z (.BoolOp .Or (a :: b :: rest) pos) (dOr rt ru) := by
  obtain ⟨t, p, s⟩ := h
  obtain ⟨u, p2, s2⟩ := h2
  exact ⟨_, pw_or p p2, simT_or s s2⟩
theorem QW.qt (h : QW X Z e rt) : QT X Z e rt := by
  obtain ⟨t, p, s⟩ := h
  exact ⟨t, p.pt, s⟩
/-- as values -/
def dB (r : RT) : RE := fun Δ M Φ => r Δ M fun b Δ1 M1 => Φ (.bl b) Δ1 M1
def dNotV (r : RE) : RE := fun Δ M Φ => r Δ M fun x Δ1 M1 => match x with
  | .bl b => Φ (.bl (!b)) Δ1 M1
  | _ => False
def dAndV (r u : RE) : RE := fun Δ M Φ => r Δ M fun x Δ1 M1 => match x with
  | .bl k => bs k fun k => match k with
    | true => u Δ1 M1 Φ
    | false => Φ (.bl false) Δ1 M1
  | _ => False
def dOrV (r u : RE) : RE := fun Δ M Φ => r Δ M fun x Δ1 M1 => match x with
  | .bl k => bs k fun k => match k with
    | true => Φ (.bl true) Δ1 M1
    | false => u Δ1 M1 Φ
  | _ => False
theorem qe_not (h : QE X Z e r) : QE X Z (.UnaryOp .Not e pos) (dNotV r) := by
  obtain ⟨t, p, s⟩ := h
  refine ⟨_, pe_not p, fun M σ H Δ F Φ c h Q q => ?_⟩
  refine s M σ H Δ F _ c h _ fun v H1 x Δ1 M1 F1 e1 c1 r1 h1 => ?_
  cases x with
  | bl b => exact ⟨b, r1, q _ H1 (.bl (!b)) Δ1 M1 F1 e1 c1 rfl h1⟩
  | _ => exact h1.elim
theorem qe_one {op} (h : QE X Z a r) : QE X Z (.BoolOp op [a] pos) r := by
  obtain ⟨t, p, s⟩ := h
  exact ⟨t, pe_one p, s⟩
theorem qe_and {rest : List Expr} (h : QE X Z a ra) (h2 : QE X Z (.BoolOp .And (b :: rest) pos) rb) : QE X Z (.BoolOp .And (a :: b :: rest) pos) (dAndV ra rb) := by
  obtain ⟨t, p, s⟩ := h
  obtain ⟨u, p2, s2⟩ := h2
  refine ⟨_, pe_and p p2, fun M σ H Δ F Φ c h Q q => ?_⟩
  refine s M σ H Δ F _ c h _ fun v H1 x Δ1 M1 F1 e1 c1 r1 h1 => ?_
  cases x with
  | bl b =>
    refine ⟨b, r1, ?_⟩
    replace h1 := bs_of h1
    cases b with
    | true => exact iteT (s2 M1 σ H1 Δ1 F1 Φ c1 h1 Q fun v H2 d Δ2 M2 F2 e2 c2 r2 k2 => q v H2 d Δ2 M2 F2 (e1.trans e2) c2 r2 k2)
    | false => exact iteF (q _ H1 (.bl false) Δ1 M1 F1 e1 c1 rfl h1)
  | _ => exact h1.elim
theorem qe_or {rest : List Expr} (h : QE X Z a ra) (h2 : QE X Z (.BoolOp .Or (b :: rest) pos) rb) : QE X Z (.BoolOp .Or (a :: b :: rest) pos) (dOrV ra rb) := by
  obtain ⟨t, p, s⟩ := h
  obtain ⟨u, p2, s2⟩ := h2
  refine ⟨_, pe_or p p2, fun M σ H Δ F Φ c h Q q => ?_⟩
  refine s M σ H Δ F _ c h _ fun v H1 x Δ1 M1 F1 e1 c1 r1 h1 => ?_
  cases x with
  | bl b =>
    refine ⟨b, r1, ?_⟩
    replace h1 := bs_of h1
    cases b with
    | true => exact iteT (q _ H1 (.bl true) Δ1 M1 F1 e1 c1 rfl h1)
    | false => exact iteF (s2 M1 σ H1 Δ1 F1 Φ c1 h1 Q fun v H2 d Δ2 M2 F2 e2 c2 r2 k2 => q v H2 d Δ2 M2 F2 (e1.trans e2) c2 r2 k2)
  | _ => exact h1.elim
/-- a if t else b -/
def dIf (t : RT) (ra rb : RE) : RE := fun Δ M Φ => t Δ M fun k Δ1 M1 => match k with
  | true => ra Δ1 M1 Φ
  | false => rb Δ1 M1 Φ
theorem qe_if {t : Expr} (ht : QT X Z t rt) (ha : QE X Z a ra) (hb : QE X Z b rb) : QE X Z (.IfExp t a b pos) (dIf rt ra rb) := by
  obtain ⟨u, p, s⟩ := ht
  obtain ⟨ta, p1, s1⟩ := ha
  obtain ⟨tb, p2, s2⟩ := hb
  refine ⟨_, pe_ifExp p p1 p2, fun M σ H Δ F Φ c h Q q => ?_⟩
  refine s M σ H Δ F _ c h _ fun k H1 Δ1 M1 F1 e1 c1 h1 => ?_
  cases k with
  | true => exact iteT (s1 M1 σ H1 Δ1 F1 Φ c1 h1 Q fun v H2 d Δ2 M2 F2 e2 c2 r2 k2 => q v H2 d Δ2 M2 F2 (e1.trans e2) c2 r2 k2)
  | false => exact iteF (s2 M1 σ H1 Δ1 F1 Φ c1 h1 Q fun v H2 d Δ2 M2 F2 e2 c2 r2 k2 => q v H2 d Δ2 M2 F2 (e1.trans e2) c2 r2 k2)

/-! ### subscripts, len -/
def dIx : D → D → (D → Prop) → Prop := fun x y Φ => match x, y with
  | .lst ds, .int i => ∃ d, atI ds i = some d ∧ Φ d
  | .tup ds, .int i => ∃ d, atI ds i = some d ∧ Φ d
  | .scr ns, .int i => ∃ n, atI ns i = some n ∧ Φ (.int n)
  | .str z, .int i => z.length ≤ sizeLine ∧ ∃ k, atI z.cps.toList i = some k ∧ Φ (.str ⟨#[k]⟩)
  | _, _ => False
theorem atI_rps {F : Hp} {ds : List D} {vs : List V} {i : Int} {d : D} (h : Rps K F ds vs) (ha : atI ds i = some d) : ∃ v, atI vs i = some v ∧ Rp K F d v := by
  unfold atI at ha ⊢
  rw [rps_len h]
  cases hj : ixN ds.length i with
  | none => rw [hj] at ha; cases ha
  | some j =>
    rw [hj] at ha
    exact rps_get h ha
theorem atI_map {α β : Type} (f : α → β) {xs : List α} {i : Int} {x : α} (h : atI xs i = some x) : atI (xs.map f) i = some (f x) := by
  unfold atI at h ⊢
  rw [List.length_map]
  cases hj : ixN xs.length i with
  | none => rw [hj] at h; cases h
  | some j =>
    rw [hj] at h
    have h' : xs[j]? = some x := h
    show (xs.map f)[j]? = some (f x)
    rw [List.getElem?_map, h'] <;> rfl
theorem od_ix : OpD K (rIx K) dIx := by
  intro Z M σ H Δ F x y v w Φ c rx ry k Q q
  unfold dIx at k
  split at k
  · obtain ⟨a, vs, e1, h1, h2⟩ := rx
    obtain ⟨d, k1, k2⟩ := k
    obtain ⟨u, h3, h4⟩ := atI_rps h2 k1
    exact .inl ⟨a, vs, _, u, e1, ry, SqL.of (c.bs.fH _ _ h1), h3, q u H d F (Ex.refl _) c h4 k2⟩
  · obtain ⟨a, vs, e1, h1, h2⟩ := rx
    obtain ⟨d, k1, k2⟩ := k
    obtain ⟨u, h3, h4⟩ := atI_rps h2 k1
    exact .inr (.inl ⟨a, vs, _, u, e1, ry, Evl.ex_t c.bs.fH h1, h3, q u H d F (Ex.refl _) c h4 k2⟩)
  · obtain ⟨a, e1, h1⟩ := rx
    obtain ⟨n, k1, k2⟩ := k
    exact .inl ⟨a, _, _, .int n, e1, ry, Evl.ex_l c.bs.fH h1, atI_map V.int k1, q _ H (.int n) F (Ex.refl _) c rfl k2⟩
  · obtain ⟨k0, n, k1, k2⟩ := k
    exact .inr (.inr ⟨_, _, n, rx, ry, k0, k1, q _ H (.str _) F (Ex.refl _) c rfl k2⟩)
  · exact k.elim
theorem qe_ix (ha : QE X Z a ra) (hb : QE X Z b rb) (hs : PlainIx b := by intro _ _; rfl) : QE X Z (.Subscript a b pos) (dOp dIx ra rb) := by
  obtain ⟨ta, pa, sa⟩ := ha
  obtain ⟨tb, pb, sb⟩ := hb
  exact ⟨_, pe_ix ix_seq pa pb hs, sim_op od_ix sa sb⟩
/-- xs[i], xs an own list's name -/
def dIxV (j : Nat) (rb : RE) : RE := fun Δ M Φ => rb Δ M fun y Δ1 M1 => match Δ1[j]?, y with
  | some (.own ds), .int i => ∃ d, atI ds i = some d ∧ Φ d Δ1 M1
  | _, _ => False
/-- a slot that holds a list of its own -/
def isOwn (Δ : List Sl) (j : Nat) : Prop := ∃ ds, Δ[j]? = some (.own ds)
def dIxO (j : Nat) (rb : RE) : RE := fun Δ M Φ => isOwn Δ j ∧ dIxV j rb Δ M Φ
theorem qe_ixO (j : Nat) {x : Str} {p2 : Pos} (hb : QE X Z b rb) (hN : X.N[j]? = some x := by rfl) (hv : Vis X.env.scope x := by first | exact Or.inl rfl | exact Or.inr (Or.inl rfl) | exact Or.inr (Or.inr rfl)) (hd : (x == ("__debug__" : Str)) = false := by decide)
    (hcd : (x == ("__classdict__" : Str)) = false := by decide) (hs : PlainIx b := by intro _ _; rfl) : QE X Z (.Subscript (.Name x p2) b pos) (dIxO j rb) := by
  obtain ⟨tb, pb, sb⟩ := hb
  refine ⟨_, pe_ix ix_seq (pe_var (i := j) hN hv hd hcd) pb hs, ?_⟩
  rintro M σ H Δ F Φ c ⟨⟨ds0, h0⟩, h⟩ Q q
  obtain ⟨p0, vs0, hv0, _⟩ := c.slot j _ h0
  refine ⟨_, hv0, ?_⟩
  refine sb M σ H Δ F _ c h _ fun w H1 y Δ1 M1 F1 e1 c1 r1 h1 => ?_
  split at h1
  · rename_i ds i hd
    obtain ⟨d, k1, k2⟩ := h1
    obtain ⟨p, vs, e2, g1, g2, g3, g4, g5⟩ := c1.slot j _ hd
    rw [hv0] at e2
    cases e2
    obtain ⟨u, h3, h4⟩ := atI_rps g2 k1
    exact .inl ⟨p0, vs, _, u, rfl, r1, SqL.of g1, h3, q u H1 d Δ1 M1 F1 e1 c1 h4 k2⟩
  · exact h1.elim

/-! ### built-in functions on values -/
/-- a call on data that makes nothing but new frozen objects -/
def CallD (K : PySem.W.Frag) (rv : List V → Hp → VK → Prop) (dr : List D → (D → Prop) → Prop) : Prop := ∀ (Z : Zx) (M : Mem) (σ : L2.St) (H : Hp) (Δ : List Sl) (F : Hp) (xs : List D) (vs : List V) (Φ : D → Prop), Cn K Z M σ H Δ F → Rps K F xs vs → dr xs Φ →
  ∀ Q : VK, (∀ u H' d F', Ex F F' → Cn K Z M σ H' Δ F' → Rp K F' d u → Φ d → Q u H') → rv vs H Q
def dCB (dr : List D → (D → Prop) → Prop) (rl : RA) : RE := fun Δ M Φ => rl Δ M fun ds Δ1 M1 => dr ds fun d => Φ d Δ1 M1
theorem sim_cb {rv : List V → Hp → VK → Prop} {dr : List D → (D → Prop) → Prop} {t : TA} (hc : CallD K rv dr) (h : SimA K Z n t rl) : Sim K Z (tCB rv t) (dCB dr rl) := by
  intro M σ H Δ F Φ c k Q q
  refine h M σ H Δ F _ c k _ fun vs H1 ds Δ1 M1 F1 e1 c1 r1 hl h1 => ?_
  exact hc Z M1 σ H1 Δ1 F1 ds vs _ c1 r1 h1 Q fun u H2 d F2 e2 c2 r2 k2 => q u H2 d Δ1 M1 F2 (e1.trans e2) c2 r2 k2
theorem CallD.or {r1 r2 : List V → Hp → VK → Prop} {d1 d2 dr : List D → (D → Prop) → Prop} (h1 : CallD K r1 d1) (h2 : CallD K r2 d2) (h : ∀ xs Φ, dr xs Φ → d1 xs Φ ∨ d2 xs Φ) : CallD K (fun xs H Q => r1 xs H Q ∨ r2 xs H Q) dr := by
  intro Z M σ H Δ F xs vs Φ c rx k Q q
  rcases h xs Φ k with k | k
  · exact .inl (h1 Z M σ H Δ F xs vs Φ c rx k Q q)
  · exact .inr (h2 Z M σ H Δ F xs vs Φ c rx k Q q)
theorem qe_cb {id : String} {x : Str} {p : Pos} {rv : List V → Hp → VK → Prop} {dr : List D → (D → Prop) → Prop} (hr : CallR X (.builtin id) rv) (hd : CallD X.K rv dr) (hg : Gl X x) (hm : X.mg x = none) (hb : bootBuiltins x = some (.builtin id)) (ha : QA X Z n (e :: es) rl) (hn : x ≠ "__name__" := by decide) (hdb : (x == ("__debug__" : Str)) = false := by decide)
    (he : starEach (e :: es) X.env = (false, eval e X.env) :: starEach es X.env := by rfl) (hpl : (backTo pos (starEach es X.env)).any (·.1) = false := by rfl) : QE X Z (.Call (.Name x p) (e :: es) [] pos) (dCB dr rl) := by
  obtain ⟨t, pa, s⟩ := ha
  exact ⟨_, pe_callB hr hg hm hb pa hn hdb he hpl, sim_cb hd s⟩
theorem qe_cty {T : String} {x : Str} {p : Pos} {rv : List V → Hp → VK → Prop} {dr : List D → (D → Prop) → Prop} (hr : CallR X (.type T) rv) (hd : CallD X.K rv dr) (hg : Gl X x) (hm : X.mg x = none) (hb : bootBuiltins x = some (.type T)) (ha : QA X Z n (e :: es) rl) (hn : x ≠ "__name__" := by decide) (hdb : (x == ("__debug__" : Str)) = false := by decide)
    (he : starEach (e :: es) X.env = (false, eval e X.env) :: starEach es X.env := by rfl) (hpl : (backTo pos (starEach es X.env)).any (·.1) = false := by rfl) : QE X Z (.Call (.Name x p) (e :: es) [] pos) (dCB dr rl) := by
  obtain ⟨t, pa, s⟩ := ha
  exact ⟨_, pe_callTy hr hg hm hb pa hn hdb he hpl, sim_cb hd s⟩
/-- a module's own name for a built-in function -/
theorem qe_cbf {id : String} {x : Str} {p : Pos} {rv : List V → Hp → VK → Prop} {dr : List D → (D → Prop) → Prop} (hr : CallR X (.builtin id) rv) (hd : CallD X.K rv dr) (hg : Gl X x) (hm : X.mg x = some (.builtin id)) (ha : QA X Z n (e :: es) rl) (hdb : (x == ("__debug__" : Str)) = false := by decide)
    (he : starEach (e :: es) X.env = (false, eval e X.env) :: starEach es X.env := by rfl) (hpl : (backTo pos (starEach es X.env)).any (·.1) = false := by rfl) : QE X Z (.Call (.Name x p) (e :: es) [] pos) (dCB dr rl) := by
  obtain ⟨t, pa, s⟩ := ha
  exact ⟨_, pe_callBfun hr hg hm pa hdb he hpl, sim_cb hd s⟩
theorem vals1 {F : Hp} {x : D} {vs : List V} (h : Rps K F [x] vs) : ∃ v, vs = [v] ∧ Rp K F x v := by
  obtain ⟨v, r, e, h1, h2⟩ := h
  rw [show r = [] from h2] at e
  exact ⟨v, e, h1⟩
theorem vals2 {F : Hp} {x y : D} {vs : List V} (h : Rps K F [x, y] vs) : ∃ v w, vs = [v, w] ∧ Rp K F x v ∧ Rp K F y w := by
  obtain ⟨v, r, e, h1, h2⟩ := h
  obtain ⟨w, e2, h3⟩ := vals1 h2
  exact ⟨v, w, by rw [e, e2], h1, h3⟩
/-- len -/
def dLen : List D → (D → Prop) → Prop := fun xs Φ => match xs with
  | [.lst ds] => Φ (.int (ds.length : Nat))
  | [.tup ds] => Φ (.int (ds.length : Nat))
  | [.scr ns] => Φ (.int (ns.length : Nat))
  | [.str z] => z.length ≤ sizeLine ∧ Φ (.int (z.length : Nat))
  | _ => False
def rLenAll (K : PySem.W.Frag) : List V → Hp → VK → Prop := fun xs H Q => (∃ p ys, xs = [.ref p] ∧ (SqL K H p ys ∨ SqT K H p ys) ∧ Q (.int ys.length) H) ∨ (∃ z, xs = [.str z] ∧ z.length ≤ sizeLine ∧ Q (.int z.length) H)
theorem cr_lenAll : CallR X (.builtin "len") (rLenAll X.K) := CallR.or call_len_seq call_len_str
theorem cd_len : CallD K (rLenAll K) dLen := by
  intro Z M σ H Δ F xs vs Φ c rx k Q q
  unfold dLen at k
  split at k
  · obtain ⟨v, rfl, a, ws, e1, h1, h2⟩ := vals1 rx
    refine .inl ⟨a, ws, by rw [e1], .inl (SqL.of (c.bs.fH _ _ h1)), ?_⟩
    rw [rps_len h2]
    exact q _ H (.int _) F (Ex.refl _) c rfl k
  · obtain ⟨v, rfl, a, ws, e1, h1, h2⟩ := vals1 rx
    refine .inl ⟨a, ws, by rw [e1], .inr (Evl.ex_t c.bs.fH h1), ?_⟩
    rw [rps_len h2]
    exact q _ H (.int _) F (Ex.refl _) c rfl k
  · obtain ⟨v, rfl, a, e1, h1⟩ := vals1 rx
    refine .inl ⟨a, _, by rw [e1], .inl (Evl.ex_l c.bs.fH h1), ?_⟩
    rw [List.length_map]
    exact q _ H (.int _) F (Ex.refl _) c rfl k
  · obtain ⟨v, rfl, e1⟩ := vals1 rx
    exact .inr ⟨_, by rw [show v = _ from e1], k.1, q _ H (.int _) F (Ex.refl _) c rfl k.2⟩
  · exact k.elim
theorem qe_len {p : Pos} (hg : Gl X "len") (hm : X.mg "len" = none) (ha : QA X Z n (e :: es) rl) (he : starEach (e :: es) X.env = (false, eval e X.env) :: starEach es X.env := by rfl) (hpl : (backTo pos (starEach es X.env)).any (·.1) = false := by rfl) :
    QE X Z (.Call (.Name "len" p) (e :: es) [] pos) (dCB dLen rl) := qe_cb cr_lenAll cd_len hg hm boot_len ha (by decide) (by decide) he hpl
/-- len of an own list -/
def dLenO (j : Nat) : RE := fun Δ M Φ => match Δ[j]? with
  | some (.own ds) => Φ (.int (ds.length : Nat)) Δ M
  | _ => False
theorem qe_lenO (j : Nat) {x : Str} {p p2 : Pos} (hg : Gl X "len") (hm : X.mg "len" = none) (hN : X.N[j]? = some x := by rfl) (hv : Vis X.env.scope x := by first | exact Or.inl rfl | exact Or.inr (Or.inl rfl) | exact Or.inr (Or.inr rfl)) (hd : (x == ("__debug__" : Str)) = false := by decide)
    (hcd : (x == ("__classdict__" : Str)) = false := by decide) (he : starEach [.Name x p2] X.env = (false, eval (.Name x p2) X.env) :: starEach [] X.env := by rfl) (hpl : (backTo pos (starEach [] X.env)).any (·.1) = false := by rfl) :
    QE X Z (.Call (.Name "len" p) [.Name x p2] [] pos) (dLenO j) := by
  refine ⟨_, pe_callB cr_lenAll hg hm boot_len (pa_cons (pe_var (i := j) hN hv hd hcd) pa_nil he) (by decide) (by decide) he hpl, ?_⟩
  intro M σ H Δ F Φ c h Q q
  unfold dLenO at h
  split at h
  · rename_i ds hj
    obtain ⟨a, vs, hv0, g1, g2, _⟩ := c.slot j _ hj
    refine ⟨_, hv0, .inl ⟨a, vs, rfl, .inl (SqL.of g1), ?_⟩⟩
    rw [rps_len g2]
    exact q _ H (.int _) Δ M F (Ex.refl _) c rfl h
  · exact h.elim
/-- abs, int, gcd, max, min of ints -/
def dAbs : List D → (D → Prop) → Prop := fun xs Φ => match xs with
  | [.int i] => Φ (.int (if i < 0 then -i else i))
  | _ => False
def rAbs : List V → Hp → VK → Prop := fun xs H Q => ∃ i, xs = [.int i] ∧ Q (.int (if i < 0 then -i else i)) H
theorem cr_abs : CallR X (.builtin "abs") rAbs := call_abs
theorem cd_abs : CallD K rAbs dAbs := by
  intro Z M σ H Δ F xs vs Φ c rx k Q q
  unfold dAbs at k
  split at k
  · obtain ⟨v, rfl, e1⟩ := vals1 rx
    exact ⟨_, by rw [show v = _ from e1], q _ H (.int _) F (Ex.refl _) c rfl k⟩
  · exact k.elim
theorem qe_abs {p : Pos} (hg : Gl X "abs") (hm : X.mg "abs" = none) (ha : QA X Z n (e :: es) rl) (he : starEach (e :: es) X.env = (false, eval e X.env) :: starEach es X.env := by rfl) (hpl : (backTo pos (starEach es X.env)).any (·.1) = false := by rfl) :
    QE X Z (.Call (.Name "abs" p) (e :: es) [] pos) (dCB dAbs rl) := qe_cb cr_abs cd_abs hg hm (by decide +kernel) ha (by decide) (by decide) he hpl
def dInt : List D → (D → Prop) → Prop := fun xs Φ => match xs with
  | [.int i] => Φ (.int i)
  | [.bl k] => Φ (.int (if k then 1 else 0))
  | _ => False
def rInt : List V → Hp → VK → Prop := fun xs H Q => (∃ i, xs = [.int i] ∧ Q (.int i) H) ∨ ∃ k, xs = [.bl k] ∧ Q (.int (if k then 1 else 0)) H
theorem cr_int : CallR X (.type "int") rInt := call_int1
theorem cd_int : CallD K rInt dInt := by
  intro Z M σ H Δ F xs vs Φ c rx k Q q
  unfold dInt at k
  split at k
  · obtain ⟨v, rfl, e1⟩ := vals1 rx
    exact .inl ⟨_, by rw [show v = _ from e1], q _ H (.int _) F (Ex.refl _) c rfl k⟩
  · obtain ⟨v, rfl, e1⟩ := vals1 rx
    exact .inr ⟨_, by rw [show v = _ from e1], q _ H (.int _) F (Ex.refl _) c rfl k⟩
  · exact k.elim
theorem qe_int1 {p : Pos} (hg : Gl X "int") (hm : X.mg "int" = none) (ha : QA X Z n (e :: es) rl) (he : starEach (e :: es) X.env = (false, eval e X.env) :: starEach es X.env := by rfl) (hpl : (backTo pos (starEach es X.env)).any (·.1) = false := by rfl) :
    QE X Z (.Call (.Name "int" p) (e :: es) [] pos) (dCB dInt rl) := qe_cty cr_int cd_int hg hm (by decide +kernel) ha (by decide) (by decide) he hpl
def dI2 (g : Int → Int → D) : List D → (D → Prop) → Prop := fun xs Φ => match xs with
  | [.int i, .int j] => Φ (g i j)
  | _ => False
theorem cd_I2 {g : Int → Int → V} {g' : Int → Int → D} (hg : ∀ F i j, Rp K F (g' i j) (g i j)) : CallD K (fun xs H Q => ∃ i j, xs = [.int i, .int j] ∧ Q (g i j) H) (dI2 g') := by
  intro Z M σ H Δ F xs vs Φ c rx k Q q
  unfold dI2 at k
  split at k
  · obtain ⟨v, w, rfl, e1, e2⟩ := vals2 rx
    exact ⟨_, _, by rw [show v = _ from e1, show w = _ from e2], q _ H _ F (Ex.refl _) c (hg F _ _) k⟩
  · exact k.elim
theorem qe_gcd {p : Pos} {x : Str} (hg : Gl X x) (hm : X.mg x = some (.builtin "math.gcd")) (ha : QA X Z n (e :: es) rl) (hdb : (x == ("__debug__" : Str)) = false := by decide) (he : starEach (e :: es) X.env = (false, eval e X.env) :: starEach es X.env := by rfl) (hpl : (backTo pos (starEach es X.env)).any (·.1) = false := by rfl) :
    QE X Z (.Call (.Name x p) (e :: es) [] pos) (dCB (dI2 fun i j => .int ((Nat.gcd i.natAbs j.natAbs : Nat) : Int)) rl) := qe_cbf cr_gcd (cd_I2 fun _ _ _ => rfl) hg hm ha hdb he hpl
theorem qe_max2 {p : Pos} (hc : X.calm = true) (hg : Gl X "max") (hm : X.mg "max" = none) (ha : QA X Z n (e :: es) rl) (he : starEach (e :: es) X.env = (false, eval e X.env) :: starEach es X.env := by rfl) (hpl : (backTo pos (starEach es X.env)).any (·.1) = false := by rfl) :
    QE X Z (.Call (.Name "max" p) (e :: es) [] pos) (dCB (dI2 fun i j => .int (if j > i then j else i)) rl) := qe_cb (call_max2 hc) (cd_I2 fun _ _ _ => rfl) hg hm (by decide +kernel) ha (by decide) (by decide) he hpl
theorem qe_min2 {p : Pos} (hc : X.calm = true) (hg : Gl X "min") (hm : X.mg "min" = none) (ha : QA X Z n (e :: es) rl) (he : starEach (e :: es) X.env = (false, eval e X.env) :: starEach es X.env := by rfl) (hpl : (backTo pos (starEach es X.env)).any (·.1) = false := by rfl) :
    QE X Z (.Call (.Name "min" p) (e :: es) [] pos) (dCB (dI2 fun i j => .int (if j < i then j else i)) rl) := qe_cb (call_min2 hc) (cd_I2 fun _ _ _ => rfl) hg hm (by decide +kernel) ha (by decide) (by decide) he hpl
/-- -x -/
def dNeg (r : RE) : RE := fun Δ M Φ => r Δ M fun x Δ1 M1 => match x with
  | .int i => Φ (.int (-i)) Δ1 M1
  | _ => False
theorem qe_neg (h : QE X Z e r) : QE X Z (.UnaryOp .USub e pos) (dNeg r) := by
  obtain ⟨t, p, s⟩ := h
  refine ⟨_, pe_un un_neg p, fun M σ H Δ F Φ c h Q q => ?_⟩
  refine s M σ H Δ F _ c h _ fun v H1 x Δ1 M1 F1 e1 c1 r1 h1 => ?_
  cases x with
  | int i => exact ⟨i, r1, q _ H1 (.int (-i)) Δ1 M1 F1 e1 c1 rfl h1⟩
  | _ => exact h1.elim
/-- isinstance(x, T), T a built-in type -/
def D.ty : D → String
  | .non => "NoneType" | .bl _ => "bool" | .int _ => "int" | .str _ => "str" | .tup _ => "tuple" | .lst _ => "list" | .scr _ => "list" | .ref _ => "?" | .rng _ _ => "range"
def D.isDat : D → Prop
  | .ref _ => False
  | .rng _ _ => False
  | _ => True
def dIsi (T : String) (r : RE) : RE := fun Δ M Φ => r Δ M fun x Δ1 M1 => match x with
  | .ref _ => False
  | .rng _ _ => False
  | x => ∃ b, kitB x.ty T = some b ∧ Φ (.bl b) Δ1 M1
theorem rp_tyx {F H : Hp} (e : Ex F H) {d : D} {v : V} (h : Rp K F d v) : d.isDat → TyX K H v (.type d.ty) := by
  intro hd
  cases d with
  | non => rw [show v = .non from h]; exact .base .non
  | bl b => rw [show v = .bl b from h]; exact .base (.bl b)
  | int b => rw [show v = .int b from h]; exact .base (.int b)
  | str b => rw [show v = .str b from h]; exact .base (.str b)
  | tup ds =>
    obtain ⟨a, vs, e1, h1, h2⟩ := h
    rw [e1]
    rcases Evl.ex_t e h1 with (h1 | ⟨o, h1⟩) | ⟨o, its, n, hk, hc, _⟩
    · exact .base (.tup h1)
    · exact .fTuple h1
    · exact .kTuple hk hc
  | lst ds =>
    obtain ⟨a, vs, e1, h1, h2⟩ := h
    rw [e1]
    exact .base (.lst (e _ _ h1))
  | scr ns =>
    obtain ⟨a, e1, h1⟩ := h
    rw [e1]
    rcases Evl.ex_l e h1 with (h1 | ⟨o, h1⟩) | ⟨o, its, n, hk, hc, _⟩
    · exact .base (.lst h1)
    · exact .base (.frz h1)
    · exact .kList hk hc
  | ref a => exact hd.elim
  | rng lo hi => exact hd.elim
theorem qe_isi {T : String} {x : Str} {p p2 : Pos} (h : QE X Z e r) (hg : Gl X "isinstance") (hm : X.mg "isinstance" = none) (hg2 : Gl X x) (hm2 : X.mg x = none) (hb : bootBuiltins x = some (.type T)) (hn : x ≠ "__name__" := by decide) (hdb : (x == ("__debug__" : Str)) = false := by decide)
    (he : starEach [e, .Name x p2] X.env = (false, eval e X.env) :: starEach [.Name x p2] X.env := by rfl) (he2 : starEach [.Name x p2] X.env = (false, eval (.Name x p2) X.env) :: starEach [] X.env := by rfl) (hpl : (backTo pos (starEach [.Name x p2] X.env)).any (·.1) = false := by rfl) :
    QE X Z (.Call (.Name "isinstance" p) [e, .Name x p2] [] pos) (dIsi T r) := by
  obtain ⟨t, pe, s⟩ := h
  refine ⟨_, pe_callB call_isi hg hm (by decide +kernel) (pa_cons pe (pa_cons (pe_bltn hg2 hm2 hb (v := .ty T) rfl hn hdb) pa_nil he2) he) (by decide) (by decide) he hpl, fun M σ H Δ F Φ c h Q q => ?_⟩
  refine s M σ H Δ F _ c h _ fun v H1 y Δ1 M1 F1 e1 c1 r1 h1 => ?_
  have hd : y.isDat ∧ ∃ b, kitB y.ty T = some b ∧ Φ (.bl b) Δ1 M1 := by
    cases y <;> first
      | exact h1.elim
      | exact ⟨True.intro, h1⟩
  obtain ⟨hd, b, k1, k2⟩ := hd
  exact ⟨v, .ty T, _, _, b, rfl, .ty T, rp_tyx c1.bs.fH r1 hd, kit_ty k1, q _ H1 (.bl b) Δ1 M1 F1 e1 c1 rfl k2⟩
end
end DL

set_option Elab.async false
set_option linter.all false
set_option maxRecDepth 100000
set_option maxHeartbeats 4000000
namespace DL
open PySem L2
open Evl (Ex)
section
variable {X : Cx} {Z : Zx} {e a b c : Expr} {ra rb rc r : RE} {rt ru : RT} {pos : Pos} {es : List Expr} {rl : RA} {n : Nat} {K : PySem.W.Frag} {st : Stmt} {sts : List Stmt} {s1 s2 s3 : RS}

/-! ### statements -/
def dNext : RS := fun D Δ M => D.nx Δ M
def dSeq (r u : RS) : RS := fun D Δ M => r { D with nx := fun Δ1 M1 => u D Δ1 M1 } Δ M
def dBrk : RS := fun D Δ M => D.bk Δ M
def dCt : RS := fun D Δ M => D.ct Δ M
theorem qss_nil : QSs X Z [] dNext := ⟨_, pss_nil, fun M σ H Δ F De c h Dv ok => ok.nx _ _ _ _ _ (Ex.refl _) c h⟩
theorem qss_one (h : QS X Z st s1) : QSs X Z [st] s1 := by
  obtain ⟨t, p, s⟩ := h
  exact ⟨t, pss_one p, s⟩
theorem simS_seq {t u : TS} (h1 : SimS K Z t s1) (h2 : SimS K Z u s2) : SimS K Z (tSeq t u) (dSeq s1 s2) := by
  intro M σ H Δ F De c h Dv ok
  exact h1 M σ H Δ F _ c h _ ⟨fun σ' H' Δ' M' F' e c' k => h2 M' σ' H' Δ' F' De c' k Dv (ok.mono e), ok.rt, ok.bk, ok.ct⟩
theorem qss_cons (h : QS X Z st s1) (h2 : QSs X Z sts s2) : QSs X Z (st :: sts) (dSeq s1 s2) := by
  obtain ⟨t, p, s⟩ := h
  obtain ⟨u, p2, s2⟩ := h2
  exact ⟨_, pss_cons p p2, simS_seq s s2⟩
theorem qs_pass : QS X Z (.Pass pos) dNext := ⟨_, ps_pass, fun M σ H Δ F De c h Dv ok => ok.nx _ _ _ _ _ (Ex.refl _) c h⟩
theorem qs_brk : QS X Z (.Break pos) dBrk := ⟨_, ps_break, fun M σ H Δ F De c h Dv ok => ok.bk _ _ _ _ _ (Ex.refl _) c h⟩
theorem qs_ct : QS X Z (.Continue pos) dCt := ⟨_, ps_continue, fun M σ H Δ F De c h Dv ok => ok.ct _ _ _ _ _ (Ex.refl _) c h⟩
theorem qs_doc {x j pos'} : QS X Z (.Expr (.Constant (.str x) j pos) pos') dNext := ⟨_, ps_doc, fun M σ H Δ F De c h Dv ok => ok.nx _ _ _ _ _ (Ex.refl _) c h⟩
def dRet (r : RE) : RS := fun D Δ M => r Δ M fun d _ M1 => D.rt d M1
theorem qs_ret (h : QE X Z e r) : QS X Z (.Return (some e) pos) (dRet r) := by
  obtain ⟨t, p, s⟩ := h
  refine ⟨_, ps_ret p, fun M σ H Δ F De c h Dv ok => ?_⟩
  exact s M σ H Δ F _ c h _ fun v H1 d Δ1 M1 F1 e1 c1 r1 h1 => ok.rt v H1 d M1 F1 e1 c1.bs r1 h1
def dRetN : RS := fun D _ M => D.rt .non M
theorem qs_retN : QS X Z (.Return none pos) dRetN := ⟨_, ps_retN, fun M σ H Δ F De c h Dv ok => ok.rt .non H .non M F (Ex.refl _) c.bs rfl h⟩
def dDrop (r : RE) : RS := fun D Δ M => r Δ M fun _ Δ1 M1 => D.nx Δ1 M1
theorem qs_expr (h : QE X Z e r) (hs : swapsWith e none pos.line X.env = pure false := by rfl) : QS X Z (.Expr e pos) (dDrop r) := by
  obtain ⟨t, p, s⟩ := h
  refine ⟨_, ps_expr p hs, fun M σ H Δ F De c h Dv ok => ?_⟩
  exact s M σ H Δ F _ c h _ fun v H1 d Δ1 M1 F1 e1 c1 r1 h1 => ok.nx σ H1 Δ1 M1 F1 e1 c1 h1
def dIfS (t : RT) (u v : RS) : RS := fun D Δ M => t Δ M fun k Δ1 M1 => match k with
  | true => u D Δ1 M1
  | false => v D Δ1 M1
theorem qs_if {u v : List Stmt} (ht : QT X Z e rt) (h1 : QSs X Z u s1) (h2 : QSs X Z v s2) : QS X Z (.If e u v pos) (dIfS rt s1 s2) := by
  obtain ⟨t, p, s⟩ := ht
  obtain ⟨t1, p1, q1⟩ := h1
  obtain ⟨t2, p2, q2⟩ := h2
  refine ⟨_, ps_if p p1 p2, fun M σ H Δ F De c h Dv ok => ?_⟩
  refine s M σ H Δ F _ c h _ fun k H1 Δ1 M1 F1 e1 c1 h1 => ?_
  cases k with
  | true => exact iteT (q1 M1 σ H1 Δ1 F1 De c1 h1 Dv (ok.mono e1))
  | false => exact iteF (q2 M1 σ H1 Δ1 F1 De c1 h1 Dv (ok.mono e1))
/-- x = e -/
def dSet (i : Nat) (r : RE) : RS := fun D Δ M => r Δ M fun d Δ1 M1 => D.nx (Δ1.set i (.d d)) M1
theorem qs_set {i : Nat} {x : Str} {pos' : Pos} (hN : X.N.Nodup) (h : QE X Z e r) (hi : X.N[i]? = some x := by rfl) (hx : Loc X.env.scope x := by first | exact Or.inl rfl | exact Or.inr rfl) (hs : swapsWith e (some (.Name x pos')) pos.line X.env = pure false := by rfl)
    (hf : X.fn x = true ∨ X.env.scope.names.lookup x = some .local := by first | exact .inl rfl | exact .inr rfl) : QS X Z (.Assign [.Name x pos'] e pos) (dSet i r) := by
  obtain ⟨t, p, s⟩ := h
  refine ⟨_, ps_set (i := i) hN hi hx p hs hf, fun M σ H Δ F De c h Dv ok => ?_⟩
  exact s M σ H Δ F _ c h _ fun v H1 d Δ1 M1 F1 e1 c1 r1 h1 => ok.nx _ H1 _ M1 F1 e1 (c1.set r1 i) h1
/-- x = a new list, which x owns -/
def dSetO (i : Nat) (rl : RA) : RS := fun D Δ M => rl Δ M fun ds Δ1 M1 => D.nx (Δ1.set i (.own ds)) M1
theorem qs_setO {i : Nat} {x : Str} {pos' : Pos} (hN : X.N.Nodup) (h : QL X Z e rl) (hi : X.N[i]? = some x := by rfl) (hx : Loc X.env.scope x := by first | exact Or.inl rfl | exact Or.inr rfl) (hs : swapsWith e (some (.Name x pos')) pos.line X.env = pure false := by rfl)
    (hf : X.fn x = true ∨ X.env.scope.names.lookup x = some .local := by first | exact .inl rfl | exact .inr rfl) : QS X Z (.Assign [.Name x pos'] e pos) (dSetO i rl) := by
  obtain ⟨t, p, s⟩ := h
  refine ⟨_, ps_set (i := i) hN hi hx p hs hf, fun M σ H Δ F De c h Dv ok => ?_⟩
  exact s M σ H Δ F _ c h _ fun p H1 vs ds Δ1 M1 F1 e1 c1 hp r1 h1 => ok.nx _ _ _ M1 F1 e1 (c1.setOwn hp r1 i) h1
/-- x, y = e -/
def dUnp : List Nat → RE → RS := fun is r D Δ M => r Δ M fun x Δ1 M1 => match x with
  | .tup ds => ds.length = is.length ∧ D.nx ((is.zip ds).foldl (fun Δ p => Δ.set p.1 (.d p.2)) Δ1) M1
  | _ => False
/-- targets that are names -/
def gNames : List Nat → TGs
  | [] => gNil
  | i :: is => gCons (gName i) (gNames is)
theorem simG_names {M : Mem} {H F : Hp} {Q : L2.St → Hp → Prop} : ∀ (is : List Nat) (ds : List D) (vs : List V) (σ : L2.St) (Δ : List Sl), Cn K Z M σ H Δ F → Rps K F ds vs → ds.length = is.length →
    (∀ σ', Cn K Z M σ' H ((is.zip ds).foldl (fun Δ p => Δ.set p.1 (.d p.2)) Δ) F → Q σ' H) → gNames is vs σ H Q
  | [], ds, vs, σ, Δ, c, r, hl, q => by
    have e : ds = [] := List.length_eq_zero_iff.mp hl
    subst e
    exact ⟨r, q σ c⟩
  | i :: is, [], vs, σ, Δ, c, r, hl, q => by cases hl
  | i :: is, d :: ds, vs, σ, Δ, c, r, hl, q => by
    obtain ⟨v, ws, e, h1, h2⟩ := r
    exact ⟨v, ws, e, simG_names is ds ws _ _ (c.set h1 i) h2 (by simpa using hl) q⟩
theorem qs_unp {is : List Nat} {tgs : List Expr} {k : Nat} {tp : Pos} (hc : X.calm = true) (h : QE X Z e r) (hg : PGs X tgs (gNames is)) (hn : tgs.length = is.length := by rfl) (hs : swapsWithSole [.Tuple tgs k tp] e pos.line X.env = pure false := by rfl) (hw : swappedStores [.Tuple tgs k tp] e X.env = pure none := by rfl)
    (hp : tgs.length = is.length := by rfl)
    (hpg : PGs X tgs (gNames is) → PG X (.Tuple tgs k tp) (gTup X.K is.length (gNames is)) := by intro hg; exact pg_tup rfl hg) : QS X Z (.Assign [.Tuple tgs k tp] e pos) (dUnp is r) := by
  obtain ⟨t, p, s⟩ := h
  refine ⟨_, ps_asg p (hpg hg) hs hw, fun M σ H Δ F De c h Dv ok => ?_⟩
  refine s M σ H Δ F _ c h _ fun v H1 x Δ1 M1 F1 e1 c1 r1 h1 => ?_
  cases x with
  | tup ds =>
    obtain ⟨a, vs, e2, h2, h3⟩ := r1
    refine ⟨a, vs, e2, Evl.ex_t c1.bs.fH h2, by rw [rps_len h3]; exact h1.1, ?_⟩
    exact simG_names is ds vs σ Δ1 c1 h3 h1.1 fun σ' c' => ok.nx σ' H1 _ M1 F1 e1 c' h1.2
  | _ => exact h1.elim
/-- x, y = a, b -/
def dPar (i j : Nat) (rl : RA) : RS := fun D Δ M => rl Δ M fun ds Δ1 M1 => match ds with
  | [x, y] => D.nx ((Δ1.set i (.d x)).set j (.d y)) M1
  | _ => False
theorem qs_par {i j : Nat} {x y : Str} {px py pt : Pos} {kt k2 pt2} (hN : X.N.Nodup) (h : QA X Z 2 [a, b] rl) (hc : X.calm = true := by rfl) (hi : X.N[i]? = some x := by rfl) (hj : X.N[j]? = some y := by rfl) (hij : i ≠ j := by decide) (hx : X.env.scope.names.lookup x = some .local := by rfl) (hy : X.env.scope.names.lookup y = some .local := by rfl)
    (hw : swappedStores [.Tuple [.Name x px, .Name y py] kt pt] (.Tuple [a, b] k2 pt2) X.env = pure (some [x, y]) := by rfl)
    (hs : swapsWithSole [.Tuple [.Name x px, .Name y py] kt pt] (.Tuple [a, b] k2 pt2) pos.line X.env = pure false := by rfl) : QS X Z (.Assign [.Tuple [.Name x px, .Name y py] kt pt] (.Tuple [a, b] k2 pt2) pos) (dPar i j rl) := by
  obtain ⟨t, p, s⟩ := h
  refine ⟨_, ps_par hc hN hi hj hij hx hy p hw hs, fun M σ H Δ F De c h Dv ok => ?_⟩
  refine s M σ H Δ F _ c h _ fun vs H1 ds Δ1 M1 F1 e1 c1 r1 hl h1 => ?_
  match ds, r1, h1 with
  | [d1, d2], r1, h1 =>
    obtain ⟨v, w, e2, q1, q2⟩ := vals2 r1
    exact ⟨v, w, e2, ok.nx _ H1 _ M1 F1 e1 ((c1.set q1 i).set q2 j) h1⟩
/-- x += e -/
def dAug (i : Nat) (dr : D → D → (D → Prop) → Prop) (r : RE) : RS := fun D Δ M => match Δ[i]? with
  | some (.d x) => r Δ M fun y Δ1 M1 => dr x y fun z => D.nx (Δ1.set i (.d z)) M1
  | _ => False
theorem qs_aug {i : Nat} {x : Str} {pos' : Pos} {op : Operator} {ti : TIp} {dr : D → D → (D → Prop) → Prop} (ho : PIp X op ti) (hd : OpD X.K ti dr) (hN : X.N.Nodup) (h : QE X Z e r) (hi : X.N[i]? = some x := by rfl) (hx : Loc X.env.scope x := by first | exact Or.inl rfl | exact Or.inr rfl)
    (hf : X.fn x = true ∨ X.env.scope.names.lookup x = some .local := by first | exact .inl rfl | exact .inr rfl) : QS X Z (.AugAssign (.Name x pos') op e pos) (dAug i dr r) := by
  obtain ⟨t, p, s⟩ := h
  refine ⟨_, ps_aug (i := i) hN hi hx p ho hf, fun M σ H Δ F De c h Dv ok => ?_⟩
  unfold dAug at h
  split at h
  · rename_i x0 hj
    obtain ⟨v, hv, rv⟩ := c.slot i _ hj
    refine ⟨v, hv, ?_⟩
    refine s M σ H Δ F _ c h _ fun w H1 y Δ1 M1 F1 e1 c1 r1 h1 => ?_
    exact hd Z M1 σ H1 Δ1 F1 x0 y v w _ c1 (rp_mono e1 _ _ rv) r1 h1 _ fun u H2 d F2 e2 c2 r2 k2 => ok.nx _ H2 _ M1 F2 (e1.trans e2) (c2.set r2 i) k2
  · exact h.elim
def dPlus : D → D → (D → Prop) → Prop := dI fun i j => .int (i + j)
def dMinus : D → D → (D → Prop) → Prop := dI fun i j => .int (i - j)
theorem od_ip {g : Int → Int → Int} : OpD K (ipI g) (dI fun i j => .int (g i j)) := by
  intro Z M σ H Δ F x y v w Φ c rx ry k Q q
  unfold dI at k
  split at k
  · exact ⟨_, _, rx, ry, q _ H (.int _) F (Ex.refl _) c rfl k⟩
  · exact k.elim
theorem qs_inc {i : Nat} {x : Str} {pos' : Pos} (hN : X.N.Nodup) (h : QE X Z e r) (hi : X.N[i]? = some x := by rfl) (hx : Loc X.env.scope x := by first | exact Or.inl rfl | exact Or.inr rfl)
    (hf : X.fn x = true ∨ X.env.scope.names.lookup x = some .local := by first | exact .inl rfl | exact .inr rfl) : QS X Z (.AugAssign (.Name x pos') .Add e pos) (dAug i dPlus r) := qs_aug ip_add od_ip hN h hi hx hf
/-- x.append(e), x an own list -/
def dApp (j : Nat) (r : RE) : RS := fun D Δ M => isOwn Δ j ∧ r Δ M fun d Δ1 M1 => match Δ1[j]? with
  | some (.own ds) => ds.length < sizeLine ∧ D.nx (Δ1.set j (.own (ds ++ [d]))) M1
  | _ => False
theorem qs_app {j : Nat} {x : Str} {p1 p2 pos' : Pos} (h : QE X Z e r) (hN : X.N[j]? = some x := by rfl) (hv : Vis X.env.scope x := by first | exact Or.inl rfl | exact Or.inr (Or.inl rfl) | exact Or.inr (Or.inr rfl)) (hd : (x == ("__debug__" : Str)) = false := by decide) (hcd : (x == ("__classdict__" : Str)) = false := by decide)
    (hpe : ∀ t, PE X e t → PE X (.Call (.Attribute (.Name x p1) "append" p2) [e] [] pos) (tBM X.K "list" rAppend (tVar j) (tCons t tNil)) := by intro t ht; exact pe_bm PySem.F.plainAttrs_list PySem.F.slot_list_append PySem.F.type_list_append mt_append (pv _) (pa_cons ht pa_nil))
    (hs : swapsWith (.Call (.Attribute (.Name x p1) "append" p2) [e] [] pos) none pos'.line X.env = pure false := by rfl) : QS X Z (.Expr (.Call (.Attribute (.Name x p1) "append" p2) [e] [] pos) pos') (dApp j r) := by
  obtain ⟨t, p, s⟩ := h
  refine ⟨_, ps_expr (hpe t p) hs, ?_⟩
  rintro M σ H Δ F De c ⟨⟨ds0, h0⟩, h⟩ Dv ok
  obtain ⟨a, vs0, hv0, g0, _⟩ := c.slot j _ h0
  refine ⟨_, hv0, .inl ⟨rfl, _, SqL.of g0⟩, ?_⟩
  refine s M σ H Δ F _ c h _ fun w H1 y Δ1 M1 F1 e1 c1 r1 h1 => ?_
  split at h1
  · rename_i ds hj
    obtain ⟨a', vs, hv1, g1, g2, g3, g4, g5⟩ := c1.slot j _ hj
    rw [hv0] at hv1
    cases hv1
    refine ⟨a, vs, w, rfl, rfl, g1, by rw [rps_len g2]; exact h1.1, ?_⟩
    exact ok.nx σ _ _ M1 F1 e1 (c1.change hj hv0 g3 g4 g5 (rps_app g2 (rps_one r1))) h1.2
  · exact h1.elim

/-! ### loops -/
def fgt : List Nat → List Sl → List Sl
  | [], Δ => Δ
  | j :: js, Δ => fgt js (Δ.set j .un)
theorem cn_fgt {M : Mem} {σ : L2.St} {H F : Hp} : ∀ (js : List Nat) (Δ : List Sl), Cn K Z M σ H Δ F → Cn K Z M σ H (fgt js Δ) F
  | [], _, c => c
  | j :: js, Δ, c => cn_fgt js _ (c.drop j)
/-- a loop's target: a name; names of a tuple's parts -/
abbrev RG := D → List Sl → (List Sl → Prop) → Prop
def tgN (j : Nat) : RG := fun d Δ Φ => Φ (Δ.set j (.d d))
def tgU (is : List Nat) : RG := fun d Δ Φ => match d with
  | .tup ds => ds.length = is.length ∧ Φ ((is.zip ds).foldl (fun Δ p => Δ.set p.1 (.d p.2)) Δ)
  | _ => False
def SimG (K : PySem.W.Frag) (Z : Zx) (g : TG) (r : RG) : Prop := ∀ (M : Mem) (σ : L2.St) (H : Hp) (Δ : List Sl) (F : Hp) (d : D) (v : V) (Φ : List Sl → Prop), Cn K Z M σ H Δ F → Rp K F d v → r d Δ Φ →
  ∀ Q : L2.St → Hp → Prop, (∀ σ' Δ', Cn K Z M σ' H Δ' F → Φ Δ' → Q σ' H) → g v σ H Q
theorem simG_name {j : Nat} : SimG K Z (gName j) (tgN j) := fun M σ H Δ F d v Φ c r h Q q => q _ _ (c.set r j) h
theorem simG_tup {is : List Nat} : SimG K Z (gTup K is.length (gNames is)) (tgU is) := by
  intro M σ H Δ F d v Φ c r h Q q
  unfold tgU at h
  split at h
  · obtain ⟨a, vs, e, h1, h2⟩ := r
    exact ⟨a, vs, e, Evl.ex_t c.bs.fH h1, by rw [rps_len h2]; exact h.1, simG_names is _ vs σ Δ c h2 h.1 fun σ' c' => q σ' _ c' h.2⟩
  · exact h.elim
/-- a loop over the items xs; js: slots that are forgotten at each turn's end; Pv: what holds between the turns -/
def dLoopG (tg : RG) (js : List Nat) (xs : List D) (u : RS) : RS := fun D Δ M => ∃ Pv : Nat → List Sl → Mem → Prop, Pv 0 (fgt js Δ) M ∧
  (∀ i d Δ1 M1, xs[i]? = some d → Pv i Δ1 M1 → tg d Δ1 fun Δ2 => u { D with nx := fun Δ2 M2 => Pv (i + 1) (fgt js Δ2) M2, ct := fun Δ2 M2 => Pv (i + 1) (fgt js Δ2) M2, bk := D.nx } Δ2 M1) ∧ ∀ Δ1 M1, Pv xs.length Δ1 M1 → D.nx Δ1 M1
abbrev dLoop (j : Nat) (js : List Nat) (xs : List D) (u : RS) : RS := dLoopG (tgN j) js xs u
theorem endsLoop {F F1 : Hp} {De : DE} {Dv : Ends} {js : List Nat} {i : Nat} {Pv : Nat → List Sl → Mem → Prop} (ok : EndsOk K Z F De Dv) (e : Ex F F1) {N : L2.St → Hp → Prop} (hN : ∀ σ H Δ M F', Ex F1 F' → Cn K Z M σ H Δ F' → Pv (i + 1) Δ M → N σ H) :
    EndsOk K Z F1 { De with nx := fun Δ2 M2 => Pv (i + 1) (fgt js Δ2) M2, ct := fun Δ2 M2 => Pv (i + 1) (fgt js Δ2) M2, bk := De.nx } { Dv with nx := N, ct := N, bk := Dv.nx } :=
  ⟨fun σ' H' Δ' M' F' e1 c' k => hN _ _ _ _ _ e1 (cn_fgt js _ c') k, (ok.mono e).rt, (ok.mono e).nx, fun σ' H' Δ' M' F' e1 c' k => hN _ _ _ _ _ e1 (cn_fgt js _ c') k⟩
theorem loop_list {a : Addr} {xs : List V} {ds : List D} {g : TG} {tg : RG} (hg : SimG K Z g tg) {js : List Nat} {t : TS} {u : RS} (hu : SimS K Z t u) {M : Mem} {σ : L2.St} {H F : Hp} {Δ : List Sl} {De : DE} {Dv : Ends} (c : Cn K Z M σ H Δ F)
    (hx : SqL K F a xs) (hr : Rps K F ds xs) (h : dLoopG tg js ds u De Δ M) (ok : EndsOk K Z F De Dv) :
    ∃ W : Nat → Nat → L2.St → Hp → Prop, (∃ m, W 0 m σ H) ∧ ∀ i m σ H, W i m σ H →
      ((Itl K a).stop i H ∧ Dv.nx σ H) ∨ ((Itl K a).go i H ∧ ∃ N : L2.St → Hp → Prop, (∀ σ' H', N σ' H' → ∃ m', m' < m ∧ W (i + 1) m' σ' H') ∧ ∀ x H', (Itl K a).yld i H x H' → g x σ H' fun σ2 H2 => t { Dv with nx := N, ct := N, bk := Dv.nx } σ2 H2) := by
  obtain ⟨Pv, h0, hs, hd⟩ := h
  have hlen : xs.length = ds.length := rps_len hr
  refine for_list (K := K) (a := a) (xs := xs) (fun i σ H => ∃ Δ M F', Ex F F' ∧ Cn K Z M σ H Δ F' ∧ Pv i Δ M) ⟨_, M, F, Ex.refl _, cn_fgt js _ c, h0⟩ ?_ ?_ ?_
  · rintro i σ H _ ⟨Δ, M, F', e, c, _⟩
    exact Evl.ex_l c.bs.fH (Evl.ex_l e hx)
  · rintro i x σ H hi ⟨Δ, M, F', e, c, hp⟩
    obtain ⟨d, hd', r⟩ := rps_get' (rps_mono e _ _ hr) hi
    exact hg M σ H Δ F' d x _ c r (hs i d Δ M hd' hp) _ fun σ2 Δ2 c2 h2 => hu M σ2 H Δ2 F' _ c2 h2 _ (endsLoop (js := js) (Pv := Pv) ok e fun σ' H' Δ' M' F'' e1 c' k => ⟨Δ', M', F'', e.trans e1, c', k⟩)
  · rintro σ H ⟨Δ, M, F', e, c, hp⟩
    rw [hlen] at hp
    exact ok.nx σ H Δ M F' e c (hd _ _ hp)
theorem loop_tup {a : Addr} {xs : List V} {ds : List D} {g : TG} {tg : RG} (hg : SimG K Z g tg) {js : List Nat} {t : TS} {u : RS} (hu : SimS K Z t u) {M : Mem} {σ : L2.St} {H F : Hp} {Δ : List Sl} {De : DE} {Dv : Ends} (c : Cn K Z M σ H Δ F)
    (hx : SqT K F a xs) (hr : Rps K F ds xs) (h : dLoopG tg js ds u De Δ M) (ok : EndsOk K Z F De Dv) :
    ∃ W : Nat → Nat → L2.St → Hp → Prop, (∃ m, W 0 m σ H) ∧ ∀ i m σ H, W i m σ H →
      ((Itt K a).stop i H ∧ Dv.nx σ H) ∨ ((Itt K a).go i H ∧ ∃ N : L2.St → Hp → Prop, (∀ σ' H', N σ' H' → ∃ m', m' < m ∧ W (i + 1) m' σ' H') ∧ ∀ x H', (Itt K a).yld i H x H' → g x σ H' fun σ2 H2 => t { Dv with nx := N, ct := N, bk := Dv.nx } σ2 H2) := by
  obtain ⟨Pv, h0, hs, hd⟩ := h
  have hlen : xs.length = ds.length := rps_len hr
  refine for_tup (K := K) (a := a) (xs := xs) (fun i σ H => ∃ Δ M F', Ex F F' ∧ Cn K Z M σ H Δ F' ∧ Pv i Δ M) ⟨_, M, F, Ex.refl _, cn_fgt js _ c, h0⟩ ?_ ?_ ?_
  · rintro i σ H _ ⟨Δ, M, F', e, c, _⟩
    exact Evl.ex_t c.bs.fH (Evl.ex_t e hx)
  · rintro i x σ H hi ⟨Δ, M, F', e, c, hp⟩
    obtain ⟨d, hd', r⟩ := rps_get' (rps_mono e _ _ hr) hi
    exact hg M σ H Δ F' d x _ c r (hs i d Δ M hd' hp) _ fun σ2 Δ2 c2 h2 => hu M σ2 H Δ2 F' _ c2 h2 _ (endsLoop (js := js) (Pv := Pv) ok e fun σ' H' Δ' M' F'' e1 c' k => ⟨Δ', M', F'', e.trans e1, c', k⟩)
  · rintro σ H ⟨Δ, M, F', e, c, hp⟩
    rw [hlen] at hp
    exact ok.nx σ H Δ M F' e c (hd _ _ hp)
def rangeD (lo : Int) (n : Nat) : List D := (List.range n).map fun i => .int (lo + (i : Nat))
theorem rangeD_get {lo : Int} {n i : Nat} (h : i < n) : (rangeD lo n)[i]? = some (.int (lo + (i : Nat))) := by
  unfold rangeD
  rw [List.getElem?_map, List.getElem?_range h] <;> rfl
theorem rangeD_len {lo : Int} {n : Nat} : (rangeD lo n).length = n := by
  unfold rangeD
  rw [List.length_map, List.length_range]
theorem loop_range {lo : Int} {m : Nat} {j : Nat} {js : List Nat} {t : TS} {u : RS} (hu : SimS K Z t u) {M : Mem} {σ : L2.St} {H F : Hp} {Δ : List Sl} {De : DE} {Dv : Ends} (c : Cn K Z M σ H Δ F)
    (h : dLoop j js (rangeD lo m) u De Δ M) (ok : EndsOk K Z F De Dv) :
    ∃ W : Nat → Nat → L2.St → Hp → Prop, (∃ m, W 0 m σ H) ∧ ∀ i k σ H, W i k σ H →
      ((Itr lo m).stop i H ∧ Dv.nx σ H) ∨ ((Itr lo m).go i H ∧ ∃ N : L2.St → Hp → Prop, (∀ σ' H', N σ' H' → ∃ m', m' < k ∧ W (i + 1) m' σ' H') ∧ ∀ x H', (Itr lo m).yld i H x H' → gName j x σ H' fun σ2 H2 => t { Dv with nx := N, ct := N, bk := Dv.nx } σ2 H2) := by
  obtain ⟨Pv, h0, hs, hd⟩ := h
  refine for_range (lo := lo) (n := m) (fun i σ H => ∃ Δ M F', Ex F F' ∧ Cn K Z M σ H Δ F' ∧ Pv i Δ M) ⟨_, M, F, Ex.refl _, cn_fgt js _ c, h0⟩ ?_ ?_
  · rintro i σ H hi ⟨Δ, M, F', e, c, hp⟩
    exact hu M _ H _ F' _ (c.set (d := .int (lo + (i : Nat))) rfl j) (hs i _ Δ M (rangeD_get hi) hp) _ (endsLoop (js := js) (Pv := Pv) ok e fun σ' H' Δ' M' F'' e1 c' k => ⟨Δ', M', F'', e.trans e1, c', k⟩)
  · rintro σ H ⟨Δ, M, F', e, c, hp⟩
    rw [rangeD_len] at hd
    exact ok.nx σ H Δ M F' e c (hd _ _ hp)
/-- for x in e: a list, a tuple (which, the writer says) -/
def dForL (j : Nat) (js : List Nat) (r : RE) (u : RS) : RS := fun D Δ M => r Δ M fun x Δ1 M1 => match x with
  | .lst ds => dLoop j js ds u D Δ1 M1
  | .scr ns => dLoop j js (ns.map .int) u D Δ1 M1
  | _ => False
def dForT (j : Nat) (js : List Nat) (r : RE) (u : RS) : RS := fun D Δ M => r Δ M fun x Δ1 M1 => match x with
  | .tup ds => dLoop j js ds u D Δ1 M1
  | _ => False
theorem qs_forL {j : Nat} {js : List Nat} {x : Str} {px : Pos} {body : List Stmt} {iter : Expr} {u : RS} (hp : PassesOwn (model X.prog X.w) X.A X.env X.xe) (hc : X.calm = true) (hN : X.N.Nodup) (h : QE X Z iter r) (hb : QSs X Z body u) (hi : X.N[j]? = some x := by rfl) (hx : Loc X.env.scope x := by first | exact Or.inl rfl | exact Or.inr rfl)
    (hf : X.fn x = true ∨ X.env.scope.names.lookup x = some .local := by first | exact .inl rfl | exact .inr rfl) (hs : ∀ x, foldedSetIterable iter X.env x = pure x := by intro _; rfl) : QS X Z (.For (.Name x px) iter body [] pos) (dForL j js r u) := by
  obtain ⟨t, p, s⟩ := h
  obtain ⟨tb, pb, sb⟩ := hb
  refine ⟨_, ps_for hp hc (pi_list p) (pg_name (i := j) hN hi hx hf) pb hs, fun M σ H Δ F De c h Dv ok => ?_⟩
  refine s M σ H Δ F _ c h _ fun v H1 y Δ1 M1 F1 e1 c1 r1 h1 => ?_
  cases y with
  | lst ds =>
    obtain ⟨a, vs, e2, g1, g2⟩ := r1
    exact ⟨a, e2, ⟨_, SqL.of (c1.bs.fH _ _ g1)⟩, loop_list simG_name sb c1 (SqL.of g1) g2 h1 (ok.mono e1)⟩
  | scr ns =>
    obtain ⟨a, e2, g1⟩ := r1
    exact ⟨a, e2, ⟨_, Evl.ex_l c1.bs.fH g1⟩, loop_list simG_name sb c1 g1 (ints_rps ns) h1 (ok.mono e1)⟩
  | _ => exact h1.elim
theorem qs_forT {j : Nat} {js : List Nat} {x : Str} {px : Pos} {body : List Stmt} {iter : Expr} {u : RS} (hp : PassesOwn (model X.prog X.w) X.A X.env X.xe) (hc : X.calm = true) (hN : X.N.Nodup) (h : QE X Z iter r) (hb : QSs X Z body u) (hi : X.N[j]? = some x := by rfl) (hx : Loc X.env.scope x := by first | exact Or.inl rfl | exact Or.inr rfl)
    (hf : X.fn x = true ∨ X.env.scope.names.lookup x = some .local := by first | exact .inl rfl | exact .inr rfl) (hs : ∀ x, foldedSetIterable iter X.env x = pure x := by intro _; rfl) : QS X Z (.For (.Name x px) iter body [] pos) (dForT j js r u) := by
  obtain ⟨t, p, s⟩ := h
  obtain ⟨tb, pb, sb⟩ := hb
  refine ⟨_, ps_for hp hc (pi_tup p) (pg_name (i := j) hN hi hx hf) pb hs, fun M σ H Δ F De c h Dv ok => ?_⟩
  refine s M σ H Δ F _ c h _ fun v H1 y Δ1 M1 F1 e1 c1 r1 h1 => ?_
  cases y with
  | tup ds =>
    obtain ⟨a, vs, e2, g1, g2⟩ := r1
    exact ⟨a, e2, ⟨_, Evl.ex_t c1.bs.fH g1⟩, loop_tup simG_name sb c1 g1 g2 h1 (ok.mono e1)⟩
  | _ => exact h1.elim
/-- for x in range(e), range(a, b) -/
def dForR (j : Nat) (js : List Nat) (r : RE) (u : RS) : RS := fun D Δ M => r Δ M fun x Δ1 M1 => match x with
  | .int k => (-(2 ^ 62) ≤ k ∧ k < 2 ^ 62) ∧ dLoop j js (rangeD 0 k.toNat) u D Δ1 M1
  | _ => False
def dForR2 (j : Nat) (js : List Nat) (ra rb : RE) (u : RS) : RS := fun D Δ M => ra Δ M fun x Δ1 M1 => rb Δ1 M1 fun y Δ2 M2 => match x, y with
  | .int lo, .int hi => (-(2 ^ 62) ≤ lo ∧ lo < 2 ^ 62 ∧ -(2 ^ 62) ≤ hi ∧ hi < 2 ^ 62) ∧ dLoop j js (rangeD lo (hi - lo).toNat) u D Δ2 M2
  | _, _ => False
theorem qs_forR {j : Nat} {js : List Nat} {x : Str} {px p1 p2 : Pos} {body : List Stmt} {u : RS} (hp : PassesOwn (model X.prog X.w) X.A X.env X.xe) (hc : X.calm = true) (hN : X.N.Nodup) (hg : Gl X "range") (hm : X.mg "range" = none) (h : QE X Z e r) (hb : QSs X Z body u) (hi : X.N[j]? = some x := by rfl) (hx : Loc X.env.scope x := by first | exact Or.inl rfl | exact Or.inr rfl)
    (hf : X.fn x = true ∨ X.env.scope.names.lookup x = some .local := by first | exact .inl rfl | exact .inr rfl) (hs : ∀ x, foldedSetIterable (.Call (.Name "range" p1) [e] [] p2) X.env x = pure x := by intro _; rfl) (hst : starEach [e] X.env = [(false, eval e X.env)] := by rfl) : QS X Z (.For (.Name x px) (.Call (.Name "range" p1) [e] [] p2) body [] pos) (dForR j js r u) := by
  obtain ⟨t, p, s⟩ := h
  obtain ⟨tb, pb, sb⟩ := hb
  refine ⟨_, ps_for hp hc (pi_range1 hg hm (pa_cons p pa_nil hst) hst) (pg_name (i := j) hN hi hx hf) pb hs, fun M σ H Δ F De c h Dv ok => ?_⟩
  refine s M σ H Δ F _ c h _ fun v H1 y Δ1 M1 F1 e1 c1 r1 h1 => ?_
  cases y with
  | int k => exact ⟨k, by rw [show v = .int k from r1], h1.1.1, h1.1.2, loop_range sb c1 h1.2 (ok.mono e1)⟩
  | _ => exact h1.elim
theorem qs_forR2 {j : Nat} {js : List Nat} {x : Str} {px p1 p2 : Pos} {body : List Stmt} {u : RS} (hp : PassesOwn (model X.prog X.w) X.A X.env X.xe) (hc : X.calm = true) (hN : X.N.Nodup) (hg : Gl X "range") (hm : X.mg "range" = none) (ha : QE X Z a ra) (hb' : QE X Z b rb) (hb : QSs X Z body u) (hi : X.N[j]? = some x := by rfl) (hx : Loc X.env.scope x := by first | exact Or.inl rfl | exact Or.inr rfl)
    (hf : X.fn x = true ∨ X.env.scope.names.lookup x = some .local := by first | exact .inl rfl | exact .inr rfl) (hs : ∀ x, foldedSetIterable (.Call (.Name "range" p1) [a, b] [] p2) X.env x = pure x := by intro _; rfl) (hst : starEach [a, b] X.env = [(false, eval a X.env), (false, eval b X.env)] := by rfl) (hst1 : starEach [a, b] X.env = (false, eval a X.env) :: starEach [b] X.env := by rfl) (hst2 : starEach [b] X.env = [(false, eval b X.env)] := by rfl) :
    QS X Z (.For (.Name x px) (.Call (.Name "range" p1) [a, b] [] p2) body [] pos) (dForR2 j js ra rb u) := by
  obtain ⟨t, p, s⟩ := ha
  obtain ⟨t', p', s'⟩ := hb'
  obtain ⟨tb, pb, sb⟩ := hb
  refine ⟨_, ps_for hp hc (pi_range2 hg hm (pa_cons p (pa_cons p' pa_nil hst2) hst1) hst hst2) (pg_name (i := j) hN hi hx hf) pb hs, fun M σ H Δ F De c h Dv ok => ?_⟩
  refine s M σ H Δ F _ c h _ fun v H1 y Δ1 M1 F1 e1 c1 r1 h1 => ?_
  refine s' M1 σ H1 Δ1 F1 _ c1 h1 _ fun v2 H2 y2 Δ2 M2 F2 e2 c2 r2 h2 => ?_
  split at h2
  · exact ⟨_, _, by rw [show v = _ from r1, show v2 = _ from r2], h2.1, loop_range sb c2 h2.2 (ok.mono (e1.trans e2))⟩
  · exact h2.elim
/-- while c -/
def dWhile (js : List Nat) (t : RT) (u : RS) : RS := fun D Δ M => ∃ Pv : Nat → List Sl → Mem → Prop, (∃ m, Pv m (fgt js Δ) M) ∧ ∀ m Δ1 M1, Pv m Δ1 M1 → t Δ1 M1 fun k Δ2 M2 => match k with
  | true => u { D with nx := fun Δ3 M3 => ∃ m', m' < m ∧ Pv m' (fgt js Δ3) M3, ct := fun Δ3 M3 => ∃ m', m' < m ∧ Pv m' (fgt js Δ3) M3, bk := D.nx } Δ2 M2
  | false => D.nx Δ2 M2
theorem qs_while {js : List Nat} {body : List Stmt} {u : RS} (hp : PassesOwn (model X.prog X.w) X.A X.env X.xe) (ht : QT X Z e rt) (hb : QSs X Z body u) : QS X Z (.While e body [] pos) (dWhile js rt u) := by
  obtain ⟨t, p, s⟩ := ht
  obtain ⟨tb, pb, sb⟩ := hb
  refine ⟨_, ps_while hp p pb, fun M σ H Δ F De c h Dv ok => ?_⟩
  obtain ⟨Pv, ⟨m0, h0⟩, hs⟩ := h
  refine ⟨fun m σ H => ∃ Δ M F', Ex F F' ∧ Cn X.K Z M σ H Δ F' ∧ Pv m Δ M, ⟨m0, _, M, F, Ex.refl _, cn_fgt js _ c, h0⟩, ?_⟩
  rintro m σ H ⟨Δ, M, F', e, c, hp'⟩
  refine s M σ H Δ F' _ c (hs m Δ M hp') _ fun k H1 Δ1 M1 F1 e1 c1 h1 => ?_
  cases k with
  | false => exact iteF (ok.nx σ H1 Δ1 M1 F1 (e.trans e1) c1 h1)
  | true =>
    refine iteT ⟨fun σ' H' => ∃ m', m' < m ∧ ∃ Δ M F', Ex F F' ∧ Cn X.K Z M σ' H' Δ F' ∧ Pv m' Δ M, fun σ' H' n => n, ?_⟩
    refine sb M1 σ H1 Δ1 F1 _ c1 h1 _ ⟨?_, ((ok.mono e).mono e1).rt, ((ok.mono e).mono e1).nx, ?_⟩
    · rintro σ' H' Δ' M' F'' e2 c' ⟨m', hm, k⟩
      exact ⟨m', hm, _, M', F'', (e.trans e1).trans e2, cn_fgt js _ c', k⟩
    · rintro σ' H' Δ' M' F'' e2 c' ⟨m', hm, k⟩
      exact ⟨m', hm, _, M', F'', (e.trans e1).trans e2, cn_fgt js _ c', k⟩
end
end DL

set_option Elab.async false
set_option linter.all false
set_option maxRecDepth 100000
set_option maxHeartbeats 4000000
namespace DL
open PySem PySem.Spec PyProof.Rows L2
open Evl (Ex)

/-! ### defs: a promise over data -/
/-- what is wanted of an exception: its class, its fields -/
abbrev DX := Addr → List (Str × D) → Mem → Prop
abbrev DSp := List D → Mem → (D → Mem → Prop) → DX → Prop
/-- an exception's own dict, frozen -/
def XRep (K : PySem.W.Frag) (F : Hp) (fs : List (Str × D)) : Option Addr → Prop
  | none => fs = []
  | some d => ∃ vfs, F d = some (.xd vfs) ∧ vfs.map Prod.fst = fs.map Prod.fst ∧ Rps K F (fs.map Prod.snd) (vfs.map Prod.snd)
def spOf (K : PySem.W.Frag) (S : DSp) : Sp := fun vs H Q E => ∃ (R F : Hp) (M : Mem) (ds : List D) (Φ : D → Mem → Prop) (Ψ : DX), Bs K ⟨R, F⟩ M H F ∧ Rps K F ds vs ∧ S ds M Φ Ψ ∧
  (∀ v H' d M' F', Bs K ⟨R, F⟩ M' H' F' → Rp K F' d v → Φ d M' → Q v H') ∧
  (∀ C fs M' dd H' F', Bs K ⟨R, F⟩ M' H' F' → XRep K F' fs dd → Ψ C fs M' → E (.ref C) dd H')
/-- the promise is about n arguments -/
def Arity (S : DSp) (n : Nat) : Prop := ∀ ds M Φ Ψ, S ds M Φ Ψ → ds.length = n
theorem spOf_len {K : PySem.W.Frag} {S : DSp} {n : Nat} (h : Arity S n) : ∀ vs H Q E, spOf K S vs H Q E → vs.length = n := by
  rintro vs H Q E ⟨R, F, M, ds, Φ, Ψ, b, r, s, _, _⟩
  rw [rps_len r]
  exact h ds M Φ Ψ s

/-- the slots at the entry -/
def startD (N : Nat) (ds : List D) : List Sl := ds.map Sl.d ++ List.replicate (N - ds.length) .un
theorem cn_start {K : PySem.W.Frag} {Z : Zx} {M : Mem} {H F : Hp} {N : List Str} {ds : List D} {vs : List V} (b : Bs K Z M H F) (r : Rps K F ds vs) : Cn K Z M (L2.start N vs) H (startD N.length ds) F where
  bs := b
  len := by
    unfold startD L2.start
    rw [List.length_append, List.length_append, List.length_map, List.length_map, List.length_replicate, List.length_replicate, rps_len r]
  slot := fun i s h => by
    unfold startD at h
    by_cases hi : i < ds.length
    · rw [List.getElem?_append_left (by rw [List.length_map]; exact hi), List.getElem?_map, List.getElem?_eq_getElem hi] at h
      cases h
      obtain ⟨v, h1, h2⟩ := rps_get r (List.getElem?_eq_getElem hi)
      refine ⟨v, ?_, h2⟩
      unfold L2.start
      rw [List.getElem?_append_left (by rw [List.length_map, rps_len r]; exact hi), List.getElem?_map, h1] <;> rfl
    · rw [List.getElem?_append_right (by rw [List.length_map]; omega), List.getElem?_replicate] at h
      split at h
      · cases h
        exact True.intro
      · cases h
  sep := fun i j a es fs hne h1 h2 h3 h4 => by
    unfold startD at h1
    by_cases hi : i < ds.length
    · rw [List.getElem?_append_left (by rw [List.length_map]; exact hi), List.getElem?_map, List.getElem?_eq_getElem hi] at h1
      cases h1
    · rw [List.getElem?_append_right (by rw [List.length_map]; omega), List.getElem?_replicate] at h1
      split at h1 <;> cases h1

section
variable {P : Program} {w : World} {K : PySem.W.Frag} {mg : Str → Option Value} {base : Heap}
/-- THE RULE for a def that raises nothing -/
theorem fn_ok {x qual : Str} {st : Stmt} {f : Addr} {fd : FuncData} {N ps : List Str} {k : Nat} {S : DSp} (F : Fun K x qual st f fd) (Sc : FnScope N ps (defScope st)) (hl : Arity S ps.length)
    (hbody : ∀ (cdv : Value) (A : Around) (outer : List Env) (s : Shared) (H : Hp) (E : XK) (Z : Zx), Room k (A.deeper (envOfC qual (defScope st) s.heap.objs.size f cdv)) →
      ∃ r : RS, QSs (cxOf CX0 P w K mg base N qual (defScope st) f cdv A outer s H E).nox Z (defBody st) r ∧
        ∀ ds M Φ Ψ, S ds M Φ Ψ → r { nx := fun _ M' => Φ .non M', rt := Φ } (startD N.length ds) M) : FnOk P w K mg base CX0 (k + 1) f fd ps (spOf K S) := by
  refine F.ok Sc (spOf_len hl) fun cdv A outer s H vs Q E hr h => ?_
  obtain ⟨R, F0, M, ds, Φ, Ψ, b, r, hS, hq, hx⟩ := h
  obtain ⟨rs, ⟨t, p, sim⟩, red⟩ := hbody cdv A outer s H E ⟨R, F0⟩ hr
  refine ⟨t, p, sim M _ H _ F0 _ (cn_start b r) (red ds M Φ Ψ hS) _ ⟨?_, ?_, ?_, ?_⟩⟩
  · intro σ' H' Δ' M' F' e c k
    exact hq .non H' .non M' F' c.bs rfl k
  · intro v H' d M' F' e c rr k
    exact hq v H' d M' F' c rr k
  · intro σ' H' Δ' M' F' e c k
    exact k.elim
  · intro σ' H' Δ' M' F' e c k
    exact k.elim
end

/-! ### calls -/
open Classical in
/-- the rest of the heap at a call: what is neither handed over nor frozen: the caller's own lists too -/
noncomputable def restAt (Z : Zx) (σ : L2.St) (Δ : List Sl) (H : Hp) : Hp := fun a => if ∃ (i : Nat) (ds : List D), Δ[i]? = some (.own ds) ∧ σ[i]? = some (some (.ref a)) then H a else Z.R a
section
variable {K : PySem.W.Frag} {Z : Zx} {M M' : Mem} {σ : L2.St} {H H' F F' : Hp} {Δ : List Sl}
theorem rest_own {i : Nat} {ds : List D} {a : Addr} (h1 : Δ[i]? = some (.own ds)) (h2 : σ[i]? = some (some (.ref a))) : restAt Z σ Δ H a = H a := by
  unfold restAt
  rw [if_pos ⟨i, ds, h1, h2⟩]
theorem rest_other {a : Addr} (h : ¬ ∃ (i : Nat) (ds : List D), Δ[i]? = some (.own ds) ∧ σ[i]? = some (some (.ref a))) : restAt Z σ Δ H a = Z.R a := by
  unfold restAt
  rw [if_neg h]
theorem call_in (c : Cn K Z M σ H Δ F) : Bs K ⟨restAt Z σ Δ H, F⟩ M H F where
  f0 := Ex.refl _
  fH := c.bs.fH
  rH := fun a o h => by
    replace h : restAt Z σ Δ H a = some o := h
    by_cases hx : ∃ (i : Nat) (ds : List D), Δ[i]? = some (.own ds) ∧ σ[i]? = some (some (.ref a))
    · obtain ⟨i, ds, h1, h2⟩ := hx
      rw [rest_own h1 h2] at h
      exact h
    · rw [rest_other hx] at h
      exact c.bs.rH a o h
  fr := fun a o h => by
    by_cases hx : ∃ (i : Nat) (ds : List D), Δ[i]? = some (.own ds) ∧ σ[i]? = some (some (.ref a))
    · obtain ⟨i, ds, h1, h2⟩ := hx
      obtain ⟨b, vs, e, g1, g2, g3, _⟩ := c.slot i _ h1
      rw [h2] at e
      cases e
      rw [g3] at h
      cases h
    · show restAt Z σ Δ H a = none
      rw [rest_other hx]
      exact c.bs.fr a o h
  mm := fun a o h => by
    obtain ⟨h1, h2, h3⟩ := c.bs.mm a o h
    refine ⟨h1, ?_, h3⟩
    show restAt Z σ Δ H a = none
    by_cases hx : ∃ (i : Nat) (ds : List D), Δ[i]? = some (.own ds) ∧ σ[i]? = some (some (.ref a))
    · obtain ⟨i, ds, g1, g2⟩ := hx
      obtain ⟨b, vs, e, _, _, _, _, g5⟩ := c.slot i _ g1
      rw [g2] at e
      cases e
      rw [g5] at h
      cases h
    · rw [rest_other hx]
      exact h2
theorem call_out (c : Cn K Z M σ H Δ F) (b : Bs K ⟨restAt Z σ Δ H, F⟩ M' H' F') : Cn K Z M' σ H' Δ F' := by
  have own : ∀ (i : Nat) (ds : List D) (a : Addr) (vs : List V), Δ[i]? = some (.own ds) → σ[i]? = some (some (.ref a)) → H a = some (.lst vs) → F' a = none ∧ H' a = some (.lst vs) ∧ M' a = none := fun i ds a vs h1 h2 h3 => by
    have e : restAt Z σ Δ H a = some (.lst vs) := (rest_own h1 h2).trans h3
    refine ⟨?_, b.rH a _ e, ?_⟩
    · cases h : F' a with
      | none => rfl
      | some o =>
        have := b.fr a o h
        rw [show (⟨restAt Z σ Δ H, F⟩ : Zx).R a = restAt Z σ Δ H a from rfl, e] at this
        cases this
    · cases h : M' a with
      | none => rfl
      | some o =>
        have := (b.mm a o h).2.1
        rw [show (⟨restAt Z σ Δ H, F⟩ : Zx).R a = restAt Z σ Δ H a from rfl, e] at this
        cases this
  have rz : ∀ a, restAt Z σ Δ H a = none → Z.R a = none := fun a h => by
    by_cases hx : ∃ (i : Nat) (ds : List D), Δ[i]? = some (.own ds) ∧ σ[i]? = some (some (.ref a))
    · obtain ⟨i, ds, g1, g2⟩ := hx
      obtain ⟨b, vs, e, g3, _⟩ := c.slot i _ g1
      rw [g2] at e
      cases e
      rw [rest_own g1 g2, g3] at h
      cases h
    · rw [rest_other hx] at h
      exact h
  refine ⟨⟨c.bs.f0.trans b.f0, b.fH, fun a o h => ?_, fun a o h => rz a (b.fr a o h), fun a o h => ⟨(b.mm a o h).1, rz a (b.mm a o h).2.1, (b.mm a o h).2.2⟩⟩, c.len, fun i s h => ?_, c.sep⟩
  · refine b.rH a o ?_
    show restAt Z σ Δ H a = some o
    by_cases hx : ∃ (i : Nat) (ds : List D), Δ[i]? = some (.own ds) ∧ σ[i]? = some (some (.ref a))
    · obtain ⟨i, ds, g1, g2⟩ := hx
      obtain ⟨b, vs, e, _, _, _, g4, _⟩ := c.slot i _ g1
      rw [g2] at e
      cases e
      rw [g4] at h
      cases h
    · rw [rest_other hx]
      exact h
  · have k := c.slot i s h
    cases s with
    | un => exact True.intro
    | d d =>
      obtain ⟨v, e, r⟩ := k
      exact ⟨v, e, rp_mono b.f0 _ _ r⟩
    | own ds =>
      obtain ⟨a, vs, e, h1, h2, h3, h4, h5⟩ := k
      obtain ⟨q1, q2, q3⟩ := own i ds a vs h e h1
      exact ⟨a, vs, e, q2, rps_mono b.f0 _ _ h2, q1, h4, q3⟩
end
def noX : DX := fun _ _ _ => False
/-- f(..): the callee's promise -/
def dCall (S : DSp) (rl : RA) : RE := fun Δ M Φ => rl Δ M fun ds Δ1 M1 => S ds M1 (fun d M2 => Φ d Δ1 M2) noX
section
variable {X : Cx} {Z : Zx} {e : Expr} {pos : Pos} {es : List Expr} {rl : RA} {n k : Nat} {f : Addr} {fd : FuncData} {ps : List Str} {x : Str} {p : Pos} {S : DSp}
theorem sim_call {K : PySem.W.Frag} {t : TA} (h : SimA K Z n t rl) : Sim K Z (tCall (spOf K S) [] E0 t) (dCall S rl) := by
  intro M σ H Δ F Φ c k Q q
  refine h M σ H Δ F _ c k _ fun vs H1 ds Δ1 M1 F1 e1 c1 r1 hl h1 => ?_
  show spOf K S (vs ++ []) H1 Q E0
  rw [List.append_nil]
  refine ⟨restAt Z σ Δ1 H1, F1, M1, ds, _, noX, call_in c1, r1, h1, fun v H' d M' F' b rr hΦ => ?_, fun C fs M' dd H' F' b rr hΨ => hΨ.elim⟩
  exact q v H' d Δ1 M' F' (e1.trans b.f0) (call_out c1 b) rr hΦ
theorem qe_call (Fn : FnOk X.prog X.w X.K X.mg X.base CX0 k f fd ps (spOf X.K S)) (hr : Room k X.A) (hg : Gl X x) (hm : X.mg x = some (.ref f)) (hk : PySem.W.keepIn X.K (.ref f) = true) (hb : Binds X.K fd ps []) (ha : QA X Z n (e :: es) rl) (hdb : (x == ("__debug__" : Str)) = false := by decide)
    (he : starEach (e :: es) X.env = (false, eval e X.env) :: starEach es X.env := by rfl) (hpl : (backTo pos (starEach es X.env)).any (·.1) = false := by rfl) : QE X Z (.Call (.Name x p) (e :: es) [] pos) (dCall S rl) := by
  obtain ⟨t, pa, s⟩ := ha
  exact ⟨_, pe_call Fn hr hg hm hk hb .nil pass0 pa hdb he hpl, sim_call s⟩
theorem qe_call0 (Fn : FnOk X.prog X.w X.K X.mg X.base CX0 k f fd ps (spOf X.K S)) (hr : Room k X.A) (hg : Gl X x) (hm : X.mg x = some (.ref f)) (hk : PySem.W.keepIn X.K (.ref f) = true) (hb : Binds X.K fd ps []) (hdb : (x == ("__debug__" : Str)) = false := by decide) :
    QE X Z (.Call (.Name x p) [] [] pos) (dCall S dNil) := by
  refine ⟨_, pe_call0 Fn hr hg hm hk hb .nil pass0 hdb, sim_call (n := 0) fun M σ H Δ F Φ c h Q q => q [] H [] Δ M F (Ex.refl _) c rfl rfl h⟩
end
/-! ### the law -/
/-- the law's own promise: True for every script -/
def lawSp : DSp := fun ds M Φ _ => ∃ ns : List Int, ds = [.scr ns] ∧ ns.length ≤ 63 ∧ ∀ M', Φ (.bl true) M'
theorem law_start {K : PySem.W.Frag} {H : Hp} {a : Addr} {ns : List Int} (hl : ns.length ≤ 63) (hS : SqL K H a (ns.map V.int)) : spOf K lawSp [.ref a] H (fun v _ => v = .bl true) fun _ _ _ => False := by
  refine ⟨fun _ => none, H, fun _ => none, [.scr ns], fun d _ => d = .bl true, noX, ⟨Ex.refl _, Ex.refl _, fun a o h => (by cases h), fun _ _ _ => rfl, fun a o h => (by cases h)⟩, ⟨.ref a, [], rfl, ⟨a, rfl, hS⟩, rfl⟩, ⟨ns, rfl, hl, fun _ => rfl⟩, fun v H' d M' F' b r e => ?_, fun C fs M' dd H' F' b r e => e.elim⟩
  subst e
  exact r
end DL

set_option Elab.async false
set_option linter.all false
set_option maxRecDepth 100000
set_option maxHeartbeats 4000000
namespace DL
open PySem PySem.Spec PyProof.Rows L2
open Evl (Ex)
section
variable {X : Cx} {Z : Zx} {e a b c : Expr} {ra rb rc r : RE} {rt ru : RT} {pos : Pos} {es : List Expr} {rl : RA} {n : Nat} {K : PySem.W.Frag}
/-! ### products and quotients of any size -/
def CMulA (i j : Int) : Prop := CMul i j ∨ CMulW i j
theorem op_mulA : OpR X (binaryOp .Mult) (rI CMulA fun i j => .int (i * j)) := by
  intro pins s σ H x y v u Q I rx ry h
  obtain ⟨i, j, h1, h2, hc, q⟩ := h
  rcases hc with hc | hc
  · exact op_mul pins s σ H x y v u Q I rx ry ⟨i, j, h1, h2, hc, q⟩
  · exact op_mulW pins s σ H x y v u Q I rx ry ⟨i, j, h1, h2, hc, q⟩
theorem qe_mulA (ha : QE X Z a ra) (hb : QE X Z b rb) : QE X Z (.BinOp a .Mult b pos) (dOp (dIC CMulA fun i j => .int (i * j)) ra rb) := qe_bin op_mulA (opD_IC fun _ _ _ => rfl) ha hb
def CDivA (i j : Int) : Prop := 0 < j ∧ (j < 1073741824 ∨ j.natAbs.log2 < 9000)
theorem op_fdivA : OpR X (binaryOp .FloorDiv) (rI CDivA fun i j => .int (i / j)) := by
  intro pins s σ H x y v u Q I rx ry h
  obtain ⟨i, j, h1, h2, hc, q⟩ := h
  rcases hc.2 with h | h
  · exact op_fdiv pins s σ H x y v u Q I rx ry ⟨i, j, h1, h2, ⟨hc.1, h⟩, q⟩
  · exact op_fdivW pins s σ H x y v u Q I rx ry ⟨i, j, h1, h2, ⟨hc.1, h⟩, q⟩
theorem qe_fdivA (ha : QE X Z a ra) (hb : QE X Z b rb) : QE X Z (.BinOp a .FloorDiv b pos) (dOp (dIC CDivA fun i j => .int (i / j)) ra rb) := qe_bin op_fdivA (opD_IC fun _ _ _ => rfl) ha hb

/-! ### == of anything -/
def dEqA : D → D → (D → Prop) → Prop := fun x y Φ => match x, y with
  | .int i, .int j => Φ (.bl (decide (i = j)))
  | .str i, .str j => Φ (.bl (decide (i = j)))
  | .bl i, .bl j => Φ (.bl (decide (i = j)))
  | x, y => dEq x y Φ
def dNeA : D → D → (D → Prop) → Prop := fun x y Φ => match x, y with
  | .int i, .int j => Φ (.bl (!decide (i = j)))
  | .str i, .str j => Φ (.bl (!decide (i = j)))
  | .bl i, .bl j => Φ (.bl (!decide (i = j)))
  | x, y => dNe x y Φ
def rEqA (K : PySem.W.Frag) : R2 := fun x y H Q => rEq x y H Q ∨ rEqD K x y H Q
def rNeA (K : PySem.W.Frag) : R2 := fun x y H Q => rNe x y H Q ∨ rNeD K x y H Q
theorem op_eqA (hu : X.A.units + 64 < cLine) : OpR X (compareOp .Eq) (rEqA X.K) := OpR.or op_eq (op_eqD hu)
theorem op_neA (hu : X.A.units + 64 < cLine) : OpR X (compareOp .NotEq) (rNeA X.K) := OpR.or op_ne (op_neD hu)
theorem od_eqA : OpD K (rEqA K) dEqA := OpD.or od_eqS od_eq fun x y Φ k => by
  unfold dEqA at k
  split at k
  · exact .inl k
  · exact .inl k
  · exact .inl k
  · exact .inr k
theorem od_neA : OpD K (rNeA K) dNeA := OpD.or od_neS od_ne fun x y Φ k => by
  unfold dNeA at k
  split at k
  · exact .inl k
  · exact .inl k
  · exact .inl k
  · exact .inr k

/-! ### in -/
def D.flat : D → Bool
  | .non | .bl _ | .int _ | .str _ => true
  | _ => false
def D.v : D → V
  | .non => .non | .bl b => .bl b | .int i => .int i | .str x => .str x | _ => .non
theorem rp_flat {F : Hp} {d : D} {v : V} (h : Rp K F d v) (f : d.flat = true) : v = d.v ∧ flatV v = true := by
  cases d with
  | non => exact ⟨h, by rw [show v = .non from h] <;> rfl⟩
  | bl b => exact ⟨h, by rw [show v = .bl b from h] <;> rfl⟩
  | int b => exact ⟨h, by rw [show v = .int b from h] <;> rfl⟩
  | str b => exact ⟨h, by rw [show v = .str b from h] <;> rfl⟩
  | _ => cases f
theorem rps_flat {F : Hp} : ∀ {ds : List D} {vs : List V}, Rps K F ds vs → ds.all D.flat = true → vs = ds.map D.v ∧ vs.all flatV = true
  | [], vs, h, _ => by rw [show vs = [] from h]; exact ⟨rfl, rfl⟩
  | d :: ds, vs, h, f => by
    obtain ⟨v, r, e, h1, h2⟩ := h
    rw [List.all_cons, Bool.and_eq_true] at f
    obtain ⟨g1, g2⟩ := rp_flat h1 f.1
    obtain ⟨g3, g4⟩ := rps_flat h2 f.2
    rw [e]
    exact ⟨by rw [List.map_cons, ← g1, ← g3], by rw [List.all_cons, g2, g4] <;> rfl⟩
def inD (x : D) (ds : List D) : Bool := inV x.v (ds.map D.v)
def dInA (neg : Bool) : D → D → (D → Prop) → Prop := fun x y Φ => match y with
  | .tup ds => x.flat = true ∧ ds.all D.flat = true ∧ Φ (.bl (if neg then !inD x ds else inD x ds))
  | .lst ds => x.flat = true ∧ ds.all D.flat = true ∧ Φ (.bl (if neg then !inD x ds else inD x ds))
  | .str z => ∃ k : Nat, x = .str ⟨#[k]⟩ ∧ Φ (.bl (if neg then !decide (k ∈ z.cps.toList) else decide (k ∈ z.cps.toList)))
  | _ => False
def rInSg (neg : Bool) : R2 := fun x y H Q => ∃ (c : Nat) (z : Str), x = .str ⟨#[c]⟩ ∧ y = .str z ∧ Q (.bl (if neg then !decide (c ∈ z.cps.toList) else decide (c ∈ z.cps.toList))) H
def rInA (K : PySem.W.Frag) (neg : Bool) : R2 := fun x y H Q => rIn K neg x y H Q ∨ rInSg neg x y H Q
theorem op_inA : OpR X (compareOp .In) (rInA X.K false) := OpR.or op_in_seq (by
  intro pins s σ H x y v u Q I rx ry h
  obtain ⟨c, z, h1, h2, q⟩ := h
  exact op_in_sign pins s σ H x y v u Q I rx ry ⟨c, z, h1, h2, q⟩)
theorem op_ninA : OpR X (compareOp .NotIn) (rInA X.K true) := OpR.or op_notIn_seq (by
  intro pins s σ H x y v u Q I rx ry h
  obtain ⟨c, z, h1, h2, q⟩ := h
  exact op_notIn_sign pins s σ H x y v u Q I rx ry ⟨c, z, h1, h2, q⟩)
theorem od_inA {neg : Bool} : OpD K (rInA K neg) (dInA neg) := by
  intro Z M σ H Δ F x y v w Φ c rx ry k Q q
  unfold dInA at k
  split at k
  · obtain ⟨p, vs, e1, h1, h2⟩ := ry
    obtain ⟨f1, f2, k⟩ := k
    obtain ⟨g1, g2⟩ := rp_flat rx f1
    obtain ⟨g3, g4⟩ := rps_flat h2 f2
    refine .inl ⟨p, vs, e1, .inr (Evl.ex_t c.bs.fH h1), g2, g4, ?_⟩
    rw [g1, g3]
    exact q _ H (.bl _) F (Ex.refl _) c rfl k
  · obtain ⟨p, vs, e1, h1, h2⟩ := ry
    obtain ⟨f1, f2, k⟩ := k
    obtain ⟨g1, g2⟩ := rp_flat rx f1
    obtain ⟨g3, g4⟩ := rps_flat h2 f2
    refine .inl ⟨p, vs, e1, .inl (SqL.of (c.bs.fH _ _ h1)), g2, g4, ?_⟩
    rw [g1, g3]
    exact q _ H (.bl _) F (Ex.refl _) c rfl k
  · obtain ⟨j, e1, k⟩ := k
    subst e1
    exact .inr ⟨j, _, rx, ry, q _ H (.bl _) F (Ex.refl _) c rfl k⟩
  · exact k.elim

/-! ### chains, truth -/
def dChain (d1 d2 : D → D → (D → Prop) → Prop) (ra rb rc : RE) : RE := fun Δ M Φ => ra Δ M fun x Δ1 M1 => rb Δ1 M1 fun y Δ2 M2 => d1 x y fun z => match z with
  | .bl k => bs k fun k => match k with
    | true => rc Δ2 M2 fun w Δ3 M3 => d2 y w fun u => Φ u Δ3 M3
    | false => Φ (.bl false) Δ2 M2
  | _ => False
theorem sim_chain {r1 r2 : R2} {d1 d2 : D → D → (D → Prop) → Prop} {ta tb tc : TE} (h1 : OpD K r1 d1) (h2 : OpD K r2 d2) (ha : Sim K Z ta ra) (hb : Sim K Z tb rb) (hc : Sim K Z tc rc) : Sim K Z (tChain r1 r2 ta tb tc) (dChain d1 d2 ra rb rc) := by
  intro M σ H Δ F Φ c h Q q
  refine ha M σ H Δ F _ c h _ fun v H1 x Δ1 M1 F1 e1 c1 q1 k1 => ?_
  refine hb M1 σ H1 Δ1 F1 _ c1 k1 _ fun w H2 y Δ2 M2 F2 e2 c2 q2 k2 => ?_
  refine h1 Z M2 σ H2 Δ2 F2 x y v w _ c2 (rp_mono e2 _ _ q1) q2 k2 _ fun u H3 z F3 e3 c3 q3 k3 => ?_
  cases z with
  | bl k =>
    refine ⟨k, q3, ?_⟩
    replace k3 := bs_of k3
    cases k with
    | true =>
      refine iteT (hc M2 σ H3 Δ2 F3 _ c3 k3 _ fun w' H4 y' Δ4 M4 F4 e4 c4 q4 k4 => ?_)
      exact h2 Z M4 σ H4 Δ4 F4 y y' w w' _ c4 (rp_mono e4 _ _ (rp_mono e3 _ _ q2)) q4 k4 Q fun u' H5 d F5 e5 c5 q5 k5 => q u' H5 d Δ4 M4 F5 ((((e1.trans e2).trans e3).trans e4).trans e5) c5 q5 k5
    | false => exact iteF (q _ H3 (.bl false) Δ2 M2 F3 ((e1.trans e2).trans e3) c3 rfl k3)
  | _ => exact k3.elim
theorem qe_chain {op op' : CmpOp} {r1 r2 : R2} {d1 d2 : D → D → (D → Prop) → Prop} (o1 : OpR X (compareOp op) r1) (h1 : OpD X.K r1 d1) (o2 : OpR X (compareOp op') r2) (h2 : OpD X.K r2 d2) (ha : QE X Z a ra) (hb : QE X Z b rb) (hc : QE X Z c rc) (hm : lastMarks [op, op'] [b, c] = false := by with_unfolding_all rfl) :
    QE X Z (.Compare a [op, op'] [b, c] pos) (dChain d1 d2 ra rb rc) := by
  obtain ⟨ta, pa, sa⟩ := ha
  obtain ⟨tb, pb, sb⟩ := hb
  obtain ⟨tc, pc, sc⟩ := hc
  exact ⟨_, pe_chain o1 o2 pa pb pc hm, sim_chain h1 h2 sa sb sc⟩
theorem qt_chain {op op' : CmpOp} {r1 r2 : R2} {d1 d2 : D → D → (D → Prop) → Prop} (o1 : OpR X (compareOp op) r1) (h1 : OpD X.K r1 d1) (o2 : OpR X (compareOp op') r2) (h2 : OpD X.K r2 d2) (ha : QE X Z a ra) (hb : QE X Z b rb) (hc : QE X Z c rc) (hm : lastMarks [op, op'] [b, c] = false := by with_unfolding_all rfl) :
    QT X Z (.Compare a [op, op'] [b, c] pos) (dTest (dChain d1 d2 ra rb rc)) := by
  obtain ⟨ta, pa, sa⟩ := ha
  obtain ⟨tb, pb, sb⟩ := hb
  obtain ⟨tc, pc, sc⟩ := hc
  exact ⟨_, pt_chain o1 o2 pa pb pc hm, simT_test (sim_chain h1 h2 sa sb sc)⟩
def dTruth (r : RE) : RT := fun Δ M Φ => r Δ M fun x Δ1 M1 => match x with
  | .bl k => bs k fun k => Φ k Δ1 M1
  | .int i => bs (i != 0) fun k => Φ k Δ1 M1
  | .str z => z.length ≤ sizeLine ∧ bs ((z.length : Int) != 0) fun k => Φ k Δ1 M1
  | .lst ds => bs (!ds.isEmpty) fun k => Φ k Δ1 M1
  | .tup ds => bs (!ds.isEmpty) fun k => Φ k Δ1 M1
  | .non => Φ false Δ1 M1
  | _ => False
theorem rps_empty {F : Hp} {ds : List D} {vs : List V} (h : Rps K F ds vs) : vs.isEmpty = ds.isEmpty := by
  have := rps_len h
  cases ds <;> cases vs <;> first | rfl | (simp at this)
theorem qt_truth (h : QE X Z e r) (he : ∀ whole, isTrue e X.env whole = (do let v ← whole; standAt e.pos; holding [v] (truthy v)) := by intro _; rfl) : QT X Z e (dTruth r) := by
  obtain ⟨t, p, s⟩ := h
  refine ⟨_, pt_truth p he, fun M σ H Δ F Φ c h Q q => ?_⟩
  refine s M σ H Δ F _ c h _ fun v H1 x Δ1 M1 F1 e1 c1 r1 h1 => ?_
  cases x with
  | bl k => rw [show v = .bl k from r1]; exact ⟨k, rfl, q k H1 Δ1 M1 F1 e1 c1 (bs_of h1)⟩
  | int i => rw [show v = .int i from r1]; exact ⟨_, rfl, q _ H1 Δ1 M1 F1 e1 c1 (bs_of h1)⟩
  | str z => rw [show v = .str z from r1]; exact ⟨_, ⟨h1.1, rfl⟩, q _ H1 Δ1 M1 F1 e1 c1 (bs_of h1.2)⟩
  | non => rw [show v = .non from r1]; exact ⟨_, rfl, q _ H1 Δ1 M1 F1 e1 c1 h1⟩
  | lst ds =>
    obtain ⟨p, vs, e2, g1, g2⟩ := r1
    rw [e2]
    exact ⟨!ds.isEmpty, .inl ⟨vs, SqL.of (c1.bs.fH _ _ g1), by rw [rps_empty g2]⟩, q _ H1 Δ1 M1 F1 e1 c1 (bs_of h1)⟩
  | tup ds =>
    obtain ⟨p, vs, e2, g1, g2⟩ := r1
    rw [e2]
    exact ⟨!ds.isEmpty, .inr (.inl ⟨vs, Evl.ex_t c1.bs.fH g1, by rw [rps_empty g2]⟩), q _ H1 Δ1 M1 F1 e1 c1 (bs_of h1)⟩
  | _ => exact h1.elim
/-- the truth of an own list -/
def dTruthO (j : Nat) : RT := fun Δ M Φ => match Δ[j]? with
  | some (.own ds) => bs (!ds.isEmpty) fun k => Φ k Δ M
  | _ => False
theorem qt_truthO (j : Nat) {x : Str} (hN : X.N[j]? = some x := by rfl) (hv : Vis X.env.scope x := by first | exact Or.inl rfl | exact Or.inr (Or.inl rfl) | exact Or.inr (Or.inr rfl)) (hd : (x == ("__debug__" : Str)) = false := by decide) (hcd : (x == ("__classdict__" : Str)) = false := by decide) : QT X Z (.Name x pos) (dTruthO j) := by
  refine ⟨_, pt_truth (pe_var (i := j) hN hv hd hcd) (by intro _; rfl), fun M σ H Δ F Φ c h Q q => ?_⟩
  unfold dTruthO at h
  split at h
  · rename_i ds hj
    obtain ⟨a, vs, hv0, g1, g2, _⟩ := c.slot j _ hj
    exact ⟨_, hv0, !ds.isEmpty, .inl ⟨vs, SqL.of g1, by rw [rps_empty g2]⟩, q _ H Δ M F (Ex.refl _) c (bs_of h)⟩
  · exact h.elim
end

/-! ### for over a list or a tuple -/
def iSeq (K : PySem.W.Frag) (tl : TE) : TI := fun σ H R => tl σ H fun x H1 => ∃ a, x = .ref a ∧ (((∃ xs, SqL K H1 a xs) ∧ R (Itl K a) H1) ∨ ((∃ xs, SqT K H1 a xs) ∧ R (Itt K a) H1))
theorem pi_seq {X : Cx} {tg l : Expr} {tl : TE} (hl : PE X l tl) : PI X tg l (iSeq X.K tl) := by
  refine ⟨fun pins s σ H R I h => ?_⟩
  refine thn (hl.run pins s σ H _ I h) fun v s1 ⟨x, H1, I1, r1, q1⟩ => ?_
  obtain ⟨a, e, q⟩ := q1
  subst e
  cases r1
  rcases q with ⟨⟨xs, hq⟩, q⟩ | ⟨⟨xs, hq⟩, q⟩
  · obtain ⟨its, rv, p, hz⟩ := I1.list hq
    refine wpAny_pyIter_list p.isList ?_
    refine ⟨s1.heap.objs.size, [s1.heap.objs.size], _, _, H1, rfl, I1.kept (t' := s1.toks) fun b o e => Heap.get?_push_of_some _ e, turn_list a _, ⟨_, Heap.get?_push_size _ rfl, rfl, rfl⟩, fun b hb => ?_, q⟩
    have e : b = s1.heap.objs.size := by simpa using hb
    subst e
    exact I1.fpOk (Nat.le_refl _) (I1.hok.fresh (Nat.le_refl _))
  · obtain ⟨its, rv, p, hz⟩ := I1.tuple hq
    refine wpAny_pyIter_tuple (show s1.heap.IsTuple a its.toArray from p) ?_
    refine ⟨s1.heap.objs.size, [s1.heap.objs.size], _, _, H1, rfl, I1.kept (t' := s1.toks) fun b o e => Heap.get?_push_of_some _ e, turn_tuple a _, ⟨_, Heap.get?_push_size _ rfl, rfl, rfl⟩, fun b hb => ?_, q⟩
    have e : b = s1.heap.objs.size := by simpa using hb
    subst e
    exact I1.fpOk (Nat.le_refl _) (I1.hok.fresh (Nat.le_refl _))
def dFor (j : Nat) (js : List Nat) (r : RE) (u : RS) : RS := fun D Δ M => r Δ M fun x Δ1 M1 => match x with
  | .lst ds => dLoop j js ds u D Δ1 M1
  | .scr ns => dLoop j js (ns.map .int) u D Δ1 M1
  | .tup ds => dLoop j js ds u D Δ1 M1
  | _ => False
theorem qs_for {X : Cx} {Z : Zx} {pos : Pos} {r : RE} {j : Nat} {js : List Nat} {x : Str} {px : Pos} {body : List Stmt} {iter : Expr} {u : RS} (hp : PassesOwn (model X.prog X.w) X.A X.env X.xe) (hc : X.calm = true) (hN : X.N.Nodup) (h : QE X Z iter r) (hb : QSs X Z body u) (hi : X.N[j]? = some x := by rfl) (hx : Loc X.env.scope x := by first | exact Or.inl rfl | exact Or.inr rfl)
    (hf : X.fn x = true ∨ X.env.scope.names.lookup x = some .local := by first | exact .inl rfl | exact .inr rfl) (hs : ∀ x, foldedSetIterable iter X.env x = pure x := by intro _; rfl) : QS X Z (.For (.Name x px) iter body [] pos) (dFor j js r u) := by
  obtain ⟨t, p, s⟩ := h
  obtain ⟨tb, pb, sb⟩ := hb
  refine ⟨_, ps_for hp hc (pi_seq p) (pg_name (i := j) hN hi hx hf) pb hs, fun M σ H Δ F De c h Dv ok => ?_⟩
  refine s M σ H Δ F _ c h _ fun v H1 y Δ1 M1 F1 e1 c1 r1 h1 => ?_
  cases y with
  | lst ds =>
    obtain ⟨a, vs, e2, g1, g2⟩ := r1
    exact ⟨a, e2, .inl ⟨⟨_, SqL.of (c1.bs.fH _ _ g1)⟩, loop_list simG_name sb c1 (SqL.of g1) g2 h1 (ok.mono e1)⟩⟩
  | scr ns =>
    obtain ⟨a, e2, g1⟩ := r1
    exact ⟨a, e2, .inl ⟨⟨_, Evl.ex_l c1.bs.fH g1⟩, loop_list simG_name sb c1 g1 (ints_rps ns) h1 (ok.mono e1)⟩⟩
  | tup ds =>
    obtain ⟨a, vs, e2, g1, g2⟩ := r1
    exact ⟨a, e2, .inr ⟨⟨_, Evl.ex_t c1.bs.fH g1⟩, loop_tup simG_name sb c1 g1 g2 h1 (ok.mono e1)⟩⟩
  | _ => exact h1.elim

/-! ### readings of loops, ready for use -/
/-- a loop whose turns bring the slots from f i to f (i + 1) -/
theorem loop_by {j : Nat} {js : List Nat} {xs : List D} {u : RS} {De : DE} {Δ : List Sl} {M : Mem} (f : Nat → List Sl) (h0 : fgt js Δ = f 0)
    (hs : ∀ i d, xs[i]? = some d → u { De with nx := fun Δ2 M2 => fgt js Δ2 = f (i + 1) ∧ M2 = M, ct := fun Δ2 M2 => fgt js Δ2 = f (i + 1) ∧ M2 = M, bk := De.nx } ((f i).set j (.d d)) M) (hd : De.nx (f xs.length) M) : dLoop j js xs u De Δ M :=
  ⟨fun i Δ' M' => Δ' = f i ∧ M' = M, ⟨h0, rfl⟩, fun i d Δ1 M1 hi ⟨e1, e2⟩ => by subst e1 e2; exact hs i d hi, fun Δ1 M1 ⟨e1, e2⟩ => by subst e1 e2; exact hd⟩
end DL

set_option Elab.async false
set_option linter.all false
set_option maxRecDepth 100000
set_option maxHeartbeats 4000000
namespace DL
open PySem PySem.Spec PyProof.Rows L2
open Evl (Ex)
/-! ### lists in memory -/
def updM (M : Mem) (p : Addr) (o : OD) : Mem := fun a => if a = p then some o else M a
theorem updM_same {M : Mem} {p : Addr} {o : OD} : updM M p o p = some o := by unfold updM; rw [if_pos rfl]
theorem updM_ne {M : Mem} {p a : Addr} {o : OD} (h : a ≠ p) : updM M p o a = M a := by unfold updM; rw [if_neg h]
theorem updM_updM {M : Mem} {p : Addr} {o u : OD} : updM (updM M p o) p u = updM M p u := by
  funext a; unfold updM; split <;> rfl
section
variable {K : PySem.W.Frag} {Z : Zx} {M : Mem} {σ : L2.St} {H F : Hp} {Δ : List Sl}
theorem Cn.newM (c : Cn K Z M σ H Δ F) {p : Addr} {ds : List D} {vs : List V} (hp : H p = none) (r : Rps K F ds vs) : Cn K Z (updM M p (.lst ds)) σ (upd H p (.lst vs)) Δ F where
  bs := {
    f0 := c.bs.f0
    fH := (c.bs.newH hp _).fH
    rH := (c.bs.newH hp (.lst vs)).rH
    fr := c.bs.fr
    mm := fun a o h => by
      by_cases e : a = p
      · subst e
        rw [updM_same] at h
        cases h
        exact ⟨c.bs.freeF hp, c.bs.freeR hp, vs, upd_same, r⟩
      · rw [updM_ne e] at h
        exact (c.bs.newH hp (.lst vs)).mm a o h }
  len := c.len
  slot := fun i s h => by
    have k := (c.newH hp (.lst vs)).slot i s h
    cases s with
    | un => exact True.intro
    | d d => exact k
    | own es =>
      obtain ⟨a, ws, e, h1, h2, h3, h4, h5⟩ := k
      have g := c.slot i _ h
      obtain ⟨a', ws', e', g1, _⟩ := g
      rw [e] at e'
      cases e'
      exact ⟨a, ws, e, h1, h2, h3, h4, by rw [updM_ne (ne_of_none g1 hp)]; exact h5⟩
  sep := c.sep
theorem Cn.setM (c : Cn K Z M σ H Δ F) {p : Addr} {o : OD} {ds : List D} {vs : List V} (hM : M p = some o) (r : Rps K F ds vs) : Cn K Z (updM M p (.lst ds)) σ (upd H p (.lst vs)) Δ F := by
  obtain ⟨m1, m2, m3⟩ := c.bs.mm p o hM
  refine ⟨⟨c.bs.f0, fun a u h => ?_, fun a u h => ?_, c.bs.fr, fun a u h => ?_⟩, c.len, fun i s h => ?_, c.sep⟩
  · have e : a ≠ p := fun e => by subst e; rw [m1] at h; cases h
    rw [upd_ne e]; exact c.bs.fH a u h
  · have e : a ≠ p := fun e => by subst e; rw [m2] at h; cases h
    rw [upd_ne e]; exact c.bs.rH a u h
  · by_cases e : a = p
    · subst e
      rw [updM_same] at h
      cases h
      exact ⟨m1, m2, vs, upd_same, r⟩
    · rw [updM_ne e] at h
      rw [upd_ne e]; exact c.bs.mm a u h
  · have k := c.slot i s h
    cases s with
    | un => exact True.intro
    | d d => exact k
    | own es =>
      obtain ⟨a, ws, e, h1, h2, h3, h4, h5⟩ := k
      have ne : a ≠ p := fun e => by subst e; rw [h5] at hM; cases hM
      exact ⟨a, ws, e, by rw [upd_ne ne]; exact h1, h2, h3, h4, by rw [updM_ne ne]; exact h5⟩
theorem Bs.lstM (b : Bs K Z M H F) {p : Addr} {ds : List D} (h : M p = some (.lst ds)) : ∃ vs, H p = some (.lst vs) ∧ Rps K F ds vs := (b.mm p _ h).2.2
end
section
variable {X : Cx} {Z : Zx} {e a b c : Expr} {ra rb rc r : RE} {rt ru : RT} {pos : Pos} {es : List Expr} {rl : RA} {n : Nat} {K : PySem.W.Frag}
/-- x = a new list, in memory -/
def dSetM (i : Nat) (rl : RA) : RS := fun D Δ M => rl Δ M fun ds Δ1 M1 => ∀ p, M1 p = none → D.nx (Δ1.set i (.d (.ref p))) (updM M1 p (.lst ds))
theorem qs_setM {i : Nat} {x : Str} {pos' : Pos} (hN : X.N.Nodup) (h : QL X Z e rl) (hi : X.N[i]? = some x := by rfl) (hx : Loc X.env.scope x := by first | exact Or.inl rfl | exact Or.inr rfl) (hs : swapsWith e (some (.Name x pos')) pos.line X.env = pure false := by rfl)
    (hf : X.fn x = true ∨ X.env.scope.names.lookup x = some .local := by first | exact .inl rfl | exact .inr rfl) : QS X Z (.Assign [.Name x pos'] e pos) (dSetM i rl) := by
  obtain ⟨t, p, s⟩ := h
  refine ⟨_, ps_set (i := i) hN hi hx p hs hf, fun M σ H Δ F De c h Dv ok => ?_⟩
  refine s M σ H Δ F _ c h _ fun p H1 vs ds Δ1 M1 F1 e1 c1 hp r1 h1 => ?_
  exact ok.nx _ _ _ _ F1 e1 ((c1.newM hp r1).set (d := .ref p) rfl i) (h1 p (c1.bs.freeM hp))
/-- a new list as a value, in memory -/
def dNewM (rl : RA) : RE := fun Δ M Φ => rl Δ M fun ds Δ1 M1 => ∀ p, M1 p = none → Φ (.ref p) Δ1 (updM M1 p (.lst ds))
theorem qe_newM (h : QL X Z e rl) : QE X Z e (dNewM rl) := by
  obtain ⟨t, p, s⟩ := h
  refine ⟨t, p, fun M σ H Δ F Φ c h Q q => ?_⟩
  refine s M σ H Δ F _ c h Q fun p H1 vs ds Δ1 M1 F1 e1 c1 hp r1 h1 => ?_
  exact q _ _ (.ref p) Δ1 _ F1 e1 (c1.newM hp r1) rfl (h1 p (c1.bs.freeM hp))
/-- xs[i], len(xs), xs a list in memory -/
def dIxM (ra rb : RE) : RE := fun Δ M Φ => ra Δ M fun x Δ1 M1 => rb Δ1 M1 fun y Δ2 M2 => match x, y with
  | .ref p, .int i => ∃ ds, M2 p = some (.lst ds) ∧ ∃ d, atI ds i = some d ∧ Φ d Δ2 M2
  | _, _ => False
theorem qe_ixM (ha : QE X Z a ra) (hb : QE X Z b rb) (hs : PlainIx b := by intro _ _; rfl) : QE X Z (.Subscript a b pos) (dIxM ra rb) := by
  obtain ⟨ta, pa, sa⟩ := ha
  obtain ⟨tb, pb, sb⟩ := hb
  refine ⟨_, pe_ix ix_list pa pb hs, fun M σ H Δ F Φ c h Q q => ?_⟩
  refine sa M σ H Δ F _ c h _ fun v H1 x Δ1 M1 F1 e1 c1 r1 h1 => ?_
  refine sb M1 σ H1 Δ1 F1 _ c1 h1 _ fun w H2 y Δ2 M2 F2 e2 c2 r2 h2 => ?_
  split at h2
  · obtain ⟨ds, hM, d, hd, k⟩ := h2
    obtain ⟨vs, g1, g2⟩ := c2.bs.lstM hM
    obtain ⟨u, h3, h4⟩ := atI_rps g2 hd
    exact ⟨_, vs, _, u, r1, r2, SqL.of g1, h3, q u H2 d Δ2 M2 F2 (e1.trans e2) c2 h4 k⟩
  · exact h2.elim
def dLenM (r : RE) : RE := fun Δ M Φ => r Δ M fun x Δ1 M1 => match x with
  | .ref p => ∃ ds, M1 p = some (.lst ds) ∧ Φ (.int (ds.length : Nat)) Δ1 M1
  | _ => False
theorem qe_lenM {p : Pos} (hg : Gl X "len") (hm : X.mg "len" = none) (h : QE X Z e r) (he : starEach [e] X.env = (false, eval e X.env) :: starEach [] X.env := by rfl) (hpl : (backTo pos (starEach [] X.env)).any (·.1) = false := by rfl) :
    QE X Z (.Call (.Name "len" p) [e] [] pos) (dLenM r) := by
  obtain ⟨t, pa, s⟩ := h
  refine ⟨_, pe_callB cr_lenAll hg hm boot_len (pa_cons pa pa_nil he) (by decide) (by decide) he hpl, fun M σ H Δ F Φ c h Q q => ?_⟩
  refine s M σ H Δ F _ c h _ fun v H1 x Δ1 M1 F1 e1 c1 r1 h1 => ?_
  cases x with
  | ref p =>
    obtain ⟨ds, hM, k⟩ := h1
    obtain ⟨vs, g1, g2⟩ := c1.bs.lstM hM
    refine .inl ⟨p, vs, by rw [show v = .ref p from r1], .inl (SqL.of g1), ?_⟩
    rw [rps_len g2]
    exact q _ H1 (.int _) Δ1 M1 F1 e1 c1 rfl k
  | _ => exact h1.elim
/-- xs.append(e) -/
def dAppM (ra r : RE) : RS := fun D Δ M => ra Δ M fun x Δ1 M1 => match x with
  | .ref p => (∃ ds, M1 p = some (.lst ds)) ∧ r Δ1 M1 fun d Δ2 M2 => ∃ ds, M2 p = some (.lst ds) ∧ ds.length < sizeLine ∧ D.nx Δ2 (updM M2 p (.lst (ds ++ [d])))
  | _ => False
theorem qs_appM {o : Expr} {p2 pos' : Pos} (ho : QE X Z o ra) (h : QE X Z e r)
    (hpe : ∀ t u, PE X o t → PE X e u → PE X (.Call (.Attribute o "append" p2) [e] [] pos) (tBM X.K "list" rAppend t (tCons u tNil)) := by intro t u ht hu; exact pe_bm PySem.F.plainAttrs_list PySem.F.slot_list_append PySem.F.type_list_append mt_append ht (pa_cons hu pa_nil))
    (hs : swapsWith (.Call (.Attribute o "append" p2) [e] [] pos) none pos'.line X.env = pure false := by rfl) : QS X Z (.Expr (.Call (.Attribute o "append" p2) [e] [] pos) pos') (dAppM ra r) := by
  obtain ⟨t0, p0, s0⟩ := ho
  obtain ⟨t, p, s⟩ := h
  refine ⟨_, ps_expr (hpe t0 t p0 p) hs, fun M σ H Δ F De c h Dv ok => ?_⟩
  refine s0 M σ H Δ F _ c h _ fun v H1 x Δ1 M1 F1 e1 c1 r1 h1 => ?_
  cases x with
  | ref a =>
    obtain ⟨⟨ds0, hM0⟩, h1⟩ := h1
    obtain ⟨vs0, g0, _⟩ := c1.bs.lstM hM0
    rw [show v = .ref a from r1]
    refine ⟨.inl ⟨rfl, _, SqL.of g0⟩, ?_⟩
    refine s M1 σ H1 Δ1 F1 _ c1 h1 _ fun w H2 y Δ2 M2 F2 e2 c2 r2 h2 => ?_
    obtain ⟨ds, hM, hl, k⟩ := h2
    obtain ⟨vs, g1, g2⟩ := c2.bs.lstM hM
    refine ⟨a, vs, w, rfl, rfl, g1, by rw [rps_len g2]; exact hl, ?_⟩
    exact ok.nx σ _ _ _ F2 (e1.trans e2) (c2.setM hM (rps_app g2 (rps_one r2))) k
  | _ => exact h1.elim
/-- for x in xs, xs in memory and not changed -/
def dForM (j : Nat) (js : List Nat) (r : RE) (u : RS) : RS := fun D Δ M => r Δ M fun x Δ1 M1 => match x with
  | .ref p => ∃ ds, M1 p = some (.lst ds) ∧ ∃ Pv : Nat → List Sl → Mem → Prop, Pv 0 (fgt js Δ1) M1 ∧ (∀ i Δ2 M2, Pv i Δ2 M2 → M2 p = some (.lst ds)) ∧
    (∀ i d Δ2 M2, ds[i]? = some d → Pv i Δ2 M2 → u { D with nx := fun Δ3 M3 => Pv (i + 1) (fgt js Δ3) M3, ct := fun Δ3 M3 => Pv (i + 1) (fgt js Δ3) M3, bk := D.nx } (Δ2.set j (.d d)) M2) ∧ ∀ Δ2 M2, Pv ds.length Δ2 M2 → D.nx Δ2 M2
  | _ => False
theorem qs_forM {j : Nat} {js : List Nat} {x : Str} {px : Pos} {body : List Stmt} {iter : Expr} {u : RS} (hp : PassesOwn (model X.prog X.w) X.A X.env X.xe) (hc : X.calm = true) (hN : X.N.Nodup) (h : QE X Z iter r) (hb : QSs X Z body u) (hi : X.N[j]? = some x := by rfl) (hx : Loc X.env.scope x := by first | exact Or.inl rfl | exact Or.inr rfl)
    (hf : X.fn x = true ∨ X.env.scope.names.lookup x = some .local := by first | exact .inl rfl | exact .inr rfl) (hs : ∀ x, foldedSetIterable iter X.env x = pure x := by intro _; rfl) : QS X Z (.For (.Name x px) iter body [] pos) (dForM j js r u) := by
  obtain ⟨t, p, s⟩ := h
  obtain ⟨tb, pb, sb⟩ := hb
  refine ⟨_, ps_for hp hc (pi_list p) (pg_name (i := j) hN hi hx hf) pb hs, fun M σ H Δ F De c h Dv ok => ?_⟩
  refine s M σ H Δ F _ c h _ fun v H1 y Δ1 M1 F1 e1 c1 r1 h1 => ?_
  cases y with
  | ref a =>
    obtain ⟨ds, hM, Pv, h0, hst, hs, hd⟩ := h1
    obtain ⟨vs, g1, g2⟩ := c1.bs.lstM hM
    refine ⟨a, r1, ⟨vs, SqL.of g1⟩, fun i m σ H => ∃ Δ M F' ws, Ex F1 F' ∧ Cn X.K Z M σ H Δ F' ∧ H a = some (.lst ws) ∧ Rps X.K F' ds ws ∧ i + m = ds.length ∧ Pv i Δ M, ⟨ds.length, _, M1, F1, vs, Ex.refl _, cn_fgt js _ c1, g1, g2, Nat.zero_add _, h0⟩, ?_⟩
    rintro i m σ H ⟨Δ, M, F', ws, e, c, gl, gr, him, hp'⟩
    by_cases hi' : i < ds.length
    · have hd' : ds[i]? = some ds[i] := List.getElem?_eq_getElem hi'
      obtain ⟨w, hw, rw'⟩ := rps_get gr hd'
      refine .inr ⟨⟨ws, w, SqL.of gl, hw⟩, fun σ' H' => ∃ Δ M F' ws, Ex F1 F' ∧ Cn X.K Z M σ' H' Δ F' ∧ H' a = some (.lst ws) ∧ Rps X.K F' ds ws ∧ Pv (i + 1) Δ M, ?_, ?_⟩
      · rintro σ' H' ⟨Δ, M, F', ws, e, c, gl, gr, hp'⟩
        exact ⟨m - 1, by omega, Δ, M, F', ws, e, c, gl, gr, by omega, hp'⟩
      · rintro x H' ⟨rfl, hy⟩
        have ex : x = w := by
          have := hy ws (SqL.of gl)
          rw [hw] at this
          exact (Option.some.inj this).symm
        subst ex
        have again : ∀ (σ' : L2.St) (H' : Hp) (Δ' : List Sl) (M' : Mem) (F'' : Hp), Ex F' F'' → Cn X.K Z M' σ' H' Δ' F'' → Pv (i + 1) (fgt js Δ') M' → ∃ Δ M F' ws, Ex F1 F' ∧ Cn X.K Z M σ' H' Δ F' ∧ H' a = some (.lst ws) ∧ Rps X.K F' ds ws ∧ Pv (i + 1) Δ M := by
          intro σ' H' Δ' M' F'' e2 c' k
          obtain ⟨ws', q1, q2⟩ := c'.bs.lstM (hst _ _ _ k)
          exact ⟨_, M', F'', ws', e.trans e2, cn_fgt js _ c', q1, q2, k⟩
        refine sb M _ _ _ F' _ (c.set rw' j) (hs i _ Δ M hd' hp') _ ⟨again, ((ok.mono e1).mono e).rt, ((ok.mono e1).mono e).nx, again⟩
    · have : i = ds.length := by omega
      subst this
      refine .inl ⟨⟨ws, SqL.of gl, by rw [rps_len gr]; exact Nat.le_refl _⟩, ?_⟩
      exact ok.nx σ H Δ M F' (e1.trans e) c (hd _ _ hp')
  | _ => exact h1.elim
/-- for a, b in xs -/
def dForU (is js : List Nat) (r : RE) (u : RS) : RS := fun D Δ M => r Δ M fun x Δ1 M1 => match x with
  | .lst ds => dLoopG (tgU is) js ds u D Δ1 M1
  | .tup ds => dLoopG (tgU is) js ds u D Δ1 M1
  | _ => False
theorem qs_forU {is js : List Nat} {tgs : List Expr} {k : Nat} {tp : Pos} {body : List Stmt} {iter : Expr} {u : RS} (hp : PassesOwn (model X.prog X.w) X.A X.env X.xe) (hc : X.calm = true) (h : QE X Z iter r) (hg : PGs X tgs (gNames is)) (hb : QSs X Z body u)
    (hpg : PGs X tgs (gNames is) → PG X (.Tuple tgs k tp) (gTup X.K is.length (gNames is)) := by intro hg; exact pg_tup rfl hg) (hs : ∀ x, foldedSetIterable iter X.env x = pure x := by intro _; rfl) : QS X Z (.For (.Tuple tgs k tp) iter body [] pos) (dForU is js r u) := by
  obtain ⟨t, p, s⟩ := h
  obtain ⟨tb, pb, sb⟩ := hb
  refine ⟨_, ps_for hp hc (pi_seq p) (hpg hg) pb hs, fun M σ H Δ F De c h Dv ok => ?_⟩
  refine s M σ H Δ F _ c h _ fun v H1 y Δ1 M1 F1 e1 c1 r1 h1 => ?_
  cases y with
  | lst ds =>
    obtain ⟨a, vs, e2, g1, g2⟩ := r1
    exact ⟨a, e2, .inl ⟨⟨_, SqL.of (c1.bs.fH _ _ g1)⟩, loop_list simG_tup sb c1 (SqL.of g1) g2 h1 (ok.mono e1)⟩⟩
  | tup ds =>
    obtain ⟨a, vs, e2, g1, g2⟩ := r1
    exact ⟨a, e2, .inr ⟨⟨_, Evl.ex_t c1.bs.fH g1⟩, loop_tup simG_tup sb c1 g1 g2 h1 (ok.mono e1)⟩⟩
  | _ => exact h1.elim

/-! ### new lists -/
/-- xs + e, xs a list of one's own -/
def dCatO (j : Nat) (r : RE) : RA := fun Δ M Φ => isOwn Δ j ∧ r Δ M fun y Δ1 M1 => match Δ1[j]?, y with
  | some (.own ds), .lst es => ds.length + es.length ≤ sizeLine ∧ Φ (ds ++ es) Δ1 M1
  | _, _ => False
theorem ql_catO (j : Nat) {x : Str} {p2 : Pos} (hb : QE X Z b rb) (hN : X.N[j]? = some x := by rfl) (hv : Vis X.env.scope x := by first | exact Or.inl rfl | exact Or.inr (Or.inl rfl) | exact Or.inr (Or.inr rfl)) (hd : (x == ("__debug__" : Str)) = false := by decide)
    (hcd : (x == ("__classdict__" : Str)) = false := by decide) : QL X Z (.BinOp (.Name x p2) .Add b pos) (dCatO j rb) := by
  obtain ⟨tb, pb, sb⟩ := hb
  refine ⟨_, pe_op op_cat (pe_var (i := j) hN hv hd hcd) pb, ?_⟩
  rintro M σ H Δ F Φ c ⟨⟨ds0, h0⟩, h⟩ Q q
  obtain ⟨p0, vs0, hv0, _⟩ := c.slot j _ h0
  refine ⟨_, hv0, ?_⟩
  refine sb M σ H Δ F _ c h _ fun w H1 y Δ1 M1 F1 e1 c1 r1 h1 => ?_
  split at h1
  · rename_i ds es hd
    obtain ⟨p, vs, e2, g1, g2, _⟩ := c1.slot j _ hd
    rw [hv0] at e2
    cases e2
    obtain ⟨b', ws, e3, g3, g4⟩ := r1
    refine ⟨p0, b', vs, ws, rfl, e3, g1, c1.bs.fH _ _ g3, by rw [rps_len g2, rps_len g4]; exact h1.1, fun p hp => ?_⟩
    exact q p H1 _ _ Δ1 M1 F1 e1 c1 hp (rps_app g2 g4) h1.2
  · exact h1.elim
end
/-- a promise about nothing -/
def spNever : DSp := fun _ _ _ _ => False
theorem fn_never {P : Program} {w : World} {K : PySem.W.Frag} {mg : Str → Option Value} {base : Heap} {CX : CXT} {k : Nat} {f : Addr} {fd : FuncData} {ps : List Str} {S : DSp} (h : ∀ ds M Φ Ψ, ¬ S ds M Φ Ψ) : FnOk P w K mg base CX k f fd ps (spOf K S) :=
  ⟨fun vs H Q E ⟨_, _, _, _, _, _, _, _, s, _⟩ => absurd s (h _ _ _ _), fun A outer s H args us vs Q E _ _ _ _ ⟨_, _, _, _, _, _, _, _, z, _⟩ => absurd z (h _ _ _ _)⟩
end DL

set_option Elab.async false
set_option linter.all false
set_option maxRecDepth 100000
set_option maxHeartbeats 4000000
/-! Exceptions over data. -/
namespace DL
open PySem PySem.Spec PyProof.Rows L2
open Evl (Ex)

abbrev DXS := Addr → List (Str × D) → List Sl → Mem → Prop
def XOk (K : PySem.W.Frag) (Z : Zx) (W : WX) (Ψ : DXS) : Prop := ∀ C fs Δ M dd σ H F, Cn K Z M σ H Δ F → XRep K F fs dd → Ψ C fs Δ M → W (.ref C) dd σ H
abbrev flatX (Ψ : DX) : DXS := fun C fs _ M => Ψ C fs M
abbrev flatW (E : XK) : WX := fun cls d _ H => E cls d H
theorem XRep.mono {K : PySem.W.Frag} {F F' : Hp} (e : Ex F F') {fs : List (Str × D)} {dd : Option Addr} (x : XRep K F fs dd) : XRep K F' fs dd := by
  cases dd with
  | none => exact x
  | some d =>
    obtain ⟨vfs, h1, h2, h3⟩ := x
    exact ⟨vfs, e _ _ h1, h2, rps_mono e _ _ h3⟩
section
variable {P : Program} {w : World} {K : PySem.W.Frag} {mg : Str → Option Value} {base : Heap}
/-- THE RULE for a def that may raise -/
theorem fn_okX {x qual : Str} {st : Stmt} {f : Addr} {fd : FuncData} {N ps : List Str} {k : Nat} {S : DSp} (F : Fun K x qual st f fd) (Sc : FnScope N ps (defScope st)) (hl : Arity S ps.length)
    (hbody : ∀ (cdv : Value) (A : Around) (outer : List Env) (s : Shared) (H : Hp) (E : XK) (Z : Zx) (Ψ : DX), Room k (A.deeper (envOfC qual (defScope st) s.heap.objs.size f cdv)) →
      Takes (cxOf (L2.CX P w) P w K mg base N qual (defScope st) f cdv A outer s H E) (flatW E) → PassesOwn (model P w) (A.deeper (envOfC qual (defScope st) s.heap.objs.size f cdv)) (envOfC qual (defScope st) s.heap.objs.size f cdv) (cxOf (L2.CX P w) P w K mg base N qual (defScope st) f cdv A outer s H E).xe →
      XOk K Z (flatW E) (flatX Ψ) →
      ∃ r : RS, QSs (cxOf (L2.CX P w) P w K mg base N qual (defScope st) f cdv A outer s H E) Z (defBody st) r ∧
        ∀ ds M Φ, S ds M Φ Ψ → r { nx := fun _ M' => Φ .non M', rt := Φ } (startD N.length ds) M) : FnOk P w K mg base (L2.CX P w) (k + 1) f fd ps (spOf K S) := by
  refine F.okX Sc (spOf_len hl) fun cdv A outer s H vs Q E hr h => ?_
  obtain ⟨R, F0, M, ds, Φ, Ψ, b, r, hS, hq, hx⟩ := h
  obtain ⟨rs, ⟨t, p, sim⟩, red⟩ := hbody cdv A outer s H E ⟨R, F0⟩ Ψ hr (takes_of rfl rfl rfl rfl) (passes_of rfl) fun C fs Δ M' dd σ H' F' c xr k => hx C fs M' dd H' F' c.bs xr k
  refine ⟨t, p, sim M _ H _ F0 _ (cn_start b r) (red ds M Φ hS) _ ⟨?_, ?_, ?_, ?_⟩⟩
  · intro σ' H' Δ' M' F' e c k
    exact hq .non H' .non M' F' c.bs rfl k
  · intro v H' d M' F' e c rr k
    exact hq v H' d M' F' c rr k
  · intro σ' H' Δ' M' F' e c k
    exact k.elim
  · intro σ' H' Δ' M' F' e c k
    exact k.elim
end
/-- f(..) that may raise -/
def dCallX (S : DSp) (Ψ : DXS) (rl : RA) : RE := fun Δ M Φ => rl Δ M fun ds Δ1 M1 => S ds M1 (fun d M2 => Φ d Δ1 M2) fun C fs M2 => Ψ C fs Δ1 M2
section
variable {X : Cx} {Z : Zx} {e : Expr} {pos : Pos} {es : List Expr} {rl : RA} {n k : Nat} {f : Addr} {fd : FuncData} {ps : List Str} {x : Str} {p : Pos} {S : DSp} {W : WX} {Ψ : DXS}
theorem sim_callX {K : PySem.W.Frag} {t : TA} (xo : XOk K Z W Ψ) (h : SimA K Z n t rl) : Sim K Z (tCallS (spOf K S) (WE W) t) (dCallX S Ψ rl) := by
  intro M σ H Δ F Φ c k Q q
  refine h M σ H Δ F _ c k _ fun vs H1 ds Δ1 M1 F1 e1 c1 r1 hl h1 => ?_
  show spOf K S vs H1 Q (WE W σ)
  refine ⟨restAt Z σ Δ1 H1, F1, M1, ds, _, _, call_in c1, r1, h1, fun v H' d M' F' b rr hΦ => ?_, fun C fs M' dd H' F' b rr hΨ => ?_⟩
  · exact q v H' d Δ1 M' F' (e1.trans b.f0) (call_out c1 b) rr hΦ
  · exact xo C fs Δ1 M' dd σ H' F' (call_out c1 b) rr hΨ
theorem qe_callX (Fn : FnOk X.prog X.w X.K X.mg X.base (L2.CX X.prog X.w) k f fd ps (spOf X.K S)) (hr : Room k X.A) (tk : Takes X W) (xo : XOk X.K Z W Ψ) (hg : Gl X x) (hm : X.mg x = some (.ref f)) (hk : PySem.W.keepIn X.K (.ref f) = true) (hb : Binds X.K fd ps []) (ha : QA X Z n (e :: es) rl) (hdb : (x == ("__debug__" : Str)) = false := by decide)
    (he : starEach (e :: es) X.env = (false, eval e X.env) :: starEach es X.env := by rfl) (hpl : (backTo pos (starEach es X.env)).any (·.1) = false := by rfl) : QE X Z (.Call (.Name x p) (e :: es) [] pos) (dCallX S Ψ rl) := by
  obtain ⟨t, pa, s⟩ := ha
  exact ⟨_, pe_callS Fn hr hg hm hk hb (fun σ => passAt tk σ) pa hdb he hpl, sim_callX xo s⟩
end

/-! ### an own class with an own __init__ that sets fields -/
/-- what __init__ does: the fields, the last one first -/
def spInit (C : Addr) (names : List Str) : Sp := fun vs H Q _ => ∃ a ws, vs = .ref a :: ws ∧ ws.length = names.length ∧ H a = some (exo a C none) ∧
  ∀ d H', H d = none → d ≠ a → H' a = some (exo a C (some d)) → H' d = some (exd d (names.zip ws).reverse) → (∀ b, b ≠ a → b ≠ d → H' b = H b) → Q .non H'
/-- raise C(..) -/
def dRaise (C : Addr) (names : List Str) (Ψ : DXS) (rl : RA) : RS := fun _ Δ M => rl Δ M fun ds Δ1 M1 => ds.length = names.length ∧ Ψ C (names.zip ds).reverse Δ1 M1
theorem rps_snoc {K : PySem.W.Frag} {F : Hp} {ds : List D} {vs : List V} {d : D} {v : V} (h : Rps K F ds vs) (r : Rp K F d v) : Rps K F (ds ++ [d]) (vs ++ [v]) := rps_app h (rps_one r)
theorem zip_rev {K : PySem.W.Frag} {F : Hp} : ∀ (names : List Str) (ds : List D) (vs : List V), ds.length = names.length → Rps K F ds vs →
    (names.zip vs).reverse.map Prod.fst = (names.zip ds).reverse.map Prod.fst ∧ Rps K F ((names.zip ds).reverse.map Prod.snd) ((names.zip vs).reverse.map Prod.snd)
  | [], [], vs, _, h => by
    rw [show vs = [] from h]
    exact ⟨rfl, rfl⟩
  | x :: names, d :: ds, vs, hl, h => by
    obtain ⟨v, r, rfl, h1, h2⟩ := h
    obtain ⟨g1, g2⟩ := zip_rev names ds r (by simpa using hl) h2
    rw [List.zip_cons_cons, List.zip_cons_cons, List.reverse_cons, List.reverse_cons, List.map_append, List.map_append, List.map_append, List.map_append, g1]
    exact ⟨rfl, rps_snoc g2 h1⟩
  | [], d :: ds, _, hl, _ => by cases hl
  | x :: names, [], _, hl, _ => by cases hl
section
variable {X : Cx} {Z : Zx} {e : Expr} {pos pos2 : Pos} {es : List Expr} {rl : RA} {n k : Nat} {C fI : Addr} {fd : FuncData} {ps names : List Str} {x : Str} {p : Pos} {W : WX} {Ψ : DXS}
theorem sim_raise {K : PySem.W.Frag} {t : TA} (xo : XOk K Z W Ψ) (h : SimA K Z n t rl) (hn : n ≤ 1000) : SimS K Z (fun _ σ H => tMkO C (spInit C names) [] t σ H fun cls d H' => W cls d σ H') (dRaise C names Ψ rl) := by
  intro M σ H Δ F De c k Dv ok
  refine h M σ H Δ F _ c k _ fun vs H1 ds Δ1 M1 F1 e1 c1 r1 hl h1 => ⟨by rw [rps_len r1, hl]; exact hn, fun a ha => ?_⟩
  refine ⟨a, vs, by rw [List.append_nil], by rw [rps_len r1]; exact h1.1, upd_same, fun d H' hd hda e1' e2' e3' => ⟨rfl, d, _, e1', e2', ?_, ?_⟩⟩
  · rw [upd_ne hda] at hd
    exact hd
  · rw [upd_ne hda] at hd
    have eq : upd (del H' a) d (.xd (names.zip vs).reverse) = upd H1 d (.xd (names.zip vs).reverse) := by
      funext b
      by_cases hbd : b = d
      · subst hbd
        rw [upd_same, upd_same]
      · rw [upd_ne hbd, upd_ne hbd]
        by_cases hba : b = a
        · subst hba
          rw [del_same, ha]
        · rw [del_ne hba, e3' b hba hbd, upd_ne hba]
    rw [eq]
    have c2 := c1.new hd (.xd (names.zip vs).reverse)
    obtain ⟨g1, g2⟩ := zip_rev names ds vs h1.1 r1
    exact xo C _ Δ1 M1 (some d) σ _ _ c2 ⟨_, upd_same, g1, rps_mono (c1.bs.exF hd _) _ _ g2⟩ h1.2
theorem qs_raise (hc : X.calm = true) (tk : Takes X W) (xo : XOk X.K Z W Ψ) (T : OexC X.K C) (iC : PySem.W.findIn X.K (.ref C) "__init__" = some (some (.ref fI))) (tI : PySem.W.typeIn X.K (.ref fI) = some (.type "function"))
    (Fn : FnOk X.prog X.w X.K X.mg X.base CX0 k fI fd ps (spInit C names)) (hr : Room (k + 1) X.A) (hb : Binds X.K fd ps []) (hg : Gl X x) (hm : X.mg x = some (.ref C)) (ha : QA X Z n (e :: es) rl) (hn : n ≤ 1000 := by decide)
    (hdb : (x == ("__debug__" : Str)) = false := by decide) (he : starEach (e :: es) X.env = (false, eval e X.env) :: starEach es X.env := by rfl) (hpl : (backTo pos (starEach es X.env)).any (·.1) = false := by rfl) :
    QS X Z (.Raise (some (.Call (.Name x p) (e :: es) [] pos)) none pos2) (dRaise C names Ψ rl) := by
  obtain ⟨t, pa, s⟩ := ha
  exact ⟨_, ps_raise hc tk (pmk_oex T iC tI Fn hr hb .nil pass0 hg hm pa hdb he hpl), sim_raise xo s hn⟩
end
end DL

set_option Elab.async false
set_option linter.all false
set_option maxRecDepth 100000
set_option maxHeartbeats 4000000
/-! try over data -/
namespace DL
open PySem PySem.Spec PyProof.Rows L2
open Evl (Ex)
section
variable {K : PySem.W.Frag} {Z : Zx} {M : Mem} {σ : L2.St} {H F F0 : Hp} {Δ : List Sl}
theorem slot_at {F' : Hp} {o : Option (Option V)} {s : Sl} (h : SlotOk K Z F M H o s) : SlotOk K ⟨Z.R, F'⟩ F M H o s := by
  cases s with
  | un => exact h
  | d d => exact h
  | own ds => exact h
theorem slot_of {F' : Hp} {o : Option (Option V)} {s : Sl} (h : SlotOk K ⟨Z.R, F'⟩ F M H o s) : SlotOk K Z F M H o s := by
  cases s with
  | un => exact h
  | d d => exact h
  | own ds => exact h
theorem Bs.ofAt (e : Ex Z.F0 F0) (b : Bs K ⟨Z.R, F0⟩ M H F) : Bs K Z M H F := ⟨e.trans b.f0, b.fH, b.rH, b.fr, b.mm⟩
theorem Cn.toAt (c : Cn K Z M σ H Δ F) : Cn K ⟨Z.R, F⟩ M σ H Δ F := ⟨⟨Ex.refl _, c.bs.fH, c.bs.rH, c.bs.fr, c.bs.mm⟩, c.len, fun i s h => slot_at (c.slot i s h), c.sep⟩
theorem Cn.ofAt (e : Ex Z.F0 F0) (c : Cn K ⟨Z.R, F0⟩ M σ H Δ F) : Cn K Z M σ H Δ F := ⟨c.bs.ofAt e, c.len, fun i s h => slot_of (c.slot i s h), c.sep⟩
/-- a slot is emptied -/
theorem Cn.emptied (c : Cn K Z M σ H Δ F) (i : Nat) : Cn K Z M (σ.set i none) H (Δ.set i .un) F where
  bs := c.bs
  len := by rw [List.length_set, List.length_set, c.len]
  slot := fun j s h => by
    rcases get_set h with ⟨e, hl, e2⟩ | ⟨e, h'⟩
    · subst e2; exact True.intro
    · rw [List.getElem?_set_ne e]
      exact c.slot j s h'
  sep := fun j l a ds es hne h1 h2 h3 h4 => by
    rcases get_set h1 with ⟨_, _, e⟩ | ⟨n1, h1'⟩
    · cases e
    rcases get_set h2 with ⟨_, _, e⟩ | ⟨n2, h2'⟩
    · cases e
    rw [List.getElem?_set_ne n1] at h3
    rw [List.getElem?_set_ne n2] at h4
    exact c.sep j l a ds es hne h1' h2' h3 h4
theorem EndsOk.toAt {De : DE} {Dv : Ends} (e : Ex Z.F0 F) (eF : Ex F F0) (ok : EndsOk K Z F De Dv) : EndsOk K ⟨Z.R, F0⟩ F0 De Dv :=
  ⟨fun σ' H' Δ' M' F' e1 c => ok.nx σ' H' Δ' M' F' (eF.trans e1) (c.ofAt (e.trans eF)), fun v H' d M' F' e1 b => ok.rt v H' d M' F' (eF.trans e1) (b.ofAt (e.trans eF)),
   fun σ' H' Δ' M' F' e1 c => ok.bk σ' H' Δ' M' F' (eF.trans e1) (c.ofAt (e.trans eF)), fun σ' H' Δ' M' F' e1 c => ok.ct σ' H' Δ' M' F' (eF.trans e1) (c.ofAt (e.trans eF))⟩
end
/-- the ends of a suite with a name -/
def asEnds (i : Nat) (De : DE) : DE := { nx := fun Δ M => De.nx (Δ.set i .un) M, rt := De.rt, bk := fun Δ M => De.bk (Δ.set i .un) M, ct := fun Δ M => De.ct (Δ.set i .un) M }
/-- what the body of a try wishes of an exception -/
def asX (cat : List (Addr × Bool)) (i : Nat) (rs : Addr → Addr → List (Str × D) → RS) (Ψ : DXS) (De : DE) : DXS := fun C fs Δ1 M1 => ∃ b, (C, b) ∈ cat ∧
  (b = true → ∀ a, rs a C fs (asEnds i De) (Δ1.set i (.d (.ref a))) M1) ∧ (b = false → Ψ C fs Δ1 M1)
def onX (cat : List (Addr × Bool)) (rs : Addr → Addr → List (Str × D) → RS) (Ψ : DXS) (De : DE) : DXS := fun C fs Δ1 M1 => ∃ b, (C, b) ∈ cat ∧
  (b = true → ∀ a, rs a C fs De Δ1 M1) ∧ (b = false → Ψ C fs Δ1 M1)
def dTryAs (cat : List (Addr × Bool)) (i : Nat) (rb : DXS → RS) (rs : Addr → Addr → List (Str × D) → RS) (Ψ : DXS) : RS := fun De Δ M => rb (asX cat i rs Ψ De) De Δ M
def dTryOn (cat : List (Addr × Bool)) (rb : DXS → RS) (rs : Addr → Addr → List (Str × D) → RS) (Ψ : DXS) : RS := fun De Δ M => rb (onX cat rs Ψ De) De Δ M
theorem PSs.weak {X : Cx} {ss : List Stmt} {t t' : TS} (h : PSs X ss t) (k : ∀ D σ H, t' D σ H → t D σ H) : PSs X ss t' := ⟨fun pins s σ H D I z => h.run pins s σ H D I (k D σ H z)⟩
section
variable {X : Cx} {Z : Zx} {x n : Str} {c : Value} {cat : List (Addr × Bool)} {i : Nat} {body suite : List Stmt} {b₀ : Stmt} {np pos pos' : Pos} {W : WX} {Ψ : DXS} {rb : DXS → RS} {rs : Addr → Addr → List (Str × D) → RS}
/-- the body's term, one for all ways -/
def tBody (X : Cx) (body : List Stmt) (rb : DXS → RS) : WX → TS := fun W D σ H => ∃ (Z : Zx) (Ψ : DXS), XOk X.K Z W Ψ ∧ ∃ (M : Mem) (Δ : List Sl) (F : Hp) (De : DE), Cn X.K Z M σ H Δ F ∧ rb Ψ De Δ M ∧ EndsOk X.K Z F De D
def tSuite (X : Cx) (cat : List (Addr × Bool)) (rs : Addr → Addr → List (Str × D) → RS) : Addr → Value → Option Addr → TS := fun a cls d Dv σ H => ∃ (Z : Zx) (C : Addr) (fs : List (Str × D)), cls = .ref C ∧ (C, true) ∈ cat ∧ XRep X.K Z.F0 fs d ∧ ∃ (M : Mem) (Δ : List Sl) (F : Hp) (De : DE), Cn X.K Z M σ H Δ F ∧ rs a C fs De Δ M ∧ EndsOk X.K Z F De Dv
theorem pss_body (hb : ∀ (W : WX) (pn : List (Addr × Obj)) (xe : Value → Shared → Prop) (Z' : Zx) (Ψ' : DXS), Takes (X.tr pn xe) W → PassesOwn (model X.prog X.w) X.A X.env xe → XOk X.K Z' W Ψ' → QSs (X.tr pn xe) Z' body (rb Ψ'))
    (W : WX) (pn : List (Addr × Obj)) (xe : Value → Shared → Prop) (tk : Takes (X.tr pn xe) W) (po : PassesOwn (model X.prog X.w) X.A X.env xe) : PSs (X.tr pn xe) body (tBody X body rb W) := by
  refine ⟨fun pins s σ H D I h => ?_⟩
  obtain ⟨Z', Ψ', xo, M, Δ, F, De, c, k, ok⟩ := h
  obtain ⟨t, p, sim⟩ := hb W pn xe Z' Ψ' tk po xo
  exact p.run pins s σ H D I (sim M σ H Δ F De c k D ok)
theorem pss_suite (hsu : ∀ (a : Addr) (oe : Obj) (C : Addr) (d : Option Addr) (fs : List (Str × D)) (pn : List (Addr × Obj)) (Z' : Zx), (C, true) ∈ cat → Zc (.ref C) d oe → (∃ vs, oe.data = .fields vs) → XRep X.K Z'.F0 fs d → QSs (X.suite a ((a, oe) :: pn)) Z' (b₀ :: suite) (rs a C fs))
    (a : Addr) (oe : Obj) (cls : Value) (d : Option Addr) (pn : List (Addr × Obj)) (hz : Zc cls d oe) (hf : ∃ vs, oe.data = .fields vs) : PSs (X.suite a ((a, oe) :: pn)) (b₀ :: suite) (tSuite X cat rs a cls d) := by
  refine ⟨fun pins s σ H D I h => ?_⟩
  obtain ⟨Z', C, fs, e, hm, xr, M, Δ, F, De, c, k, ok⟩ := h
  subst e
  obtain ⟨t, p, sim⟩ := hsu a oe C d fs pn Z' hm hz hf xr
  exact p.run pins s σ H D I (sim M σ H Δ F De c k D ok)
theorem qs_try_as (hs : X.stack = X.env :: X.outer) (hf : X.env.frame = some X.env.locals) (hN : X.N.Nodup) (hi : X.N[i]? = some n) (hln : X.env.kindOf n = some .local) (hc : Names X x c) (hcat : ∀ C b, (C, b) ∈ cat → PySem.W.exmOne X.K (.ref C) c = some b) (tk : Takes X W) (xo : XOk X.K Z W Ψ)
    (hb : ∀ (W : WX) (pn : List (Addr × Obj)) (xe : Value → Shared → Prop) (Z' : Zx) (Ψ' : DXS), Takes (X.tr pn xe) W → PassesOwn (model X.prog X.w) X.A X.env xe → XOk X.K Z' W Ψ' → QSs (X.tr pn xe) Z' body (rb Ψ'))
    (hsu : ∀ (a : Addr) (oe : Obj) (C : Addr) (d : Option Addr) (fs : List (Str × D)) (pn : List (Addr × Obj)) (Z' : Zx), (C, true) ∈ cat → Zc (.ref C) d oe → (∃ vs, oe.data = .fields vs) → XRep X.K Z'.F0 fs d → QSs (X.suite a ((a, oe) :: pn)) Z' (b₀ :: suite) (rs a C fs)) :
    QS X Z (.Try body [.ExceptHandler (some (.Name x np)) (some n) (b₀ :: suite) pos'] [] [] pos) (dTryAs cat i rb rs Ψ) := by
  refine ⟨_, ps_try_as (tb := tBody X body rb) (ts := tSuite X cat rs) hs hf hN hi hln hc tk (fun W pn xe tk po => pss_body hb W pn xe tk po) (fun a oe cls d pn hz hf => pss_suite hsu a oe cls d pn hz hf), ?_⟩
  intro M σ H Δ F De cn k Dv ok
  have f0 := cn.bs.f0
  refine ⟨⟨Z.R, F⟩, asX cat i rs Ψ De, ?_, M, Δ, F, De, cn.toAt, k, ok.toAt f0 (Ex.refl _)⟩
  intro C fs Δ1 M1 dd σ1 H1 F1 c1 xr hx
  obtain ⟨b, e, hy, hn⟩ := hx
  have eF : Ex F F1 := c1.bs.f0
  refine ⟨b, hcat C b e, fun hb a na => ?_, fun hb => ?_⟩
  · refine ⟨⟨Z.R, F1⟩, C, fs, rfl, by rw [← hb]; exact e, xr, M1, Δ1.set i (.d (.ref a)), F1, asEnds i De, ?_, hy hb a, ?_⟩
    · exact ((c1.ofAt f0).toAt).set (d := .ref a) rfl i
    · refine EndsOk.toAt (F := F) f0 eF ⟨?_, ok.rt, ?_, ?_⟩
      · exact fun σ' H' Δ' M' F' e1 c' z => ok.nx _ _ _ _ _ e1 (c'.emptied i) z
      · exact fun σ' H' Δ' M' F' e1 c' z => ok.bk _ _ _ _ _ e1 (c'.emptied i) z
      · exact fun σ' H' Δ' M' F' e1 c' z => ok.ct _ _ _ _ _ e1 (c'.emptied i) z
  · exact xo C fs Δ1 M1 dd σ1 H1 F1 (c1.ofAt f0) xr (hn hb)
theorem qs_try_only (hs : X.stack = X.env :: X.outer) (hf : X.env.frame = some X.env.locals) (hc : Names X x c) (hcat : ∀ C b, (C, b) ∈ cat → PySem.W.exmOne X.K (.ref C) c = some b) (tk : Takes X W) (xo : XOk X.K Z W Ψ)
    (hb : ∀ (W : WX) (pn : List (Addr × Obj)) (xe : Value → Shared → Prop) (Z' : Zx) (Ψ' : DXS), Takes (X.tr pn xe) W → PassesOwn (model X.prog X.w) X.A X.env xe → XOk X.K Z' W Ψ' → QSs (X.tr pn xe) Z' body (rb Ψ'))
    (hsu : ∀ (a : Addr) (oe : Obj) (C : Addr) (d : Option Addr) (fs : List (Str × D)) (pn : List (Addr × Obj)) (Z' : Zx), (C, true) ∈ cat → Zc (.ref C) d oe → (∃ vs, oe.data = .fields vs) → XRep X.K Z'.F0 fs d → QSs (X.suite a ((a, oe) :: pn)) Z' (b₀ :: suite) (rs a C fs)) :
    QS X Z (.Try body [.ExceptHandler (some (.Name x np)) none (b₀ :: suite) pos'] [] [] pos) (dTryOn cat rb rs Ψ) := by
  refine ⟨_, ps_try_only (tb := tBody X body rb) (ts := tSuite X cat rs) hs hf hc tk (fun W pn xe tk po => pss_body hb W pn xe tk po) (fun a oe cls d pn hz hf => pss_suite hsu a oe cls d pn hz hf), ?_⟩
  intro M σ H Δ F De cn k Dv ok
  have f0 := cn.bs.f0
  refine ⟨⟨Z.R, F⟩, onX cat rs Ψ De, ?_, M, Δ, F, De, cn.toAt, k, ok.toAt f0 (Ex.refl _)⟩
  intro C fs Δ1 M1 dd σ1 H1 F1 c1 xr hx
  obtain ⟨b, e, hy, hn⟩ := hx
  have eF : Ex F F1 := c1.bs.f0
  refine ⟨b, hcat C b e, fun hb a na => ?_, fun hb => ?_⟩
  · exact ⟨⟨Z.R, F1⟩, C, fs, rfl, by rw [← hb]; exact e, xr, M1, Δ1, F1, De, (c1.ofAt f0).toAt, hy hb a, EndsOk.toAt (F := F) f0 eF ok⟩
  · exact xo C fs Δ1 M1 dd σ1 H1 F1 (c1.ofAt f0) xr (hn hb)
end
theorem cat_one {C c : Addr} (h : (C, true) ∈ [(c, true)]) : C = c := by
  have := List.mem_singleton.mp h
  exact congrArg Prod.fst this
/-- nothing leaves this try -/
theorem xok_none {K : PySem.W.Frag} {Z : Zx} : XOk K Z (fun _ _ _ _ => False) (fun _ _ _ _ => False) := fun _ _ _ _ _ _ _ _ _ _ k => k
/-- e.f in an except suite -/
def dXf (a : Addr) (fs : List (Str × D)) (f : Str) (r : RE) : RE := fun Δ M Φ => r Δ M fun x Δ1 M1 => match x with
  | .ref b => b = a ∧ ∃ d, fs.lookup f = some d ∧ Φ d Δ1 M1
  | _ => False
theorem lookup_rps {K : PySem.W.Frag} {F : Hp} : ∀ {fs : List (Str × D)} {vfs : List (Str × V)} {f : Str} {d : D}, vfs.map Prod.fst = fs.map Prod.fst → Rps K F (fs.map Prod.snd) (vfs.map Prod.snd) → fs.lookup f = some d → ∃ v, vfs.lookup f = some v ∧ Rp K F d v
  | [], _, _, _, _, _, h => by cases h
  | (g, e) :: fs, [], _, _, hn, _, _ => by cases hn
  | (g, e) :: fs, (g', u) :: vfs, f, d, hn, hr, h => by
    rw [List.map_cons, List.map_cons] at hn
    obtain ⟨e1, e2⟩ := List.cons.inj hn
    replace e1 : g' = g := e1
    subst e1
    obtain ⟨v, r, e3, h1, h2⟩ := hr
    obtain ⟨e4, e5⟩ := List.cons.inj e3
    replace e4 : u = v := e4
    subst e4
    rw [← e5] at h2
    rw [lookup_put']
    rw [lookup_put'] at h
    by_cases k : f = g'
    · rw [if_pos k] at h ⊢
      cases h
      exact ⟨u, rfl, h1⟩
    · rw [if_neg k] at h ⊢
      exact lookup_rps e2 h2 h
where
  lookup_put' {α : Type} {f g : Str} {y : α} {l : List (Str × α)} : ((f, y) :: l).lookup g = if g = f then some y else l.lookup g := by
    by_cases h : g = f
    · subst h
      simp [List.lookup]
    · have e : (g == f) = false := by simpa using h
      rw [if_neg h]
      simp [List.lookup, e]
theorem qe_xf {X : Cx} {Z : Zx} {a C : Addr} {oe : Obj} {d : Option Addr} {fs : List (Str × D)} {pn : List (Addr × Obj)} {e : Expr} {r : RE} {pos : Pos} {n : Str} (T : XfC X.K C) (hno : PySem.W.findIn X.K (.ref C) n = some none)
    (hz : Zc (.ref C) d oe) (hf : ∃ vs, oe.data = .fields vs) (xr : XRep X.K Z.F0 fs d) (he : QE (X.suite a ((a, oe) :: pn)) Z e r) (hb : attributeBase e n X.env (eval e X.env) = eval e X.env := by rfl) :
    QE (X.suite a ((a, oe) :: pn)) Z (.Attribute e n pos) (dXf a fs n r) := by
  obtain ⟨t, p, s⟩ := he
  refine ⟨_, pe_xf T hno hz hf p hb, fun M σ H Δ F Φ c h Q q => ?_⟩
  refine s M σ H Δ F _ c h _ fun v H1 x Δ1 M1 F1 e1 c1 r1 h1 => ?_
  cases x with
  | ref b =>
    obtain ⟨rfl, dd, hl, hΦ⟩ := h1
    cases d with
    | none =>
      have : fs = [] := xr
      subst this
      cases hl
    | some dx =>
      obtain ⟨vfs, g1, g2, g3⟩ := xr.mono c1.bs.f0
      obtain ⟨u, hu, ru⟩ := lookup_rps g2 g3 hl
      exact ⟨r1, rfl, dx, vfs, u, rfl, c1.bs.fH _ _ g1, hu, q u H1 dd Δ1 M1 F1 e1 c1 ru hΦ⟩
  | _ => exact h1.elim
end DL

set_option Elab.async false
set_option linter.all false
set_option maxRecDepth 100000
set_option maxHeartbeats 4000000
/-! Objects of own classes over data. -/
namespace DL
open PySem PySem.Spec PyProof.Rows L2
open Evl (Ex)
section
variable {K : PySem.W.Frag} {Z : Zx} {M : Mem} {σ : L2.St} {H F : Hp} {Δ : List Sl}
theorem Cn.newO (c : Cn K Z M σ H Δ F) {p : Addr} {o : OD} {u : HO} (hp : H p = none) (r : RpO K F o (some u)) : Cn K Z (updM M p o) σ (upd H p u) Δ F where
  bs := {
    f0 := c.bs.f0
    fH := (c.bs.newH hp _).fH
    rH := (c.bs.newH hp u).rH
    fr := c.bs.fr
    mm := fun a o' h => by
      by_cases e : a = p
      · subst e
        rw [updM_same] at h
        cases h
        exact ⟨c.bs.freeF hp, c.bs.freeR hp, by rw [upd_same]; exact r⟩
      · rw [updM_ne e] at h
        exact (c.bs.newH hp u).mm a o' h }
  len := c.len
  slot := fun i s h => by
    have k := (c.newH hp u).slot i s h
    cases s with
    | un => exact True.intro
    | d d => exact k
    | own es =>
      obtain ⟨a, ws, e, h1, h2, h3, h4, h5⟩ := k
      have g := c.slot i _ h
      obtain ⟨a', ws', e', g1, _⟩ := g
      rw [e] at e'
      cases e'
      exact ⟨a, ws, e, h1, h2, h3, h4, by rw [updM_ne (ne_of_none g1 hp)]; exact h5⟩
  sep := c.sep
theorem Cn.setO (c : Cn K Z M σ H Δ F) {p : Addr} {o o2 : OD} {u : HO} (hM : M p = some o) (r : RpO K F o2 (some u)) : Cn K Z (updM M p o2) σ (upd H p u) Δ F := by
  obtain ⟨m1, m2, m3⟩ := c.bs.mm p o hM
  refine ⟨⟨c.bs.f0, fun a u h => ?_, fun a u h => ?_, c.bs.fr, fun a u h => ?_⟩, c.len, fun i s h => ?_, c.sep⟩
  · have e : a ≠ p := fun e => by subst e; rw [m1] at h; cases h
    rw [upd_ne e]; exact c.bs.fH a _ h
  · have e : a ≠ p := fun e => by subst e; rw [m2] at h; cases h
    rw [upd_ne e]; exact c.bs.rH a _ h
  · by_cases e : a = p
    · subst e
      rw [updM_same] at h
      cases h
      exact ⟨m1, m2, by rw [upd_same]; exact r⟩
    · rw [updM_ne e] at h
      rw [upd_ne e]; exact c.bs.mm a _ h
  · have k := c.slot i s h
    cases s with
    | un => exact True.intro
    | d d => exact k
    | own es =>
      obtain ⟨a, ws, e, h1, h2, h3, h4, h5⟩ := k
      have ne : a ≠ p := fun e => by subst e; rw [h5] at hM; cases hM
      exact ⟨a, ws, e, by rw [upd_ne ne]; exact h1, h2, h3, h4, by rw [updM_ne ne]; exact h5⟩
theorem Bs.insM (b : Bs K Z M H F) {p C : Addr} {fs : List (Str × D)} (h : M p = some (.ins C fs)) : ∃ dx vfs, H p = some (.ins C dx vfs) ∧ vfs.map Prod.fst = fs.map Prod.fst ∧ Rps K F (fs.map Prod.snd) (vfs.map Prod.snd) := (b.mm p _ h).2.2
theorem lookup_none {α β : Type} {f : Str} : ∀ {fs : List (Str × α)} {gs : List (Str × β)}, gs.map Prod.fst = fs.map Prod.fst → fs.lookup f = none → gs.lookup f = none
  | [], [], _, _ => rfl
  | [], _ :: _, hn, _ => by cases hn
  | (g, e) :: fs, [], hn, _ => by cases hn
  | (g, e) :: fs, (g', u) :: gs, hn, h => by
    rw [List.map_cons, List.map_cons] at hn
    obtain ⟨e1, e2⟩ := List.cons.inj hn
    replace e1 : g' = g := e1
    subst e1
    rw [lookup_rps.lookup_put'] at h ⊢
    by_cases k : f = g'
    · rw [if_pos k] at h; cases h
    · rw [if_neg k] at h ⊢
      exact lookup_none e2 h
/-- a field is stored -/
def putD (f : Str) (d : D) : List (Str × D) → List (Str × D)
  | [] => [(f, d)]
  | (g, x) :: r => if g = f then (g, d) :: r else (g, x) :: putD f d r
theorem put_rps {f : Str} {d : D} {v : V} (r : Rp K F d v) : ∀ {fs : List (Str × D)} {vfs : List (Str × V)}, vfs.map Prod.fst = fs.map Prod.fst → Rps K F (fs.map Prod.snd) (vfs.map Prod.snd) →
    (putF f v vfs).map Prod.fst = (putD f d fs).map Prod.fst ∧ Rps K F ((putD f d fs).map Prod.snd) ((putF f v vfs).map Prod.snd)
  | [], [], _, _ => ⟨rfl, rps_one r⟩
  | [], _ :: _, hn, _ => by cases hn
  | (g, e) :: fs, [], hn, _ => by cases hn
  | (g, e) :: fs, (g', u) :: vfs, hn, hr => by
    rw [List.map_cons, List.map_cons] at hn
    obtain ⟨e1, e2⟩ := List.cons.inj hn
    replace e1 : g' = g := e1
    subst e1
    obtain ⟨v', r', e3, h1, h2⟩ := hr
    obtain ⟨e4, e5⟩ := List.cons.inj e3
    replace e4 : u = v' := e4
    subst e4
    rw [← e5] at h2
    unfold putF putD
    by_cases k : g' = f
    · rw [if_pos k, if_pos k]
      exact ⟨by rw [List.map_cons, List.map_cons, e2], v, _, rfl, r, h2⟩
    · rw [if_neg k, if_neg k]
      obtain ⟨q1, q2⟩ := put_rps r e2 h2
      exact ⟨by rw [List.map_cons, List.map_cons, q1], u, _, rfl, h1, q2⟩
end
section
variable {X : Cx} {Z : Zx} {e o : Expr} {ro r : RE} {pos apos : Pos} {es : List Expr} {rl : RA} {n k : Nat} {C f : Addr} {fd : FuncData} {ps : List Str} {x m : Str} {p : Pos} {S : DSp} {Ψ : DX} {E : XK}
/-- o.f -/
def dFld (C : Addr) (f : Str) (r : RE) : RE := fun Δ M Φ => r Δ M fun x Δ1 M1 => match x with
  | .ref a => ∃ fs d, M1 a = some (.ins C fs) ∧ fs.lookup f = some d ∧ Φ d Δ1 M1
  | _ => False
theorem qe_fld {f : Str} (c : Cls X.K C) (hn : NoAttr X.K C f) (h : QE X Z e r) (hb : attributeBase e f X.env (eval e X.env) = eval e X.env := by rfl) : QE X Z (.Attribute e f pos) (dFld C f r) := by
  obtain ⟨t, p, s⟩ := h
  refine ⟨_, pe_fld p hb, fun M σ H Δ F Φ cn h Q q => ?_⟩
  refine s M σ H Δ F _ cn h _ fun v H1 x Δ1 M1 F1 e1 c1 r1 h1 => ?_
  cases x with
  | ref a =>
    obtain ⟨fs, d, hM, hl, hΦ⟩ := h1
    obtain ⟨dx, vfs, g1, g2, g3⟩ := c1.bs.insM hM
    obtain ⟨u, hu, ru⟩ := lookup_rps g2 g3 hl
    exact ⟨a, C, dx, vfs, u, r1, g1, c, hn, hu, q u H1 d Δ1 M1 F1 e1 c1 ru hΦ⟩
  | _ => exact h1.elim
/-- o.f = e -/
def dSetF (C : Addr) (f : Str) (ro rv : RE) : RS := fun De Δ M => rv Δ M fun y Δ1 M1 => ro Δ1 M1 fun x Δ2 M2 => match x with
  | .ref a => ∃ fs, M2 a = some (.ins C fs) ∧ fs.length < 1000 ∧ De.nx Δ2 (updM M2 a (.ins C (putD f y fs)))
  | _ => False
theorem qs_fld {f : Str} {p' : Pos} (c : Cls X.K C) (hn : NoAttr X.K C f) (ho : QE X Z o ro) (hv : QE X Z e r) (hs : swapsWith e (some (.Attribute o f p')) pos.line X.env = pure false := by rfl) : QS X Z (.Assign [.Attribute o f p'] e pos) (dSetF C f ro r) := by
  obtain ⟨t, p, s⟩ := ho
  obtain ⟨tv, pv, sv⟩ := hv
  refine ⟨_, ps_fld p pv hs, fun M σ H Δ F De cn h Dv ok => ?_⟩
  refine sv M σ H Δ F _ cn h _ fun v H1 y Δ1 M1 F1 e1 c1 r1 h1 => ?_
  refine s M1 σ H1 Δ1 F1 _ c1 h1 _ fun w H2 x Δ2 M2 F2 e2 c2 r2 h2 => ?_
  cases x with
  | ref a =>
    obtain ⟨fs, hM, hl, hΦ⟩ := h2
    obtain ⟨dx, vfs, g1, g2, g3⟩ := c2.bs.insM hM
    have len : vfs.length = fs.length := by
      have := congrArg List.length g2
      rw [List.length_map, List.length_map] at this
      exact this
    obtain ⟨q1, q2⟩ := put_rps (f := f) (rp_mono e2 _ _ r1) g2 g3
    exact ⟨a, C, dx, vfs, r2, g1, c, hn, by rw [len]; exact hl, ok.nx _ _ _ _ F2 (e1.trans e2) (c2.setO (o2 := .ins C (putD f y fs)) hM ⟨dx, _, rfl, q1, q2⟩) hΦ⟩
  | _ => exact h2.elim
/-- o.f op= e -/
def dAugF (C : Addr) (f : Str) (dr : D → D → (D → Prop) → Prop) (ro rv : RE) : RS := fun De Δ M => ro Δ M fun x Δ1 M1 => match x with
  | .ref a => ∃ fs d, M1 a = some (.ins C fs) ∧ fs.lookup f = some d ∧ rv Δ1 M1 fun y Δ2 M2 => dr d y fun z => ∃ fs', M2 a = some (.ins C fs') ∧ fs'.length < 1000 ∧ De.nx Δ2 (updM M2 a (.ins C (putD f z fs')))
  | _ => False
theorem qs_augF {f : Str} {tp : Pos} {op : Operator} {rd : R2} {dr : D → D → (D → Prop) → Prop} (c : Cls X.K C) (hn : NoAttr X.K C f) (hop : InOp X op rd) (hd : OpD X.K rd dr) (ho : QE X Z o ro) (hv : QE X Z e r) : QS X Z (.AugAssign (.Attribute o f tp) op e pos) (dAugF C f dr ro r) := by
  obtain ⟨t, p, s⟩ := ho
  obtain ⟨tv, pv, sv⟩ := hv
  refine ⟨_, ps_fldaug p pv hop, fun M σ H Δ F De cn h Dv ok => ?_⟩
  refine s M σ H Δ F _ cn h _ fun v H1 x Δ1 M1 F1 e1 c1 r1 h1 => ?_
  cases x with
  | ref a =>
    obtain ⟨fs, d, hM, hl, h2⟩ := h1
    obtain ⟨dx, vfs, g1, g2, g3⟩ := c1.bs.insM hM
    obtain ⟨u, hu, ru⟩ := lookup_rps g2 g3 hl
    refine ⟨a, C, dx, vfs, u, r1, g1, c, hn, hu, ?_⟩
    refine sv M1 σ H1 Δ1 F1 _ c1 h2 _ fun w H2 y Δ2 M2 F2 e2 c2 r2 h3 => ?_
    refine hd Z M2 σ H2 Δ2 F2 d y u w _ c2 (rp_mono e2 _ _ ru) r2 h3 _ fun z H3 dz F3 e3 c3 r3 h4 => ?_
    obtain ⟨fs', hM', hl', hΦ⟩ := h4
    obtain ⟨dx', vfs', k1, k2, k3⟩ := c3.bs.insM hM'
    have len : vfs'.length = fs'.length := by
      have := congrArg List.length k2
      rw [List.length_map, List.length_map] at this
      exact this
    obtain ⟨q1, q2⟩ := put_rps (f := f) r3 k2 k3
    exact ⟨dx', vfs', k1, by rw [len]; exact hl', ok.nx _ _ _ _ F3 ((e1.trans e2).trans e3) (c3.setO (o2 := .ins C (putD f dz fs')) hM' ⟨dx', _, rfl, q1, q2⟩) hΦ⟩
  | _ => exact h1.elim
/-- o.m(..) -/
def dMethX (C : Addr) (m : Str) (S : DSp) (Ψ : DX) (ro : RE) (rl : RA) : RE := fun Δ M Φ => ro Δ M fun x Δ1 M1 => match x with
  | .ref a => (∃ fs, M1 a = some (.ins C fs) ∧ fs.lookup m = none) ∧ rl Δ1 M1 fun ds Δ2 M2 => S (.ref a :: ds) M2 (fun d M3 => Φ d Δ2 M3) Ψ
  | _ => False
abbrev dMeth (C : Addr) (m : Str) (S : DSp) (ro : RE) (rl : RA) : RE := dMethX C m S noX ro rl
theorem sim_meth {K : PySem.W.Frag} {t : TE} {ta : TA} (xo : XOk K Z (flatW E) (flatX Ψ)) (ho : Sim K Z t ro) (h : SimA K Z n ta rl) : Sim K Z (tMeth C m (spOf K S) [] E t ta) (dMethX C m S Ψ ro rl) := by
  intro M σ H Δ F Φ c k Q q
  refine ho M σ H Δ F _ c k _ fun v H1 x Δ1 M1 F1 e1 c1 r1 h1 => ?_
  cases x with
  | ref a =>
    obtain ⟨⟨fs, hM, hl⟩, h2⟩ := h1
    obtain ⟨dx, vfs, g1, g2, g3⟩ := c1.bs.insM hM
    refine ⟨a, dx, vfs, r1, g1, lookup_none g2 hl, ?_⟩
    refine h M1 σ H1 Δ1 F1 _ c1 h2 _ fun vs H2 ds Δ2 M2 F2 e2 c2 r2 hn h3 => ?_
    show spOf K S (v :: (vs ++ [])) H2 Q E
    rw [List.append_nil]
    refine ⟨restAt Z σ Δ2 H2, F2, M2, .ref a :: ds, _, _, call_in c2, ⟨v, vs, rfl, r1, r2⟩, h3, fun u H' d M' F' b rr hΦ => ?_, fun C fs M' dd H' F' b rr hΨ => ?_⟩
    · exact q u H' d Δ2 M' F' ((e1.trans e2).trans b.f0) (call_out c2 b) rr hΦ
    · exact xo C fs Δ2 M' dd σ H' F' (call_out c2 b) rr hΨ
  | _ => exact h1.elim
theorem xok_E0 {K : PySem.W.Frag} : XOk K Z (flatW E0) (flatX noX) := fun _ _ _ _ _ _ _ _ _ _ k => k.elim
theorem qe_meth {pl : Sem Bool} (c : Cls X.K C) (hm : Meth X.K C m f) (Fn : FnOk X.prog X.w X.K X.mg X.base CX0 k f fd ps (spOf X.K S)) (hr : Room k X.A) (hb : Binds X.K fd ps []) (ho : QE X Z o ro) (ha : QA X Z n (e :: es) rl)
    (hst : starEach (e :: es) X.env = (false, eval e X.env) :: starEach es X.env := by rfl) (hpl : (backTo pos (starEach es X.env)).any (·.1) = false := by rfl)
    (ht : eval (.Call (.Attribute o m apos) (e :: es) [] pos) X.env = (do
      let ov ← eval o X.env
      standAt apos.atName
      let (f, first) ← holding [ov] (getMethod ov m pl)
      callWith pos f first (backTo pos (starEach (e :: es) X.env)) (backToKw pos (keywordEach [] X.env))) := by rfl) : QE X Z (.Call (.Attribute o m apos) (e :: es) [] pos) (dMeth C m S ro rl) := by
  obtain ⟨t, p, s⟩ := ho
  obtain ⟨ta, pa, sa⟩ := ha
  exact ⟨_, pe_meth p c hm Fn hr hb .nil pass0 pa hst hpl ht, sim_meth xok_E0 s sa⟩
theorem qe_methX {pl : Sem Bool} (tk : Takes X (flatW E)) (xo : XOk X.K Z (flatW E) (flatX Ψ)) (c : Cls X.K C) (hm : Meth X.K C m f) (Fn : FnOk X.prog X.w X.K X.mg X.base (L2.CX X.prog X.w) k f fd ps (spOf X.K S)) (hr : Room k X.A) (hb : Binds X.K fd ps []) (ho : QE X Z o ro) (ha : QA X Z n (e :: es) rl)
    (hst : starEach (e :: es) X.env = (false, eval e X.env) :: starEach es X.env := by rfl) (hpl : (backTo pos (starEach es X.env)).any (·.1) = false := by rfl)
    (ht : eval (.Call (.Attribute o m apos) (e :: es) [] pos) X.env = (do
      let ov ← eval o X.env
      standAt apos.atName
      let (f, first) ← holding [ov] (getMethod ov m pl)
      callWith pos f first (backTo pos (starEach (e :: es) X.env)) (backToKw pos (keywordEach [] X.env))) := by rfl) : QE X Z (.Call (.Attribute o m apos) (e :: es) [] pos) (dMethX C m S Ψ ro rl) := by
  obtain ⟨t, p, s⟩ := ho
  obtain ⟨ta, pa, sa⟩ := ha
  exact ⟨_, pe_meth p c hm Fn hr hb .nil (passes_call tk fun _ _ _ _ h => h) pa hst hpl ht, sim_meth xo s sa⟩
theorem simA_nil {K : PySem.W.Frag} : SimA K Z 0 tNil dNil := fun M σ H Δ F Φ c h Q q => q [] H [] Δ M F (Ex.refl _) c rfl rfl h
theorem qe_meth0 {pl : Sem Bool} (c : Cls X.K C) (hm : Meth X.K C m f) (Fn : FnOk X.prog X.w X.K X.mg X.base CX0 k f fd ps (spOf X.K S)) (hr : Room k X.A) (hb : Binds X.K fd ps []) (ho : QE X Z o ro)
    (ht : eval (.Call (.Attribute o m apos) [] [] pos) X.env = (do
      let ov ← eval o X.env
      standAt apos.atName
      let (f, first) ← holding [ov] (getMethod ov m pl)
      callWith pos f first (backTo pos (starEach [] X.env)) (backToKw pos (keywordEach [] X.env))) := by rfl) : QE X Z (.Call (.Attribute o m apos) [] [] pos) (dMeth C m S ro dNil) := by
  obtain ⟨t, p, s⟩ := ho
  exact ⟨_, pe_meth0 p c hm Fn hr hb .nil pass0 ht, sim_meth xok_E0 s simA_nil⟩
theorem qe_methX0 {pl : Sem Bool} (tk : Takes X (flatW E)) (xo : XOk X.K Z (flatW E) (flatX Ψ)) (c : Cls X.K C) (hm : Meth X.K C m f) (Fn : FnOk X.prog X.w X.K X.mg X.base (L2.CX X.prog X.w) k f fd ps (spOf X.K S)) (hr : Room k X.A) (hb : Binds X.K fd ps []) (ho : QE X Z o ro)
    (ht : eval (.Call (.Attribute o m apos) [] [] pos) X.env = (do
      let ov ← eval o X.env
      standAt apos.atName
      let (f, first) ← holding [ov] (getMethod ov m pl)
      callWith pos f first (backTo pos (starEach [] X.env)) (backToKw pos (keywordEach [] X.env))) := by rfl) : QE X Z (.Call (.Attribute o m apos) [] [] pos) (dMethX C m S Ψ ro dNil) := by
  obtain ⟨t, p, s⟩ := ho
  exact ⟨_, pe_meth0 p c hm Fn hr hb .nil (passes_call tk fun _ _ _ _ h => h) ht, sim_meth xo s simA_nil⟩
/-- C(..) -/
def dMakeX (C : Addr) (S : DSp) (Ψ : DX) (rl : RA) : RE := fun Δ M Φ => rl Δ M fun ds Δ1 M1 => ∀ x, M1 x = none → S (.ref x :: ds) (updM M1 x (.ins C [])) (fun d M2 => d.isNon = true ∧ Φ (.ref x) Δ1 M2) Ψ
abbrev dMake (C : Addr) (S : DSp) (rl : RA) : RE := dMakeX C S noX rl
theorem sim_make {K : PySem.W.Frag} {ta : TA} (xo : XOk K Z (flatW E) (flatX Ψ)) (h : SimA K Z n ta rl) : Sim K Z (tMake C (spOf K S) [] E ta) (dMakeX C S Ψ rl) := by
  intro M σ H Δ F Φ c k Q q
  refine h M σ H Δ F _ c k _ fun vs H1 ds Δ1 M1 F1 e1 c1 r1 hn h1 => fun x dx hx hdx hne => ?_
  show spOf K S (.ref x :: (vs ++ [])) _ _ E
  rw [List.append_nil]
  have c2 := c1.newH hdx (.own x)
  have hx2 : upd H1 dx (.own x) x = none := by rw [upd_ne (fun z => hne z.symm)]; exact hx
  have c3 := c2.newO (o := .ins C []) (u := .ins C dx []) hx2 ⟨dx, [], rfl, rfl, rfl⟩
  refine ⟨restAt Z σ Δ1 (upd (upd H1 dx (.own x)) x (.ins C dx [])), F1, _, .ref x :: ds, _, _, call_in c3, ⟨.ref x, vs, rfl, rfl, r1⟩, h1 x (c1.bs.freeM hx), fun u H' d M' F' b rr hΦ => ?_, fun C fs M' dd H' F' b rr hΨ => ?_⟩
  · refine ⟨?_, q (.ref x) H' (.ref x) Δ1 M' F' (e1.trans b.f0) (call_out c3 b) rfl hΦ.2⟩
    have := rp_isNon rr
    rw [hΦ.1] at this
    exact of_decide_eq_true this
  · exact xo C fs Δ1 M' dd σ H' F' (call_out c3 b) rr hΨ
theorem qe_make (Mc : Mk X.K C f) (Fn : FnOk X.prog X.w X.K X.mg X.base CX0 k f fd ps (spOf X.K S)) (hr : Room (k + 1) X.A) (hg : Gl X x) (hm : X.mg x = some (.ref C)) (hb : Binds X.K fd ps []) (ha : QA X Z n (e :: es) rl)
    (hdb : (x == ("__debug__" : Str)) = false := by decide) (he : starEach (e :: es) X.env = (false, eval e X.env) :: starEach es X.env := by rfl) (hpl : (backTo pos (starEach es X.env)).any (·.1) = false := by rfl) : QE X Z (.Call (.Name x p) (e :: es) [] pos) (dMake C S rl) := by
  obtain ⟨ta, pa, sa⟩ := ha
  exact ⟨_, pe_make Mc Fn hr hg hm hb .nil pass0 pa hdb he hpl, sim_make xok_E0 sa⟩
theorem qe_makeX (tk : Takes X (flatW E)) (xo : XOk X.K Z (flatW E) (flatX Ψ)) (Mc : Mk X.K C f) (Fn : FnOk X.prog X.w X.K X.mg X.base (L2.CX X.prog X.w) k f fd ps (spOf X.K S)) (hr : Room (k + 1) X.A) (hg : Gl X x) (hm : X.mg x = some (.ref C)) (hb : Binds X.K fd ps []) (ha : QA X Z n (e :: es) rl)
    (hdb : (x == ("__debug__" : Str)) = false := by decide) (he : starEach (e :: es) X.env = (false, eval e X.env) :: starEach es X.env := by rfl) (hpl : (backTo pos (starEach es X.env)).any (·.1) = false := by rfl) : QE X Z (.Call (.Name x p) (e :: es) [] pos) (dMakeX C S Ψ rl) := by
  obtain ⟨ta, pa, sa⟩ := ha
  exact ⟨_, pe_make Mc Fn hr hg hm hb .nil (passes_call tk fun _ _ _ _ h => h) pa hdb he hpl, sim_make xo sa⟩
end
end DL

set_option Elab.async false
set_option linter.all false
set_option maxRecDepth 100000
set_option maxHeartbeats 4000000
/-! Texts; lists wherever they are (frozen, or in memory). -/
namespace DL
open PySem PySem.Spec PyProof.Rows L2
open Evl (Ex)
/-- the items of a list, frozen or in memory -/
def Res (M : Mem) (d : D) (ds : List D) : Prop := match d with
  | .lst es => es = ds
  | .ref p => M p = some (.lst ds)
  | _ => False
section
variable {K : PySem.W.Frag} {Z : Zx} {M : Mem} {σ : L2.St} {H F : Hp} {Δ : List Sl}
theorem Cn.res (c : Cn K Z M σ H Δ F) {d : D} {v : V} {ds : List D} (r : Rp K F d v) (h : Res M d ds) : ∃ p vs, v = .ref p ∧ H p = some (.lst vs) ∧ Rps K F ds vs := by
  cases d with
  | lst es =>
    obtain ⟨p, vs, e, g1, g2⟩ := r
    have : es = ds := h
    subst this
    exact ⟨p, vs, e, c.bs.fH _ _ g1, g2⟩
  | ref p =>
    obtain ⟨vs, g1, g2⟩ := c.bs.lstM h
    exact ⟨p, vs, r, g1, g2⟩
  | _ => exact h.elim
end
section
variable {X : Cx} {Z : Zx} {e a b o : Expr} {ra rb r : RE} {pos apos : Pos} {es : List Expr} {rl : RA} {n : Nat} {K : PySem.W.Frag}

/-! ### slices -/
abbrev RO := List Sl → Mem → (Option Int → List Sl → Mem → Prop) → Prop
def SimO (K : PySem.W.Frag) (Z : Zx) (t : TO) (r : RO) : Prop := ∀ (M : Mem) (σ : L2.St) (H : Hp) (Δ : List Sl) (F : Hp) (Φ : Option Int → List Sl → Mem → Prop), Cn K Z M σ H Δ F → r Δ M Φ →
  ∀ Q : Option Int → Hp → Prop, (∀ b H' Δ' M' F', Ex F F' → Cn K Z M' σ H' Δ' F' → Φ b Δ' M' → Q b H') → t σ H Q
def QO (X : Cx) (Z : Zx) (e : Option Expr) (r : RO) : Prop := ∃ t, PO X e t ∧ SimO X.K Z t r
def dNoP : RO := fun Δ M Φ => Φ none Δ M
def dPart (r : RE) : RO := fun Δ M Φ => r Δ M fun x Δ1 M1 => match x with
  | .int i => Φ (some i) Δ1 M1
  | _ => False
theorem qo_none : QO X Z none dNoP := ⟨_, po_none, fun M σ H Δ F Φ c h Q q => q none H Δ M F (Ex.refl _) c h⟩
theorem qo_some (h : QE X Z e r) : QO X Z (some e) (dPart r) := by
  obtain ⟨t, p, s⟩ := h
  refine ⟨_, po_some p, fun M σ H Δ F Φ c h Q q => ?_⟩
  refine s M σ H Δ F _ c h _ fun v H1 x Δ1 M1 F1 e1 c1 r1 h1 => ?_
  cases x with
  | int i => exact ⟨i, r1, q _ H1 Δ1 M1 F1 e1 c1 h1⟩
  | _ => exact h1.elim
/-- the part of a list -/
def cutD (ds : List D) (lo hi : Option Int) : List D := (ds.drop (HT.sIx ds.length 0 lo)).take (HT.sIx ds.length ds.length hi - HT.sIx ds.length 0 lo)
def dSl (r : RE) (rl rh : RO) : RE := fun Δ M Φ => r Δ M fun x Δ1 M1 => rl Δ1 M1 fun lo Δ2 M2 => rh Δ2 M2 fun hi Δ3 M3 => match x with
  | .str z => z.length ≤ sizeLine ∧ Φ (.str (cutS z lo hi)) Δ3 M3
  | .lst ds => Φ (.lst (cutD ds lo hi)) Δ3 M3
  | .ref p => ∃ ds, M3 p = some (.lst ds) ∧ Φ (.lst (cutD ds lo hi)) Δ3 M3
  | _ => False
theorem sl_all : SlR X (fun x lo hi H Q => rSlS x lo hi H Q ∨ rSlL X.K x lo hi H Q) := SlR.or sl_str sl_list
theorem qe_sl {lo hi : Option Expr} {rl rh : RO} {p2 : Pos} (h : QE X Z e r) (hl : QO X Z lo rl) (hh : QO X Z hi rh) : QE X Z (.Subscript e (.Slice lo hi none p2) pos) (dSl r rl rh) := by
  obtain ⟨t, p, s⟩ := h
  obtain ⟨tl, pl, sl⟩ := hl
  obtain ⟨th, ph, sh⟩ := hh
  refine ⟨_, pe_slice sl_all p pl ph, fun M σ H Δ F Φ c h Q q => ?_⟩
  refine s M σ H Δ F _ c h _ fun v H1 x Δ1 M1 F1 e1 c1 r1 h1 => ?_
  refine sl M1 σ H1 Δ1 F1 _ c1 h1 _ fun lo H2 Δ2 M2 F2 e2 c2 h2 => ?_
  refine sh M2 σ H2 Δ2 F2 _ c2 h2 _ fun hi H3 Δ3 M3 F3 e3 c3 h3 => ?_
  have r3 : Rp X.K F3 x v := rp_mono (e2.trans e3) _ _ r1
  have eF := (e1.trans e2).trans e3
  have key : ∀ ds, Res M3 x ds → Φ (.lst (cutD ds lo hi)) Δ3 M3 → rSlL X.K v lo hi H3 Q := fun ds hr hΦ => by
    obtain ⟨p, vs, ev, g1, g2⟩ := c3.res r3 hr
    refine ⟨p, vs, ev, SqL.of g1, fun p' hp => ?_⟩
    have g3 : Rps X.K F3 (cutD ds lo hi) (cutV vs lo hi) := by
      unfold cutD cutV
      rw [rps_len g2]
      exact rps_take _ (rps_drop _ g2)
    exact q _ _ (.lst (cutD ds lo hi)) Δ3 M3 _ (eF.trans (c3.bs.exF hp _)) (c3.new hp _) ⟨p', _, rfl, upd_same, rps_mono (c3.bs.exF hp _) _ _ g3⟩ hΦ
  cases x with
  | str z => exact .inl ⟨z, r3, h3.1, q _ H3 (.str _) Δ3 M3 F3 eF c3 rfl h3.2⟩
  | lst ds => exact .inr (key ds rfl h3)
  | ref p =>
    obtain ⟨ds, hM, hΦ⟩ := h3
    exact .inr (key ds hM hΦ)
  | _ => exact h3.elim

/-! ### len, items, truth: lists anywhere -/
def dLenR (r : RE) : RE := fun Δ M Φ => r Δ M fun x Δ1 M1 => match x with
  | .ref p => ∃ ds, M1 p = some (.lst ds) ∧ Φ (.int (ds.length : Nat)) Δ1 M1
  | x => dLen [x] fun d => Φ d Δ1 M1
theorem qe_lenR {p : Pos} (hg : Gl X "len") (hm : X.mg "len" = none) (h : QE X Z e r) (he : starEach [e] X.env = (false, eval e X.env) :: starEach [] X.env := by rfl) (hpl : (backTo pos (starEach [] X.env)).any (·.1) = false := by rfl) :
    QE X Z (.Call (.Name "len" p) [e] [] pos) (dLenR r) := by
  obtain ⟨t, pa, s⟩ := h
  refine ⟨_, pe_callB cr_lenAll hg hm boot_len (pa_cons pa pa_nil he) (by decide) (by decide) he hpl, fun M σ H Δ F Φ c h Q q => ?_⟩
  refine s M σ H Δ F _ c h _ fun v H1 x Δ1 M1 F1 e1 c1 r1 h1 => ?_
  have gen : dLen [x] (fun d => Φ d Δ1 M1) → rLenAll X.K [v] H1 Q := fun k => cd_len Z M1 σ H1 Δ1 F1 [x] [v] _ c1 (rps_one r1) k Q fun u H2 d F2 e2 c2 r2 k2 => q u H2 d Δ1 M1 F2 (e1.trans e2) c2 r2 k2
  cases x with
  | ref p =>
    obtain ⟨ds, hM, hΦ⟩ := h1
    obtain ⟨p', vs, ev, g1, g2⟩ := c1.res (d := .ref p) r1 hM
    refine .inl ⟨p', vs, by rw [ev], .inl (SqL.of g1), ?_⟩
    rw [rps_len g2]
    exact q _ H1 (.int _) Δ1 M1 F1 e1 c1 rfl hΦ
  | _ => exact gen h1
def dIxR (ra rb : RE) : RE := fun Δ M Φ => ra Δ M fun x Δ1 M1 => rb Δ1 M1 fun y Δ2 M2 => match x, y with
  | .ref p, .int i => ∃ ds, M2 p = some (.lst ds) ∧ ∃ d, atI ds i = some d ∧ Φ d Δ2 M2
  | x, y => dIx x y fun d => Φ d Δ2 M2
def dTruthR (r : RE) : RT := fun Δ M Φ => r Δ M fun x Δ1 M1 => match x with
  | .ref p => ∃ ds, M1 p = some (.lst ds) ∧ bs (!ds.isEmpty) fun k => Φ k Δ1 M1
  | .bl k => bs k fun k => Φ k Δ1 M1
  | .int i => bs (i != 0) fun k => Φ k Δ1 M1
  | .str z => z.length ≤ sizeLine ∧ bs ((z.length : Int) != 0) fun k => Φ k Δ1 M1
  | .lst ds => bs (!ds.isEmpty) fun k => Φ k Δ1 M1
  | .tup ds => bs (!ds.isEmpty) fun k => Φ k Δ1 M1
  | .non => Φ false Δ1 M1
  | _ => False
theorem qt_truthR (h : QE X Z e r) (he : ∀ whole, isTrue e X.env whole = (do let v ← whole; standAt e.pos; holding [v] (truthy v)) := by intro _; rfl) : QT X Z e (dTruthR r) := by
  obtain ⟨t, p, s⟩ := h
  refine ⟨_, pt_truth p he, fun M σ H Δ F Φ c h Q q => ?_⟩
  refine s M σ H Δ F _ c h _ fun v H1 x Δ1 M1 F1 e1 c1 r1 h1 => ?_
  cases x with
  | bl k => rw [show v = .bl k from r1]; exact ⟨k, rfl, q k H1 Δ1 M1 F1 e1 c1 (bs_of h1)⟩
  | int i => rw [show v = .int i from r1]; exact ⟨_, rfl, q _ H1 Δ1 M1 F1 e1 c1 (bs_of h1)⟩
  | str z => rw [show v = .str z from r1]; exact ⟨_, ⟨h1.1, rfl⟩, q _ H1 Δ1 M1 F1 e1 c1 (bs_of h1.2)⟩
  | non => rw [show v = .non from r1]; exact ⟨_, rfl, q _ H1 Δ1 M1 F1 e1 c1 h1⟩
  | lst ds =>
    obtain ⟨p, vs, e2, g1, g2⟩ := r1
    rw [e2]
    exact ⟨!ds.isEmpty, .inl ⟨vs, SqL.of (c1.bs.fH _ _ g1), by rw [rps_empty g2]⟩, q _ H1 Δ1 M1 F1 e1 c1 (bs_of h1)⟩
  | tup ds =>
    obtain ⟨p, vs, e2, g1, g2⟩ := r1
    rw [e2]
    exact ⟨!ds.isEmpty, .inr (.inl ⟨vs, Evl.ex_t c1.bs.fH g1, by rw [rps_empty g2]⟩), q _ H1 Δ1 M1 F1 e1 c1 (bs_of h1)⟩
  | ref p =>
    obtain ⟨ds, hM, hb⟩ := h1
    obtain ⟨p', vs, ev, g1, g2⟩ := c1.res (d := .ref p) r1 hM
    rw [ev]
    exact ⟨!ds.isEmpty, .inl ⟨vs, SqL.of g1, by rw [rps_empty g2]⟩, q _ H1 Δ1 M1 F1 e1 c1 (bs_of hb)⟩
  | _ => exact h1.elim
/-- a + b of lists anywhere, a new list -/
def dCatR (ra rb : RE) : RA := fun Δ M Φ => ra Δ M fun x Δ1 M1 => rb Δ1 M1 fun y Δ2 M2 => ∃ ds es, Res M2 x ds ∧ Res M2 y es ∧ ds.length + es.length ≤ sizeLine ∧ Φ (ds ++ es) Δ2 M2
theorem ql_catR (ha : QE X Z a ra) (hb : QE X Z b rb) : QL X Z (.BinOp a .Add b pos) (dCatR ra rb) := by
  obtain ⟨ta, pa, sa⟩ := ha
  obtain ⟨tb, pb, sb⟩ := hb
  refine ⟨_, pe_op op_cat pa pb, fun M σ H Δ F Φ c h Q q => ?_⟩
  refine sa M σ H Δ F _ c h _ fun v H1 x Δ1 M1 F1 e1 c1 r1 h1 => ?_
  refine sb M1 σ H1 Δ1 F1 _ c1 h1 _ fun w H2 y Δ2 M2 F2 e2 c2 r2 h2 => ?_
  obtain ⟨ds, es, k1, k2, k3, hΦ⟩ := h2
  obtain ⟨p, vs, ev, g1, g2⟩ := c2.res (rp_mono e2 _ _ r1) k1
  obtain ⟨p', ws, ew, g3, g4⟩ := c2.res r2 k2
  exact ⟨p, p', vs, ws, ev, ew, g1, g3, by rw [rps_len g2, rps_len g4]; exact k3, fun l hl => q l _ _ _ Δ2 M2 F2 (e1.trans e2) c2 hl (rps_app g2 g4) hΦ⟩
/-- xs.pop() as a statement, xs in memory -/
def dPopM (r : RE) : RE := fun Δ M Φ => r Δ M fun x Δ1 M1 => match x with
  | .ref p => ∃ ds d, M1 p = some (.lst ds) ∧ ds[ds.length - 1]? = some d ∧ Φ d Δ1 (updM M1 p (.lst ds.dropLast))
  | _ => False
theorem rps_dropLast {F : Hp} : ∀ {ds : List D} {vs : List V}, Rps K F ds vs → Rps K F ds.dropLast vs.dropLast := fun {ds vs} h => by
  rw [List.dropLast_eq_take, List.dropLast_eq_take, rps_len h]
  exact rps_take _ h
theorem qe_popM (h : QE X Z o r) (hbase : attributeBase o "pop" X.env (eval o X.env) = eval o X.env := by rfl) (hline : (apos.endLine == pos.line) = true := by rfl) : QE X Z (.Call (.Attribute o "pop" apos) [] [] pos) (dPopM r) := by
  obtain ⟨t, p, s⟩ := h
  refine ⟨_, pe_bm0 PySem.F.plainAttrs_list PySem.F.slot_list_pop PySem.F.type_list_pop mt_pop p hbase hline, fun M σ H Δ F Φ c h Q q => ?_⟩
  refine s M σ H Δ F _ c h _ fun v H1 x Δ1 M1 F1 e1 c1 r1 h1 => ?_
  cases x with
  | ref p =>
    obtain ⟨ds, d, hM, hl, hΦ⟩ := h1
    obtain ⟨vs, g1, g2⟩ := c1.bs.lstM hM
    obtain ⟨u, hu, ru⟩ := rps_get g2 hl
    rw [show v = .ref p from r1]
    exact ⟨.inl ⟨rfl, vs, SqL.of g1⟩, p, vs, u, rfl, rfl, g1, by rw [rps_len g2]; exact hu, q u _ d Δ1 _ F1 e1 (c1.setM hM (rps_dropLast g2)) ru hΦ⟩
  | _ => exact h1.elim
/-- xs[i] = e, xs in memory -/
def dStoM (rv ra ri : RE) : RS := fun De Δ M => rv Δ M fun z Δ1 M1 => ra Δ1 M1 fun x Δ2 M2 => ri Δ2 M2 fun y Δ3 M3 => match x, y with
  | .ref p, .int k => ∃ ds j, M3 p = some (.lst ds) ∧ ixN ds.length k = some j ∧ De.nx Δ3 (updM M3 p (.lst (ds.set j z)))
  | _, _ => False
theorem qs_stoM {rv ri : RE} {i value : Expr} {p' : Pos} (hv : QE X Z value rv) (ho : QE X Z o ra) (hi : QE X Z i ri) (hg : ∀ to ti, PE X o to → PE X i ti → PG X (.Subscript o i p') (gSub to ti rSetL) := by intro to ti h1 h2; exact pg_sub h1 h2 set_list)
    (hs : swapsWithSole [.Subscript o i p'] value pos.line X.env = pure false := by rfl) (hw : swappedStores [.Subscript o i p'] value X.env = pure none := by rfl)
    (h1 : (assignEach [.Subscript o i p'] X.env).map (·.2) = [assign (.Subscript o i p') X.env] := by rfl) : QS X Z (.Assign [.Subscript o i p'] value pos) (dStoM rv ra ri) := by
  obtain ⟨tv, pv, sv⟩ := hv
  obtain ⟨to, po, so⟩ := ho
  obtain ⟨ti, pi, si⟩ := hi
  refine ⟨_, ps_asg pv (hg to ti po pi) hs hw h1, fun M σ H Δ F De c h Dv ok => ?_⟩
  refine sv M σ H Δ F _ c h _ fun v H1 z Δ1 M1 F1 e1 c1 r1 h1 => ?_
  refine so M1 σ H1 Δ1 F1 _ c1 h1 _ fun w H2 x Δ2 M2 F2 e2 c2 r2 h2 => ?_
  refine si M2 σ H2 Δ2 F2 _ c2 h2 _ fun u H3 y Δ3 M3 F3 e3 c3 r3 h3 => ?_
  cases x with
  | ref p =>
    cases y with
    | int k =>
      obtain ⟨ds, j, hM, hj, hΦ⟩ := h3
      obtain ⟨vs, g1, g2⟩ := c3.bs.lstM hM
      refine ⟨p, vs, k, j, r2, r3, g1, by rw [rps_len g2]; exact hj, ?_⟩
      exact ok.nx σ _ Δ3 _ F3 ((e1.trans e2).trans e3) (c3.setM hM (rps_set j g2 (rp_mono (e2.trans e3) _ _ r1))) hΦ
    | _ => exact h3.elim
  | _ => exact h3.elim

/-! ### texts -/
/-- s.isdigit() and its like -/
def dM0 (g : Str → Bool) (r : RE) : RE := fun Δ M Φ => r Δ M fun x Δ1 M1 => match x with
  | .str z => Φ (.bl (g z)) Δ1 M1
  | _ => False
theorem qe_m0 {id : String} {name : Str} {g : Str → Bool} (slot : Slot "str" name id) (ty : typeOf (.builtin id) = pure (.type "method_descriptor")) (rule : MtR X id (fun x xs H Q => ∃ a, x = .str a ∧ xs = [] ∧ True ∧ Q (.bl (g a)) H)) (h : QE X Z o r)
    (hbase : attributeBase o name X.env (eval o X.env) = eval o X.env := by rfl) (hline : (apos.endLine == pos.line) = true := by rfl) : QE X Z (.Call (.Attribute o name apos) [] [] pos) (dM0 g r) := by
  obtain ⟨t, p, s⟩ := h
  refine ⟨_, pe_m0 slot ty rule p hbase hline, fun M σ H Δ F Φ c h Q q => ?_⟩
  refine s M σ H Δ F _ c h _ fun v H1 x Δ1 M1 F1 e1 c1 r1 h1 => ?_
  cases x with
  | str z => exact ⟨⟨z, r1⟩, z, r1, rfl, trivial, q _ H1 (.bl _) Δ1 M1 F1 e1 c1 rfl h1⟩
  | _ => exact h1.elim
/-- int(..) of an int, a truth value, a text -/
def dIntA : List D → (D → Prop) → Prop := fun xs Φ => match xs with
  | [.int i] => Φ (.int i)
  | [.bl k] => Φ (.int (if k then 1 else 0))
  | [.str z] => ∃ m, PySem.intText? z = some m ∧ z.length ≤ 640 ∧ Φ (.int m)
  | _ => False
theorem cr_intA : CallR X (.type "int") (fun xs H Q => rInt xs H Q ∨ ∃ a n, xs = [.str a] ∧ PySem.intText? a = some n ∧ a.length ≤ 640 ∧ Q (.int n) H) := CallR.or cr_int call_int_str
theorem cd_intA : CallD K (fun xs H Q => rInt xs H Q ∨ ∃ a n, xs = [.str a] ∧ PySem.intText? a = some n ∧ a.length ≤ 640 ∧ Q (.int n) H) dIntA := by
  intro Z M σ H Δ F xs vs Φ c rx k Q q
  unfold dIntA at k
  split at k
  · obtain ⟨v, rfl, e1⟩ := vals1 rx
    exact .inl (.inl ⟨_, by rw [show v = _ from e1], q _ H (.int _) F (Ex.refl _) c rfl k⟩)
  · obtain ⟨v, rfl, e1⟩ := vals1 rx
    exact .inl (.inr ⟨_, by rw [show v = _ from e1], q _ H (.int _) F (Ex.refl _) c rfl k⟩)
  · obtain ⟨v, rfl, e1⟩ := vals1 rx
    obtain ⟨m, k1, k2, k3⟩ := k
    exact .inr ⟨_, m, by rw [show v = _ from e1], k1, k2, q _ H (.int _) F (Ex.refl _) c rfl k3⟩
  · exact k.elim
theorem qe_intA {p : Pos} (hg : Gl X "int") (hm : X.mg "int" = none) (ha : QA X Z n (e :: es) rl) (he : starEach (e :: es) X.env = (false, eval e X.env) :: starEach es X.env := by rfl) (hpl : (backTo pos (starEach es X.env)).any (·.1) = false := by rfl) :
    QE X Z (.Call (.Name "int" p) (e :: es) [] pos) (dCB dIntA rl) := qe_cty cr_intA cd_intA hg hm (by decide +kernel) ha (by decide) (by decide) he hpl
/-- str(..) of an int or a text -/
def dStrA : List D → (D → Prop) → Prop := fun xs Φ => match xs with
  | [.int i] => i.natAbs.log2 < 1920 ∧ Φ (.str (toString i))
  | [.str z] => Φ (.str z)
  | _ => False
def rStrA : List V → Hp → VK → Prop := fun xs H Q => (∃ i, xs = [.int i] ∧ i.natAbs.log2 < 1920 ∧ Q (.str (toString i)) H) ∨ ∃ a, xs = [.str a] ∧ Q (.str a) H
theorem cr_strA : CallR X (.type "str") rStrA := CallR.or call_str_int SkE.call_str_str
theorem cd_strA : CallD K rStrA dStrA := by
  intro Z M σ H Δ F xs vs Φ c rx k Q q
  unfold dStrA at k
  split at k
  · obtain ⟨v, rfl, e1⟩ := vals1 rx
    exact .inl ⟨_, by rw [show v = _ from e1], k.1, q _ H (.str _) F (Ex.refl _) c rfl k.2⟩
  · obtain ⟨v, rfl, e1⟩ := vals1 rx
    exact .inr ⟨_, by rw [show v = _ from e1], q _ H (.str _) F (Ex.refl _) c rfl k⟩
  · exact k.elim
theorem qe_strA {p : Pos} (hg : Gl X "str") (hm : X.mg "str" = none) (ha : QA X Z n (e :: es) rl) (he : starEach (e :: es) X.env = (false, eval e X.env) :: starEach es X.env := by rfl) (hpl : (backTo pos (starEach es X.env)).any (·.1) = false := by rfl) :
    QE X Z (.Call (.Name "str" p) (e :: es) [] pos) (dCB dStrA rl) := qe_cty cr_strA cd_strA hg hm (by decide +kernel) ha (by decide) (by decide) he hpl
end
end DL

set_option Elab.async false
set_option linter.all false
set_option maxRecDepth 100000
set_option maxHeartbeats 4000000
namespace DL
open PySem PySem.Spec PyProof.Rows L2
open Evl (Ex)
section
variable {X : Cx} {Z : Zx} {e a b o : Expr} {ra rb r : RE} {pos apos : Pos} {es : List Expr} {rl : RA} {n : Nat} {K : PySem.W.Frag}
/-! ### == of lists anywhere -/
/-- what stands for a value when it is compared -/
def View (M : Mem) (x dx : D) : Prop := match x with
  | .ref p => ∃ ds, M p = some (.lst ds) ∧ dx = .lst ds
  | _ => dx = x
theorem Cn.view {Z : Zx} {M : Mem} {σ : L2.St} {H F : Hp} {Δ : List Sl} (c : Cn K Z M σ H Δ F) {x dx : D} {v : V} (h : View M x dx) (hp : dx.pure = true) (r : Rp K F x v) : Dp K H v dx.py := by
  cases x with
  | ref p =>
    obtain ⟨ds, hM, e⟩ := h
    subst e
    obtain ⟨vs, g1, g2⟩ := c.bs.lstM hM
    rw [show v = .ref p from r]
    exact .lst (SqL.of g1) (rps_dp c.bs.fH ds vs hp g2)
  | _ =>
    have e : dx = _ := h
    subst e
    exact rp_dp c.bs.fH _ v hp r
def dEqR (neg : Bool) (ra rb : RE) : RE := fun Δ M Φ => ra Δ M fun x Δ1 M1 => rb Δ1 M1 fun y Δ2 M2 => ∃ dx dy, View M2 x dx ∧ View M2 y dy ∧ dx.pure = true ∧ dy.pure = true ∧ SeqAt.shaped dx.py = true ∧ SeqAt.shaped dy.py = true ∧
  Φ (.bl (if neg then !PyData.eqv dx.py dy.py else PyData.eqv dx.py dy.py)) Δ2 M2
theorem sim_eqR {ta tb : TE} (sa : Sim K Z ta ra) (sb : Sim K Z tb rb) : Sim K Z (tOp (rEqD K) ta tb) (dEqR false ra rb) := by
  intro M σ H Δ F Φ c h Q q
  refine sa M σ H Δ F _ c h _ fun v H1 x Δ1 M1 F1 e1 c1 r1 h1 => ?_
  refine sb M1 σ H1 Δ1 F1 _ c1 h1 _ fun w H2 y Δ2 M2 F2 e2 c2 r2 h2 => ?_
  obtain ⟨dx, dy, v1, v2, p1, p2, s1, s2, hΦ⟩ := h2
  exact ⟨_, _, c2.view v1 p1 (rp_mono e2 _ _ r1), c2.view v2 p2 r2, s1, s2, q _ H2 (.bl _) Δ2 M2 F2 (e1.trans e2) c2 rfl hΦ⟩
theorem sim_neR {ta tb : TE} (sa : Sim K Z ta ra) (sb : Sim K Z tb rb) : Sim K Z (tOp (rNeD K) ta tb) (dEqR true ra rb) := by
  intro M σ H Δ F Φ c h Q q
  refine sa M σ H Δ F _ c h _ fun v H1 x Δ1 M1 F1 e1 c1 r1 h1 => ?_
  refine sb M1 σ H1 Δ1 F1 _ c1 h1 _ fun w H2 y Δ2 M2 F2 e2 c2 r2 h2 => ?_
  obtain ⟨dx, dy, v1, v2, p1, p2, s1, s2, hΦ⟩ := h2
  exact ⟨_, _, c2.view v1 p1 (rp_mono e2 _ _ r1), c2.view v2 p2 r2, s1, s2, q _ H2 (.bl _) Δ2 M2 F2 (e1.trans e2) c2 rfl hΦ⟩
theorem qe_eqR (hu : X.A.units + 64 < cLine) (ha : QE X Z a ra) (hb : QE X Z b rb) (hm : behindInMarks .Eq b = false := by first | exact nobehind _ (by decide) (by decide) | rfl) : QE X Z (.Compare a [.Eq] [b] pos) (dEqR false ra rb) := by
  obtain ⟨ta, pa, sa⟩ := ha
  obtain ⟨tb, pb, sb⟩ := hb
  exact ⟨_, pe_cmpR (op_eqD hu) pa pb hm, sim_eqR sa sb⟩
theorem qe_neR (hu : X.A.units + 64 < cLine) (ha : QE X Z a ra) (hb : QE X Z b rb) (hm : behindInMarks .NotEq b = false := by first | exact nobehind _ (by decide) (by decide) | rfl) : QE X Z (.Compare a [.NotEq] [b] pos) (dEqR true ra rb) := by
  obtain ⟨ta, pa, sa⟩ := ha
  obtain ⟨tb, pb, sb⟩ := hb
  exact ⟨_, pe_cmpR (op_neD hu) pa pb hm, sim_neR sa sb⟩
theorem qt_eqR (hu : X.A.units + 64 < cLine) (ha : QE X Z a ra) (hb : QE X Z b rb) (hm : behindInMarks .Eq b = false := by first | exact nobehind _ (by decide) (by decide) | rfl) : QT X Z (.Compare a [.Eq] [b] pos) (dTest (dEqR false ra rb)) := by
  obtain ⟨ta, pa, sa⟩ := ha
  obtain ⟨tb, pb, sb⟩ := hb
  exact ⟨_, pt_cmpR (op_eqD hu) pa pb hm, simT_test (sim_eqR sa sb)⟩
theorem qt_neR (hu : X.A.units + 64 < cLine) (ha : QE X Z a ra) (hb : QE X Z b rb) (hm : behindInMarks .NotEq b = false := by first | exact nobehind _ (by decide) (by decide) | rfl) : QT X Z (.Compare a [.NotEq] [b] pos) (dTest (dEqR true ra rb)) := by
  obtain ⟨ta, pa, sa⟩ := ha
  obtain ⟨tb, pb, sb⟩ := hb
  exact ⟨_, pt_cmpR (op_neD hu) pa pb hm, simT_test (sim_neR sa sb)⟩
/-- x[i], lists anywhere, tuples, texts -/
theorem qe_ixR (ha : QE X Z a ra) (hb : QE X Z b rb) (hs : PlainIx b := by intro _ _; rfl) : QE X Z (.Subscript a b pos) (dIxR ra rb) := by
  obtain ⟨ta, pa, sa⟩ := ha
  obtain ⟨tb, pb, sb⟩ := hb
  refine ⟨_, pe_ix ix_seq pa pb hs, fun M σ H Δ F Φ c h Q q => ?_⟩
  refine sa M σ H Δ F _ c h _ fun v H1 x Δ1 M1 F1 e1 c1 r1 h1 => ?_
  refine sb M1 σ H1 Δ1 F1 _ c1 h1 _ fun w H2 y Δ2 M2 F2 e2 c2 r2 h2 => ?_
  have gen : dIx x y (fun d => Φ d Δ2 M2) → rIx X.K v w H2 Q := fun k => od_ix Z M2 σ H2 Δ2 F2 x y v w _ c2 (rp_mono e2 _ _ r1) r2 k Q fun u H3 d F3 e3 c3 r3 k3 => q u H3 d Δ2 M2 F3 ((e1.trans e2).trans e3) c3 r3 k3
  cases x with
  | ref p =>
    cases y with
    | int i =>
      obtain ⟨ds, hM, d, k1, k2⟩ := h2
      obtain ⟨vs, g1, g2⟩ := c2.bs.lstM hM
      obtain ⟨u, h3, h4⟩ := atI_rps g2 k1
      exact .inl ⟨p, vs, i, u, r1, r2, SqL.of g1, h3, q u H2 d Δ2 M2 F2 (e1.trans e2) c2 h4 k2⟩
    | _ => exact gen h2
  | _ => exact gen h2

/-! ### module constants -/
theorem qe_glob {x : Str} {v : V} {u : Value} {d : D} (hg : Gl X x) (hm : X.mg x = some u) (r : RelV v u) (h : ∀ F, Rp X.K F d v) (hd : (x == ("__debug__" : Str)) = false := by decide) : QE X Z (.Name x pos) (dC d) := ⟨_, pe_glob hg hm r hd, sim_c h⟩

/-! ### f-texts -/
def dJs : List RE → Str → List Sl → Mem → (Str → List Sl → Mem → Prop) → Prop
  | [], acc, Δ, M, Φ => Φ acc Δ M
  | r :: rs, acc, Δ, M, Φ => r Δ M fun x Δ1 M1 => match x with
    | .str y => (acc ++ y).length ≤ sizeLine ∧ dJs rs (acc ++ y) Δ1 M1 Φ
    | _ => False
def dJoin (rs : List RE) : RE := fun Δ M Φ => dJs rs Str.empty Δ M fun out Δ1 M1 => Φ (.str out) Δ1 M1
def QJ (X : Cx) (Z : Zx) (es : List Expr) (rs : List RE) : Prop := ∃ ts, PJ X es ts ∧ ∀ (acc : Str) (M : Mem) (σ : L2.St) (H : Hp) (Δ : List Sl) (F : Hp) (Φ : Str → List Sl → Mem → Prop), Cn X.K Z M σ H Δ F → dJs rs acc Δ M Φ →
  ∀ Q : Str → Hp → Prop, (∀ out H' Δ' M' F', Ex F F' → Cn X.K Z M' σ H' Δ' F' → Φ out Δ' M' → Q out H') → tJs ts acc σ H Q
theorem qj_nil : QJ X Z [] [] := ⟨[], .nil, fun acc M σ H Δ F Φ c h Q q => q acc H Δ M F (Ex.refl _) c h⟩
theorem qj_cons {rs : List RE} (h : QE X Z e r) (hs : QJ X Z es rs) : QJ X Z (e :: es) (r :: rs) := by
  obtain ⟨t, p, s⟩ := h
  obtain ⟨ts, ps, ss⟩ := hs
  refine ⟨t :: ts, .cons p ps, fun acc M σ H Δ F Φ c h Q q => ?_⟩
  refine s M σ H Δ F _ c h _ fun v H1 x Δ1 M1 F1 e1 c1 r1 h1 => ?_
  cases x with
  | str y => exact ⟨y, r1, h1.1, ss _ M1 σ H1 Δ1 F1 Φ c1 h1.2 Q fun out H' Δ' M' F' e2 => q out H' Δ' M' F' (e1.trans e2)⟩
  | _ => exact h1.elim
theorem qe_join {v1 v2 : Expr} {rest : List Expr} {rs : List RE} (h : QJ X Z (v1 :: v2 :: rest) rs) : QE X Z (.JoinedStr (v1 :: v2 :: rest) pos) (dJoin rs) := by
  obtain ⟨ts, ps, ss⟩ := h
  exact ⟨_, pe_joined ps, fun M σ H Δ F Φ c h Q q => ss _ M σ H Δ F _ c h _ fun out H' Δ' M' F' e1 c1 k => q _ H' (.str out) Δ' M' F' e1 c1 rfl k⟩
/-- {e}: an int or a text -/
def dFmt (r : RE) : RE := fun Δ M Φ => r Δ M fun x Δ1 M1 => match x with
  | .str y => y.length ≤ sizeLine ∧ Φ (.str y) Δ1 M1
  | .int i => i.natAbs.log2 < 1920 ∧ Φ (.str (toString i)) Δ1 M1
  | _ => False
theorem qe_fmt (h : QE X Z e r) : QE X Z (.FormattedValue e (-1) none pos) (dFmt r) := by
  obtain ⟨t, p, s⟩ := h
  refine ⟨_, pe_fmt p, fun M σ H Δ F Φ c h Q q => ?_⟩
  refine s M σ H Δ F _ c h _ fun v H1 x Δ1 M1 F1 e1 c1 r1 h1 => ?_
  cases x with
  | str y => exact .inl ⟨y, r1, h1.1, q _ H1 (.str y) Δ1 M1 F1 e1 c1 rfl h1.2⟩
  | int i => exact .inr ⟨i, r1, h1.1, q _ H1 (.str _) Δ1 M1 F1 e1 c1 rfl h1.2⟩
  | _ => exact h1.elim

/-! ### for c in s -/
def signsD (x : Str) : List D := x.cps.toList.map fun c => .str ⟨#[c]⟩
theorem loop_str {x : Str} {j : Nat} {js : List Nat} {t : TS} {u : RS} (hu : SimS K Z t u) {M : Mem} {σ : L2.St} {H F : Hp} {Δ : List Sl} {De : DE} {Dv : Ends} (c : Cn K Z M σ H Δ F)
    (h : dLoop j js (signsD x) u De Δ M) (ok : EndsOk K Z F De Dv) :
    ∃ W : Nat → Nat → L2.St → Hp → Prop, (∃ m, W 0 m σ H) ∧ ∀ i k σ H, W i k σ H →
      ((Its x).stop i H ∧ Dv.nx σ H) ∨ ((Its x).go i H ∧ ∃ N : L2.St → Hp → Prop, (∀ σ' H', N σ' H' → ∃ m', m' < k ∧ W (i + 1) m' σ' H') ∧ ∀ y H', (Its x).yld i H y H' → gName j y σ H' fun σ2 H2 => t { Dv with nx := N, ct := N, bk := Dv.nx } σ2 H2) := by
  obtain ⟨Pv, h0, hs, hd⟩ := h
  have hl : (signsD x).length = x.cps.size := by unfold signsD; rw [List.length_map, Array.length_toList]
  refine ⟨fun i m σ H => m = x.cps.size - i ∧ i ≤ x.cps.size ∧ ∃ Δ M F', Ex F F' ∧ Cn K Z M σ H Δ F' ∧ Pv i Δ M, ⟨_, rfl, Nat.zero_le _, _, M, F, Ex.refl _, cn_fgt js _ c, h0⟩, ?_⟩
  rintro i m σ H ⟨rfl, hi, Δ, M, F', e, c, hp⟩
  by_cases hlt : i < x.cps.size
  · refine .inr ⟨hlt, fun σ H => ∃ Δ M F', Ex F F' ∧ Cn K Z M σ H Δ F' ∧ Pv (i + 1) Δ M, fun σ' H' p' => ⟨x.cps.size - (i + 1), by omega, rfl, hlt, p'⟩, fun y H' hy => ?_⟩
    obtain ⟨eH, k, hk, ev⟩ := hy
    subst eH ev
    have hd' : (signsD x)[i]? = some (.str ⟨#[k]⟩) := by
      unfold signsD
      rw [List.getElem?_map, Array.getElem?_toList, hk] <;> rfl
    exact hu M _ _ _ F' _ (c.set (d := .str ⟨#[k]⟩) rfl j) (hs i _ Δ M hd' hp) _ (endsLoop (js := js) (Pv := Pv) ok e fun σ' H' Δ' M' F'' e1 c' k => ⟨Δ', M', F'', e.trans e1, c', k⟩)
  · have ei : i = x.cps.size := by omega
    subst ei
    rw [hl] at hd
    exact .inl ⟨Nat.le_refl _, ok.nx σ H Δ M F' e c (hd _ _ hp)⟩
def dForS (j : Nat) (js : List Nat) (r : RE) (u : RS) : RS := fun De Δ M => r Δ M fun x Δ1 M1 => match x with
  | .str z => dLoop j js (signsD z) u De Δ1 M1
  | _ => False
theorem qs_forS {j : Nat} {js : List Nat} {x : Str} {px : Pos} {body : List Stmt} {iter : Expr} {u : RS} (hp : PassesOwn (model X.prog X.w) X.A X.env X.xe) (hc : X.calm = true) (hN : X.N.Nodup) (h : QE X Z iter r) (hb : QSs X Z body u) (hi : X.N[j]? = some x := by rfl) (hx : Loc X.env.scope x := by first | exact Or.inl rfl | exact Or.inr rfl)
    (hf : X.fn x = true ∨ X.env.scope.names.lookup x = some .local := by first | exact .inl rfl | exact .inr rfl) (hs : ∀ x, foldedSetIterable iter X.env x = pure x := by intro _; rfl) : QS X Z (.For (.Name x px) iter body [] pos) (dForS j js r u) := by
  obtain ⟨t, p, s⟩ := h
  obtain ⟨tb, pb, sb⟩ := hb
  refine ⟨_, ps_for hp hc (pi_str p) (pg_name (i := j) hN hi hx hf) pb hs, fun M σ H Δ F De c h Dv ok => ?_⟩
  refine s M σ H Δ F _ c h _ fun v H1 y Δ1 M1 F1 e1 c1 r1 h1 => ?_
  cases y with
  | str z => exact ⟨z, r1, loop_str sb c1 h1 (ok.mono e1)⟩
  | _ => exact h1.elim
/-- isinstance, also of a list in memory -/
def dIsiR (T : String) (r : RE) : RE := fun Δ M Φ => r Δ M fun x Δ1 M1 => match x with
  | .ref p => ∃ ds b, M1 p = some (.lst ds) ∧ kitB "list" T = some b ∧ Φ (.bl b) Δ1 M1
  | .rng _ _ => False
  | x => ∃ b, kitB x.ty T = some b ∧ Φ (.bl b) Δ1 M1
theorem qe_isiR {T : String} {x : Str} {p p2 : Pos} (h : QE X Z e r) (hg : Gl X "isinstance") (hm : X.mg "isinstance" = none) (hg2 : Gl X x) (hm2 : X.mg x = none) (hb : bootBuiltins x = some (.type T)) (hn : x ≠ "__name__" := by decide) (hdb : (x == ("__debug__" : Str)) = false := by decide)
    (he : starEach [e, .Name x p2] X.env = (false, eval e X.env) :: starEach [.Name x p2] X.env := by rfl) (he2 : starEach [.Name x p2] X.env = (false, eval (.Name x p2) X.env) :: starEach [] X.env := by rfl) (hpl : (backTo pos (starEach [.Name x p2] X.env)).any (·.1) = false := by rfl) :
    QE X Z (.Call (.Name "isinstance" p) [e, .Name x p2] [] pos) (dIsiR T r) := by
  obtain ⟨t, pe, s⟩ := h
  refine ⟨_, pe_callB call_isi hg hm (by decide +kernel) (pa_cons pe (pa_cons (pe_bltn hg2 hm2 hb (v := .ty T) rfl hn hdb) pa_nil he2) he) (by decide) (by decide) he hpl, fun M σ H Δ F Φ c h Q q => ?_⟩
  refine s M σ H Δ F _ c h _ fun v H1 y Δ1 M1 F1 e1 c1 r1 h1 => ?_
  have hd : ∃ ty b, TyX X.K H1 v (.type ty) ∧ kitB ty T = some b ∧ Φ (.bl b) Δ1 M1 := by
    cases y with
    | ref p =>
      obtain ⟨ds, b, hM, k1, k2⟩ := h1
      obtain ⟨vs, g1, g2⟩ := c1.bs.lstM hM
      rw [show v = .ref p from r1]
      exact ⟨_, b, .base (.lst g1), k1, k2⟩
    | rng lo hi => exact h1.elim
    | _ =>
      obtain ⟨b, k1, k2⟩ := h1
      exact ⟨_, b, rp_tyx c1.bs.fH r1 True.intro, k1, k2⟩
  obtain ⟨ty, b, hty, k1, k2⟩ := hd
  exact ⟨v, .ty T, _, _, b, rfl, .ty T, hty, kit_ty k1, q _ H1 (.bl b) Δ1 M1 F1 e1 c1 rfl k2⟩
end
end DL

set_option Elab.async false
set_option linter.all false
set_option maxRecDepth 100000
set_option maxHeartbeats 4000000
namespace DL
open PySem PySem.Spec PyProof.Rows L2
open Evl (Ex)
/-! ### an own exception's __init__ of two fields -/
def tI2 (K : PySem.W.Frag) (f1 f2 : Str) : TS := fun Dv σ H => tOst K f1 (tVar 0) (tVar 1) { Dv with nx := fun σ1 H1 => tOst K f2 (tVar 0) (tVar 2) Dv σ1 H1 } σ H
theorem spInit_len {C : Addr} {names ps : List Str} (h : ps.length = names.length + 1) : ∀ vs H Q E, spInit C names vs H Q E → vs.length = ps.length := by
  rintro vs H Q E ⟨a, ws, rfl, hl, _⟩
  rw [List.length_cons, hl, h]
theorem init2 {K : PySem.W.Frag} {C : Addr} {f1 f2 a b c : Str} {vs : List V} {H : Hp} {Q : VK} {E : XK} (T : OexC K C) (n1 : PySem.W.findIn K (.ref C) f1 = some none) (n2 : PySem.W.findIn K (.ref C) f2 = some none) (h : spInit C [f1, f2] vs H Q E) :
    tI2 K f1 f2 { nx := fun _ H' => Q .non H', rt := Q } (L2.start [a, b, c] vs) H := by
  obtain ⟨e, ws, rfl, hl, he, k⟩ := h
  match ws, hl with
  | [x, y], _ =>
    refine ⟨x, rfl, .ref e, rfl, e, C, rfl, T, n1, .inl ⟨he, fun dx hdx hne => ?_⟩⟩
    refine ⟨y, rfl, .ref e, rfl, e, C, rfl, T, n2, .inr ⟨dx, [(f1, x)], upd_same, by rw [upd_ne hne, upd_same], (by show 1 ≤ 900; decide), ?_⟩⟩
    refine k dx _ hdx hne ?_ upd_same fun u h1 h2 => ?_
    · rw [upd_ne hne.symm, upd_same]
    · rw [upd_ne h2, upd_ne h1, upd_ne h2]
/-! ### constants, += on a field -/
theorem qe_globI {X : Cx} {Z : Zx} {pos : Pos} {x : Str} {i : Int} (hg : Gl X x) (hm : ∃ t, X.mg x = some (.int i t)) (hd : (x == ("__debug__" : Str)) = false := by decide) : QE X Z (.Name x pos) (dC (.int i)) := by
  obtain ⟨t, hm⟩ := hm
  exact qe_glob (v := .int i) hg hm ⟨t, rfl⟩ (fun _ => rfl) hd
theorem inop_add {X : Cx} : InOp X .Add rAdd := in_add
theorem od_plus {K : PySem.W.Frag} : OpD K rAdd dPlus := by
  intro Z M σ H Δ F x y v w Φ c rx ry k Q q
  unfold dPlus dI at k
  split at k
  · exact ⟨_, _, rx, ry, q _ H (.int _) F (Ex.refl _) c rfl k⟩
  · exact k.elim
/-- isinstance(e, T) of the exception that the suite holds -/
def dIsX (a : Addr) (b : Bool) (r : RE) : RE := fun Δ M Φ => r Δ M fun x Δ1 M1 => match x with
  | .ref p => p = a ∧ Φ (.bl b) Δ1 M1
  | _ => False
theorem kit_true {K : PySem.W.Frag} {C T : Addr} (hd : PySem.W.hasDictIn K T = true) (ht : PySem.W.typeIn K (.ref T) = some (.type "type")) (hs : PySem.W.subIn K (.ref C) (.ref T) = some true) : PySem.W.kitOne K (.ref C) (.ref T) = some true := by
  unfold PySem.W.kitOne
  split
  · rfl
  · obtain ⟨cd, hc, _⟩ := PySem.W.any_some hd
    show (if ((PySem.W.clsIn K T).isSome && PySem.W.typeIn K (.ref T) == some (.type "type")) = true then PySem.W.subIn K (.ref C) (.ref T) else none) = some true
    have e : ((some cd).isSome && (some (Value.type "type") : Option Value) == some (.type "type")) = true := rfl
    rw [hc, ht, hs, if_pos e]
def rIsX (D cT a : Addr) (d : Option Addr) (b : Bool) : List V → Hp → VK → Prop := fun xs H Q => xs = [.ref a, .ref cT] ∧ (∀ dd, d = some dd → ∃ vfs, H dd = some (.xd vfs)) ∧ Q (.bl b) H
theorem call_isX {X : Cx} {a D cT : Addr} {oe : Obj} {d : Option Addr} {b : Bool} {pn : List (Addr × Obj)} (C : ExcC X.K D) (hk : PySem.W.kitOne X.K (.ref D) (.ref cT) = some b) (hz : Zc (.ref D) d oe) (hf : ∃ vs, oe.data = .fields vs) :
    CallR (X.suite a ((a, oe) :: pn)) (.builtin "isinstance") (rIsX D cT a d b) := by
  intro pins s σ H xs us Q I r h
  obtain ⟨rfl, hd, q⟩ := h
  match us, r with
  | [_, _], .cons rx (.cons ry .nil) =>
    cases rx
    cases ry
    have hget := (I.pin (a, oe) (List.mem_append.mpr (.inl List.mem_cons_self))).1
    obtain ⟨vs, hv⟩ := hf
    obtain ⟨h1, h2⟩ := hz
    have cl : (PySem.W.clsIn X.K D).isSome = true := by
      obtain ⟨cd, hc, _⟩ := PySem.W.any_some C.hd
      rw [hc] <;> rfl
    have nc : PySem.W.notCls oe = true := by unfold PySem.W.notCls; rw [hv] <;> rfl
    have fin : ∀ od, PySem.W.InstAt s.heap a oe D od → wpAny (model X.prog X.w) (X.suite a ((a, oe) :: pn)).A (call (.builtin "isinstance") [.ref a, .ref cT]) (EP (X.suite a ((a, oe) :: pn)) pins σ Q) (X.suite a ((a, oe) :: pn)).xe s := fun od J =>
      PySem.W.kia_one (PySem.W.kitx_exc (gt := none) (od := od) (ox := oe) cl C.hg C.hk C.hs C.ha C.hn C.ht C.hm) I.kIn J hk (fun z => nomatch z) fun tk => ⟨.bl b, H, I.kept (t' := tk) fun _ _ z => z, rfl, q⟩
    cases d with
    | none => exact fin none ⟨hget, h1, nc, by rw [h2]; trivial⟩
    | some dd =>
      obtain ⟨vfs, ed⟩ := hd dd rfl
      have hx : ObjOk X.prog X.w H s.heap dd (.xd vfs) := I.hok dd _ ed
      obtain ⟨mA, hns, hr⟩ := hx
      obtain ⟨od, ho, hl⟩ := lookIn_ns hns
      exact fin (some od) ⟨hget, h1, nc, by rw [h2]; exact ho⟩
theorem qe_isX {X : Cx} {Z : Zx} {a C cT : Addr} {oe : Obj} {d : Option Addr} {b : Bool} {fs : List (Str × D)} {pn : List (Addr × Obj)} {e : Expr} {r : RE} {pos p p2 : Pos} {x : Str} (T : ExcC X.K C) (hk : PySem.W.kitOne X.K (.ref C) (.ref cT) = some b)
    (hz : Zc (.ref C) d oe) (hf : ∃ vs, oe.data = .fields vs) (xr : XRep X.K Z.F0 fs d) (he : QE (X.suite a ((a, oe) :: pn)) Z e r) (hg : Gl X "isinstance") (hm : X.mg "isinstance" = none) (hg2 : Gl X x) (hm2 : X.mg x = some (.ref cT)) (hdb : (x == ("__debug__" : Str)) = false := by decide)
    (h1 : starEach [e, .Name x p2] X.env = (false, eval e X.env) :: starEach [.Name x p2] X.env := by rfl) (h2 : starEach [.Name x p2] X.env = (false, eval (.Name x p2) X.env) :: starEach [] X.env := by rfl) (hpl : (backTo pos (starEach [.Name x p2] X.env)).any (·.1) = false := by rfl) :
    QE (X.suite a ((a, oe) :: pn)) Z (.Call (.Name "isinstance" p) [e, .Name x p2] [] pos) (dIsX a b r) := by
  obtain ⟨t, pe, s⟩ := he
  refine ⟨_, pe_callB (X := X.suite a ((a, oe) :: pn)) (call_isX T hk hz hf) hg hm (by decide +kernel) (pa_cons pe (pa_cons (pe_glob (X := X.suite a ((a, oe) :: pn)) (v := .ref cT) hg2 hm2 rfl hdb) pa_nil h2) h1) (by decide) (by decide) h1 hpl, fun M σ H Δ F Φ c h Q q => ?_⟩
  refine s M σ H Δ F _ c h _ fun v H1 y Δ1 M1 F1 e1 c1 r1 k => ?_
  cases y with
  | ref b =>
    obtain ⟨rfl, hΦ⟩ := k
    refine ⟨by rw [show v = .ref b from r1], fun dd hd => ?_, q _ H1 (.bl _) Δ1 M1 F1 e1 c1 rfl hΦ⟩
    subst hd
    obtain ⟨vfs, g1, _⟩ := xr.mono c1.bs.f0
    exact ⟨vfs, c1.bs.fH _ _ g1⟩
  | _ => exact k.elim
end DL

set_option Elab.async false
set_option linter.all false
set_option maxRecDepth 100000
set_option maxHeartbeats 4000000
namespace My
open PySem PySem.Spec PyProof.Rows L2 DL
open Evl (Ex)
/-! ### the law's own numbers: a row of the script -/
def cellAt (ns : List Int) (k : Int) : Int := if k < (ns.length : Int) then ns.getD k.toNat 0 else 0
def seedAt (s : Int) : Nat → Int
  | 0 => s
  | i + 1 => (seedAt s i * 16807 + (i : Int) * 7919 + 101) % 2147483647
def thAt (c : Int) : Nat → Int
  | 0 => c
  | i + 1 => thAt c i / 1000
def lawRow (ns : List Int) (k : Int) (n : Nat) : List Int :=
  if cellAt ns k ≥ 10 ^ 18 then (List.range n).map fun i => thAt (cellAt ns k) i % 1000
  else (List.range n).map fun i => seedAt ((cellAt ns k * 48271 + k * 69621 + 11) % 2147483647) (i + 1) / 65536 % 1000
theorem lawRow_len (ns : List Int) (k : Int) (n : Nat) : (lawRow ns k n).length = n := by
  unfold lawRow
  split <;> rw [List.length_map, List.length_range]
theorem lawRow_mem {ns : List Int} {k : Int} {n : Nat} : ∀ r ∈ lawRow ns k n, 0 ≤ r ∧ r < 1000 := by
  intro r hr
  unfold lawRow at hr
  split at hr
  · obtain ⟨i, _, rfl⟩ := List.mem_map.mp hr
    omega
  · obtain ⟨i, _, rfl⟩ := List.mem_map.mp hr
    omega
/-- the i-th number of a row -/
theorem lawRow_at {ns : List Int} {k : Int} {n i : Nat} (h : i < n) : ∃ r, atI ((lawRow ns k n).map D.int) (i : Int) = some (.int r) ∧ (lawRow ns k n)[i]? = some r ∧ 0 ≤ r ∧ r < 1000 := by
  have hl : i < (lawRow ns k n).length := by rw [lawRow_len]; exact h
  refine ⟨(lawRow ns k n)[i], ?_, List.getElem?_eq_getElem hl, lawRow_mem _ (List.getElem_mem hl)⟩
  refine atI_nat ?_
  rw [List.getElem?_map, List.getElem?_eq_getElem hl] <;> rfl
def S_law_row : DSp := fun ds M Φ _ => ∃ (ns : List Int) (k : Int) (n : Nat), ds = [.scr ns, .int k, .int n] ∧ 0 ≤ k ∧ k < 1000000 ∧ n ≤ 1000 ∧ Φ (.lst ((lawRow ns k n).map .int)) M
theorem ar_law_row : Arity S_law_row 3 := by
  rintro ds M Φ Ψ ⟨ns, k, n, rfl, _⟩
  rfl
theorem seedAt_lo {s : Int} (h : 0 ≤ s ∧ s < 2147483647) : ∀ i, 0 ≤ seedAt s i ∧ seedAt s i < 2147483647
  | 0 => h
  | i + 1 => by
    show 0 ≤ (seedAt s i * 16807 + (i : Int) * 7919 + 101) % 2147483647 ∧ (seedAt s i * 16807 + (i : Int) * 7919 + 101) % 2147483647 < 2147483647
    omega
/-! _law_row: slots 0 _law_script 1 _law_k 2 _law_count 3 _law_cell_here 4 _law_row_here 5 _law_at 6 _law_seed -/
def b_law_row_6 : RS := (dSeq (dApp 4 (dOp (dIC (fun _ j => 0 < j) fun i j => .int (i % j)) (dCB dInt (dCons (dVar 3) dNil)) (dC (.int 1000))))
    (dSet 3 (dOp (dIC CDivA fun i j => .int (i / j)) (dVar 3) (dC (.int 1000)))))
def b_law_row_11 : RS := (dSeq (dSet 6 (dOp (dIC (fun _ j => 0 < j) fun i j => .int (i % j)) (dCB dInt (dCons (dOp dAdd (dOp dAdd (dOp (dIC CMulA fun i j => .int (i * j)) (dVar 6) (dC (.int 16807))) (dOp (dIC CMulA fun i j => .int (i * j)) (dVar 5) (dC (.int 7919)))) (dC (.int 101))) dNil)) (dC (.int 2147483647))))
    (dApp 4 (dOp (dIC (fun _ j => 0 < j) fun i j => .int (i % j)) (dOp (dIC CDivA fun i j => .int (i / j)) (dVar 6) (dC (.int 65536))) (dC (.int 1000)))))
def r_law_row_6 : RS := (dRet (dVar 4))
def r_law_row_5 : RS := dSeq (dForR 5 [5] (dVar 2) b_law_row_11) r_law_row_6
def r_law_row_4 : RS := dSeq (dSet 6 (dOp (dIC (fun _ j => 0 < j) fun i j => .int (i % j)) (dCB dInt (dCons (dOp dAdd (dOp dAdd (dOp (dIC CMulA fun i j => .int (i * j)) (dVar 3) (dC (.int 48271))) (dOp (dIC CMulA fun i j => .int (i * j)) (dVar 1) (dC (.int 69621)))) (dC (.int 11))) dNil)) (dC (.int 2147483647)))) r_law_row_5
def r_law_row_3 : RS := dSeq (dIfS (dTest (dOp dGe (dVar 3) (dOp (dIC CPow fun i j => .int (i ^ j.toNat)) (dC (.int 10)) (dC (.int 18))))) (dSeq (dForR 5 [5] (dVar 2) b_law_row_6)
    (dRet (dVar 4))) dNext) r_law_row_4
def r_law_row_2 : RS := dSeq (dSetO 4 dNil) r_law_row_3
def r_law_row_1 : RS := dSeq (dIfS (dTest (dOp dLt (dVar 1) (dCB dLen (dCons (dVar 0) dNil)))) (dSet 3 (dCB dInt (dCons (dOp dIx (dVar 0) (dVar 1)) dNil))) dNext) r_law_row_2
def r_law_row : RS := dSeq (dSet 3 (dC (.int 0))) r_law_row_1


theorem getD_of {ns : List Int} {k : Int} (h0 : 0 ≤ k) (h : k < (ns.length : Int)) : atI ns k = some (cellAt ns k) := by
  have hk : k.toNat < ns.length := by omega
  have e : ((k.toNat : Nat) : Int) = k := Int.toNat_of_nonneg h0
  rw [← e]
  unfold cellAt
  rw [if_pos (by omega)]
  refine atI_nat ?_
  rw [Int.toNat_natCast, List.getD_eq_getElem?_getD, List.getElem?_eq_getElem hk] <;> rfl
theorem range_take {α : Type} (g : Nat → α) (i : Nat) : (List.range (i + 1)).map g = (List.range i).map g ++ [g i] := by
  rw [List.range_succ, List.map_append] <;> rfl
theorem line1000 {n : Nat} (h : n ≤ 1000) : n < sizeLine := Nat.lt_of_le_of_lt h (by decide)
theorem rangeD_some {lo : Int} {n i : Nat} {d : D} (h : (rangeD lo n)[i]? = some d) : i < n ∧ d = .int (lo + (i : Nat)) := by
  have hi : i < n := by
    have := (List.getElem?_eq_some_iff.mp h).1
    rw [rangeD_len] at this
    exact this
  rw [rangeD_get hi] at h
  exact ⟨hi, (Option.some.inj h).symm⟩
theorem red_law_row : ∀ ds M Φ Ψ, S_law_row ds M Φ Ψ → r_law_row { nx := fun _ M' => Φ .non M', rt := Φ } (startD 7 ds) M := by
  rintro ds M Φ Ψ ⟨ns, k, n, rfl, hk0, hk1, hn, q⟩
  have key : ∀ c, c = cellAt ns k → r_law_row_2 { nx := fun _ M' => Φ .non M', rt := Φ } [.d (.scr ns), .d (.int k), .d (.int n), .d (.int c), .un, .un, .un] M := by
    intro c hc
    have h10 : (10 : Int) ^ (18 : Int).toNat = 1000000000000000000 := by decide
    have h10' : (10 : Int) ^ 18 = 1000000000000000000 := by decide
    refine ⟨⟨by decide, by decide, by decide⟩, fun hb => ?_, fun hb => ?_⟩
    · -- the digits of a great cell
      have hc18 : cellAt ns k ≥ 10 ^ 18 := by
        have := of_decide_eq_true hb
        rw [h10] at this
        omega
      refine ⟨by omega, ?_⟩
      refine loop_by (fun i => [.d (.scr ns), .d (.int k), .d (.int n), .d (.int (thAt c i)), .own ((List.range i).map fun i => .int (thAt c i % 1000)), .un, .un]) rfl (fun i d hi => ?_) ?_
      · obtain ⟨hi, rfl⟩ := rangeD_some hi
        refine ⟨⟨_, rfl⟩, (by show (0 : Int) < 1000; decide), ?_, ?_⟩
        · rw [List.length_map, List.length_range]
          exact line1000 (by omega)
        · refine ⟨⟨by decide, .inl (by decide)⟩, ?_, rfl⟩
          show [Sl.d (.scr ns), .d (.int k), .d (.int n), .d (.int (thAt c i / 1000)), .own ((List.range i).map (fun i => D.int (thAt c i % 1000)) ++ [.int (thAt c i % 1000)]), .un, .un] = [.d (.scr ns), .d (.int k), .d (.int n), .d (.int (thAt c (i + 1))), .own ((List.range (i + 1)).map fun i => .int (thAt c i % 1000)), .un, .un]
          rw [range_take] <;> rfl
      · rw [rangeD_len, show (↑n : Int).toNat = n from Int.toNat_natCast n]
        have e : (List.range n).map (fun i => D.int (thAt c i % 1000)) = (lawRow ns k n).map .int := by
          unfold lawRow
          rw [if_pos hc18, List.map_map, hc] <;> rfl
        show Φ (.lst ((List.range n).map fun i => D.int (thAt c i % 1000))) M
        rw [e]
        exact q
    · -- a seed
      have hc18 : ¬ cellAt ns k ≥ 10 ^ 18 := by
        have := of_decide_eq_false hb
        rw [h10] at this
        omega
      have e2 : (0 : Int) < 2147483647 := by decide
      let s0 := (c * 48271 + k * 69621 + 11) % 2147483647
      have hs0 : 0 ≤ s0 ∧ s0 < 2147483647 := by omega
      refine ⟨.inl (.inr (by decide)), .inl (.inr (by decide)), e2, by omega, ?_⟩
      refine loop_by (fun i => [.d (.scr ns), .d (.int k), .d (.int n), .d (.int c), .own ((List.range i).map fun i => .int (seedAt s0 (i + 1) / 65536 % 1000)), .un, .d (.int (seedAt s0 i))]) rfl (fun i d hi => ?_) ?_
      · obtain ⟨hi, rfl⟩ := rangeD_some hi
        refine ⟨.inl (.inr (by decide)), .inl (.inr (by decide)), e2, ⟨_, rfl⟩, ⟨by decide, .inl (by decide)⟩, (by show (0 : Int) < 1000; decide), ?_, ?_, rfl⟩
        · rw [List.length_map, List.length_range]
          exact line1000 (by omega)
        · have e3 : (seedAt s0 i * 16807 + (0 + (i : Int)) * 7919 + 101) % 2147483647 = seedAt s0 (i + 1) := by
            show _ = (seedAt s0 i * 16807 + (i : Int) * 7919 + 101) % 2147483647
            rw [Int.zero_add]
          show [Sl.d (.scr ns), .d (.int k), .d (.int n), .d (.int c), .own ((List.range i).map (fun i => D.int (seedAt s0 (i + 1) / 65536 % 1000)) ++ [.int ((seedAt s0 i * 16807 + (0 + (i : Int)) * 7919 + 101) % 2147483647 / 65536 % 1000)]), .un, .d (.int ((seedAt s0 i * 16807 + (0 + (i : Int)) * 7919 + 101) % 2147483647))] = _
          rw [e3, range_take]
      · rw [rangeD_len, show (↑n : Int).toNat = n from Int.toNat_natCast n]
        have e : (List.range n).map (fun i => D.int (seedAt s0 (i + 1) / 65536 % 1000)) = (lawRow ns k n).map .int := by
          unfold lawRow
          rw [if_neg hc18, List.map_map, ← hc] <;> rfl
        show Φ (.lst ((List.range n).map fun i => D.int (seedAt s0 (i + 1) / 65536 % 1000))) M
        rw [e]
        exact q
  refine ⟨fun hb => ?_, fun hb => ?_⟩
  · have hlt : k < (ns.length : Int) := of_decide_eq_true hb
    exact ⟨_, getD_of hk0 hlt, key _ rfl⟩
  · have hge : ¬ k < (ns.length : Int) := of_decide_eq_false hb
    refine key 0 ?_
    unfold cellAt
    rw [if_neg hge]
end My

set_option Elab.async false
set_option linter.all false
set_option maxRecDepth 100000
set_option maxHeartbeats 4000000
namespace My
open PySem PySem.Spec PyProof.Rows L2 DL
open Evl (Ex)
/-! ### trees of pairs over ints: values, kinds -/
inductive T where
  | n (i : Int) | p (a b : T)
  deriving DecidableEq
def T.D : T → DL.D
  | .n i => .int i
  | .p a b => .tup [a.D, b.D]
def T.dep : T → Nat
  | .n _ => 0
  | .p a b => 1 + max a.dep b.dep
def T.isZ : T → Bool
  | .n i => decide (i = 0)
  | .p _ _ => false
theorem T.pure : ∀ t : T, t.D.pure = true
  | .n _ => rfl
  | .p a b => by
    show (a.D.pure && (b.D.pure && true)) = true
    rw [a.pure, b.pure] <;> rfl
theorem T.lay : ∀ t : T, t.D.py.canLay0 = true
  | .n _ => rfl
  | .p a b => by
    show (a.D.py.canLay0 && (b.D.py.canLay0 && true)) = true
    rw [a.lay, b.lay] <;> rfl
theorem T.pdep : ∀ t : T, t.D.py.depth ≤ t.dep
  | .n _ => Nat.le_refl 0
  | .p a b => by
    show max a.D.py.depth (max b.D.py.depth 0) + 1 ≤ 1 + max a.dep b.dep
    have h1 := a.pdep
    have h2 := b.pdep
    omega
theorem T.shaped {t : T} (h : t.dep ≤ 60) : SeqAt.shaped t.D.py = true := by
  unfold SeqAt.shaped
  rw [t.lay, Bool.true_and]
  have := t.pdep
  exact decide_eq_true (by omega)
/-- t == 0 -/
theorem eq_zero {t : T} (h : t.dep ≤ 60) {Φ : DL.D → Prop} (k : Φ (.bl t.isZ)) : dEqA t.D (.int 0) Φ := by
  cases t with
  | n i => exact k
  | p a b => exact ⟨T.pure _, rfl, T.shaped h, rfl, k⟩
def oD : Option T → DL.D
  | none => .non
  | some t => t.D
theorem oD_isNon (x : Option T) : (oD x).isNon = x.isNone := by
  cases x with
  | none => rfl
  | some t => cases t <;> rfl
theorem T.isNon (t : T) : t.D.isNon = false := by cases t <;> rfl
end My

set_option Elab.async false
set_option linter.all false
set_option maxRecDepth 100000
set_option maxHeartbeats 4000000
/-! list comprehensions, walks -/
namespace DL
open PySem PySem.Spec PyProof.Rows L2
open Evl (Ex)

/-! ### readings whatever the rest -/
def tOf (K : PySem.W.Frag) (r : RE) : TE := fun σ H Q => ∃ (Z : Zx) (M : Mem) (Δ : List Sl) (F : Hp) (Φ : D → List Sl → Mem → Prop), Cn K Z M σ H Δ F ∧ r Δ M Φ ∧ ∀ v H' d Δ' M' F', Ex F F' → Cn K Z M' σ H' Δ' F' → Rp K F' d v → Φ d Δ' M' → Q v H'
theorem pe_of {X : Cx} {e : Expr} {r : RE} (h : ∀ Z, QE X Z e r) : PE X e (tOf X.K r) := by
  refine ⟨fun pins s σ H Q I hw => ?_⟩
  obtain ⟨Z, M, Δ, F, Φ, c, k, q⟩ := hw
  obtain ⟨t, p, sim⟩ := h Z
  exact p.run pins s σ H Q I (sim M σ H Δ F Φ c k Q q)
def ttOf (K : PySem.W.Frag) (r : RT) : TT := fun σ H Q => ∃ (Z : Zx) (M : Mem) (Δ : List Sl) (F : Hp) (Φ : Bool → List Sl → Mem → Prop), Cn K Z M σ H Δ F ∧ r Δ M Φ ∧ ∀ b H' Δ' M' F', Ex F F' → Cn K Z M' σ H' Δ' F' → Φ b Δ' M' → Q b H'
theorem pts_of {X : Cx} {e : Expr} {r : RT} (h : ∀ Z, QT X Z e r) : PTs X [e] (ttOf X.K r) := by
  refine ⟨fun pins s σ H Q I hw => ?_⟩
  obtain ⟨Z, M, Δ, F, Φ, c, k, q⟩ := hw
  obtain ⟨t, p, sim⟩ := h Z
  exact (pts_one p).run pins s σ H Q I (sim M σ H Δ F Φ c k Q q)
def dYes : RT := fun Δ M Φ => Φ true Δ M
theorem pts_yes {X : Cx} : PTs X [] (ttOf X.K dYes) := by
  refine ⟨fun pins s σ H Q I hw => ?_⟩
  obtain ⟨Z, M, Δ, F, Φ, c, k, q⟩ := hw
  exact pts_nil.run pins s σ H Q I (q true H Δ M F (Ex.refl _) c k)

/-! ### what is walked -/
/-- J walks over the items ds, represented in F -/
def WalkD (K : PySem.W.Frag) (J : It) (ds : List D) (F : Hp) : Prop := ∃ (G : Hp → Prop) (Y : Nat → Hp → V → Hp → Prop), Walk J ds.length G Y ∧ (∀ H, Ex F H → G H) ∧
  ∀ i H x H1 d, ds[i]? = some d → Ex F H → Y i H x H1 → (H1 = H ∧ Rp K F d x) ∨ ∃ T vs es, x = .ref T ∧ H T = none ∧ H1 = upd H T (.tup vs) ∧ d = .tup es ∧ Rps K F es vs
theorem Cn.step {K : PySem.W.Frag} {Z : Zx} {M : Mem} {σ : L2.St} {H H1 F F0 : Hp} {Δ : List Sl} {d : D} {x : V} (c : Cn K Z M σ H Δ F) (e : Ex F0 F)
    (y : (H1 = H ∧ Rp K F0 d x) ∨ ∃ T vs es, x = .ref T ∧ H T = none ∧ H1 = upd H T (.tup vs) ∧ d = .tup es ∧ Rps K F0 es vs) : ∃ F1, Ex F F1 ∧ Cn K Z M σ H1 Δ F1 ∧ Rp K F1 d x := by
  rcases y with ⟨e1, r⟩ | ⟨T, vs, es, e1, hT, e2, e3, r⟩
  · subst e1
    exact ⟨F, Ex.refl _, c, rp_mono e _ _ r⟩
  · subst e1 e2 e3
    exact ⟨_, c.bs.exF hT _, c.new hT _, T, vs, rfl, SqT.of upd_same, rps_mono (e.trans (c.bs.exF hT _)) _ _ r⟩
abbrev RI := RA
def SimI (K : PySem.W.Frag) (Z : Zx) (w : TI) (r : RI) : Prop := ∀ (M : Mem) (σ : L2.St) (H : Hp) (Δ : List Sl) (F : Hp) (Φ : List D → List Sl → Mem → Prop), Cn K Z M σ H Δ F → r Δ M Φ →
  ∀ R : It → Hp → Prop, (∀ J H' ds Δ' M' F', Ex F F' → Cn K Z M' σ H' Δ' F' → WalkD K J ds F' → Φ ds Δ' M' → R J H') → w σ H R
def QI (X : Cx) (Z : Zx) (tg e : Expr) (r : RI) : Prop := ∃ w, PI X tg e w ∧ SimI X.K Z w r
def iOf (K : PySem.W.Frag) (r : RI) : TI := fun σ H R => ∃ (Z : Zx) (M : Mem) (Δ : List Sl) (F : Hp) (Φ : List D → List Sl → Mem → Prop), Cn K Z M σ H Δ F ∧ r Δ M Φ ∧ ∀ J H' ds Δ' M' F', Ex F F' → Cn K Z M' σ H' Δ' F' → WalkD K J ds F' → Φ ds Δ' M' → R J H'
theorem pi_of {X : Cx} {tg e : Expr} {r : RI} (h : ∀ Z, QI X Z tg e r) : PI X tg e (iOf X.K r) := by
  refine ⟨fun pins s σ H R I hw => ?_⟩
  obtain ⟨Z, M, Δ, F, Φ, c, k, q⟩ := hw
  obtain ⟨w, p, sim⟩ := h Z
  exact p.run pins s σ H R I (sim M σ H Δ F Φ c k R q)
theorem walkD_list {K : PySem.W.Frag} {F : Hp} {a : Addr} {xs : List V} {ds : List D} (hx : SqL K F a xs) (hr : Rps K F ds xs) : WalkD K (Itl K a) ds F := by
  refine ⟨fun H => SqL K H a xs, YAt xs, by rw [← rps_len hr]; exact walk_list (K := K) (a := a) (xs := xs), fun H e => Evl.ex_l e hx, fun i H x H1 d hd e y => .inl ⟨y.1, ?_⟩⟩
  obtain ⟨v, h1, h2⟩ := rps_get hr hd
  rw [y.2] at h1
  cases h1
  exact h2
theorem walkD_tup {K : PySem.W.Frag} {F : Hp} {a : Addr} {xs : List V} {ds : List D} (hx : SqT K F a xs) (hr : Rps K F ds xs) : WalkD K (Itt K a) ds F := by
  refine ⟨fun H => SqT K H a xs, YAt xs, by rw [← rps_len hr]; exact walk_tup (K := K) (a := a) (xs := xs), fun H e => Evl.ex_t e hx, fun i H x H1 d hd e y => .inl ⟨y.1, ?_⟩⟩
  obtain ⟨v, h1, h2⟩ := rps_get hr hd
  rw [y.2] at h1
  cases h1
  exact h2
theorem walkD_range {K : PySem.W.Frag} {F : Hp} {lo : Int} {n : Nat} : WalkD K (Itr lo n) (rangeD lo n) F := by
  refine ⟨fun _ => True, YFn fun i => .int (lo + i), by rw [rangeD_len]; exact walk_range (lo := lo) (n := n), fun H e => trivial, fun i H x H1 d hd e y => .inl ⟨y.1, ?_⟩⟩
  have hi : i < n := by
    have := (List.getElem?_eq_some_iff.mp hd).1
    rwa [rangeD_len] at this
  rw [rangeD_get hi] at hd
  cases hd
  exact y.2
/-- the items of what is frozen -/
def dItems (r : RE) : RI := fun Δ M Φ => r Δ M fun x Δ1 M1 => match x with
  | .lst ds => Φ ds Δ1 M1
  | .scr ns => Φ (ns.map .int) Δ1 M1
  | .tup ds => Φ ds Δ1 M1
  | _ => False
section
variable {X : Cx} {Z : Zx} {e a b tg : Expr} {ra rb r : RE} {pos : Pos}
theorem qi_seq (h : QE X Z e r) : QI X Z tg e (dItems r) := by
  obtain ⟨t, p, s⟩ := h
  refine ⟨_, pi_seq p, fun M σ H Δ F Φ c h R q => ?_⟩
  refine s M σ H Δ F _ c h _ fun v H1 y Δ1 M1 F1 e1 c1 r1 h1 => ?_
  cases y with
  | lst ds =>
    obtain ⟨a, vs, e2, g1, g2⟩ := r1
    exact ⟨a, e2, .inl ⟨⟨_, SqL.of (c1.bs.fH _ _ g1)⟩, q _ H1 ds Δ1 M1 F1 e1 c1 (walkD_list (SqL.of g1) g2) h1⟩⟩
  | scr ns =>
    obtain ⟨a, e2, g1⟩ := r1
    exact ⟨a, e2, .inl ⟨⟨_, Evl.ex_l c1.bs.fH g1⟩, q _ H1 _ Δ1 M1 F1 e1 c1 (walkD_list g1 (ints_rps ns)) h1⟩⟩
  | tup ds =>
    obtain ⟨a, vs, e2, g1, g2⟩ := r1
    exact ⟨a, e2, .inr ⟨⟨_, Evl.ex_t c1.bs.fH g1⟩, q _ H1 ds Δ1 M1 F1 e1 c1 (walkD_tup g1 g2) h1⟩⟩
  | _ => exact h1.elim
def dRng (r : RE) : RI := fun Δ M Φ => r Δ M fun x Δ1 M1 => match x with
  | .int k => (-(2 ^ 62) ≤ k ∧ k < 2 ^ 62) ∧ Φ (rangeD 0 k.toNat) Δ1 M1
  | _ => False
def dRng2 (ra rb : RE) : RI := fun Δ M Φ => ra Δ M fun x Δ1 M1 => rb Δ1 M1 fun y Δ2 M2 => match x, y with
  | .int lo, .int hi => (-(2 ^ 62) ≤ lo ∧ lo < 2 ^ 62 ∧ -(2 ^ 62) ≤ hi ∧ hi < 2 ^ 62) ∧ Φ (rangeD lo (hi - lo).toNat) Δ2 M2
  | _, _ => False
theorem qi_range {p2 p1 : Pos} (hg : Gl X "range") (hm : X.mg "range" = none) (h : QE X Z e r) (hst : starEach [e] X.env = [(false, eval e X.env)] := by rfl) : QI X Z tg (.Call (.Name "range" p1) [e] [] p2) (dRng r) := by
  obtain ⟨t, p, s⟩ := h
  refine ⟨_, pi_range1 hg hm (pa_cons p pa_nil hst) hst, fun M σ H Δ F Φ c h R q => ?_⟩
  refine s M σ H Δ F _ c h _ fun v H1 y Δ1 M1 F1 e1 c1 r1 h1 => ?_
  cases y with
  | int k => exact ⟨k, by rw [show v = .int k from r1], h1.1.1, h1.1.2, q _ H1 _ Δ1 M1 F1 e1 c1 walkD_range h1.2⟩
  | _ => exact h1.elim
theorem qi_range2 {p2 p1 : Pos} (hg : Gl X "range") (hm : X.mg "range" = none) (ha : QE X Z a ra) (hb : QE X Z b rb) (hst : starEach [a, b] X.env = [(false, eval a X.env), (false, eval b X.env)] := by rfl) (hst1 : starEach [a, b] X.env = (false, eval a X.env) :: starEach [b] X.env := by rfl) (hst2 : starEach [b] X.env = [(false, eval b X.env)] := by rfl) : QI X Z tg (.Call (.Name "range" p1) [a, b] [] p2) (dRng2 ra rb) := by
  obtain ⟨t, p, s⟩ := ha
  obtain ⟨t', p', s'⟩ := hb
  refine ⟨_, pi_range2 hg hm (pa_cons p (pa_cons p' pa_nil hst2) hst1) hst hst2, fun M σ H Δ F Φ c h R q => ?_⟩
  refine s M σ H Δ F _ c h _ fun v H1 y Δ1 M1 F1 e1 c1 r1 h1 => ?_
  refine s' M1 σ H1 Δ1 F1 _ c1 h1 _ fun v2 H2 y2 Δ2 M2 F2 e2 c2 r2 h2 => ?_
  split at h2
  · exact ⟨_, _, by rw [show v = _ from r1, show v2 = _ from r2], h2.1, q _ H2 _ Δ2 M2 F2 (e1.trans e2) c2 walkD_range h2.2⟩
  · exact h2.elim
end

/-! ### for over any walk -/
theorem loop_walk {K : PySem.W.Frag} {Z : Zx} {J : It} {ds : List D} {g : TG} {tg : RG} (hg : SimG K Z g tg) {js : List Nat} {t : TS} {u : RS} (hu : SimS K Z t u) {M : Mem} {σ : L2.St} {H F : Hp} {Δ : List Sl} {De : DE} {Dv : Ends} (c : Cn K Z M σ H Δ F)
    (w : WalkD K J ds F) (h : dLoopG tg js ds u De Δ M) (ok : EndsOk K Z F De Dv) :
    ∃ W : Nat → Nat → L2.St → Hp → Prop, (∃ m, W 0 m σ H) ∧ ∀ i m σ H, W i m σ H →
      (J.stop i H ∧ Dv.nx σ H) ∨ (J.go i H ∧ ∃ N : L2.St → Hp → Prop, (∀ σ' H', N σ' H' → ∃ m', m' < m ∧ W (i + 1) m' σ' H') ∧ ∀ x H', J.yld i H x H' → g x σ H' fun σ2 H2 => t { Dv with nx := N, ct := N, bk := Dv.nx } σ2 H2) := by
  obtain ⟨Pv, h0, hs, hd⟩ := h
  obtain ⟨G, Y, w, hG, hY⟩ := w
  refine for_it w (fun i σ H => ∃ Δ M F', Ex F F' ∧ Cn K Z M σ H Δ F' ∧ Pv i Δ M) ⟨_, M, F, Ex.refl _, cn_fgt js _ c, h0⟩ ?_ ?_ ?_
  · rintro i σ H _ ⟨Δ, M, F', e, c, _⟩
    exact hG H (e.trans c.bs.fH)
  · rintro i x σ H H' hi ⟨Δ, M, F', e, c, hp⟩ y
    have hd' : ds[i]? = some ds[i] := List.getElem?_eq_getElem hi
    obtain ⟨F2, e2, c2, r⟩ := c.step e (hY i H x H' _ hd' (e.trans c.bs.fH) y)
    exact hg M σ H' Δ F2 _ x _ c2 r (hs i _ Δ M hd' hp) _ fun σ2 Δ2 c3 h3 => hu M σ2 H' Δ2 F2 _ c3 h3 _ (endsLoop (js := js) (Pv := Pv) ok (e.trans e2) fun σ' H'' Δ' M' F'' e1 c' k => ⟨Δ', M', F'', (e.trans e2).trans e1, c', k⟩)
  · rintro σ H ⟨Δ, M, F', e, c, hp⟩
    exact ok.nx σ H Δ M F' e c (hd _ _ hp)
def dForI (tg : RG) (js : List Nat) (ri : RI) (u : RS) : RS := fun D Δ M => ri Δ M fun ds Δ1 M1 => dLoopG tg js ds u D Δ1 M1
theorem qs_forI {X : Cx} {Z : Zx} {pos : Pos} {tge : Expr} {g : TG} {tg : RG} {ri : RI} {js : List Nat} {body : List Stmt} {iter : Expr} {u : RS} (hp : PassesOwn (model X.prog X.w) X.A X.env X.xe) (hc : X.calm = true) (h : QI X Z tge iter ri) (hg : PG X tge g) (sg : SimG X.K Z g tg) (hb : QSs X Z body u)
    (hs : ∀ x, foldedSetIterable iter X.env x = pure x := by intro _; rfl) : QS X Z (.For tge iter body [] pos) (dForI tg js ri u) := by
  obtain ⟨w, p, s⟩ := h
  obtain ⟨tb, pb, sb⟩ := hb
  refine ⟨_, ps_for hp hc p hg pb hs, fun M σ H Δ F De c h Dv ok => ?_⟩
  exact s M σ H Δ F _ c h _ fun J H1 ds Δ1 M1 F1 e1 c1 w1 h1 => loop_walk sg sb c1 w1 h1 (ok.mono e1)

/-! ### slots forgotten in a block -/
def wipeD (Δ : List Sl) : List Nat → List Sl
  | [] => Δ
  | v :: vs => (wipeD Δ vs).set v .un
theorem Cn.wipe {K : PySem.W.Frag} {Z : Zx} {M : Mem} {σ : L2.St} {H F : Hp} {Δ : List Sl} (c : Cn K Z M σ H Δ F) : ∀ vs, Cn K Z M (L2.wipe σ vs) H (wipeD Δ vs) F
  | [] => c
  | v :: vs => (c.wipe vs).emptied v
theorem wipe_at {σ : L2.St} {i : Nat} : ∀ {vs : List Nat}, (L2.wipe σ vs)[i]? = if i ∈ vs then (if i < σ.length then some none else none) else σ[i]?
  | [] => by simp [L2.wipe]
  | v :: vs => by
    unfold L2.wipe
    by_cases e : v = i
    · subst e
      rw [if_pos List.mem_cons_self]
      by_cases hl : v < σ.length
      · rw [if_pos hl, List.getElem?_set_self (by rw [wipe_length]; exact hl)]
      · rw [if_neg hl, List.getElem?_eq_none (by rw [List.length_set, wipe_length]; omega)]
    · rw [List.getElem?_set_ne e, wipe_at (vs := vs)]
      have : (i ∈ v :: vs) ↔ i ∈ vs := by
        constructor
        · intro h
          rcases List.mem_cons.mp h with h | h
          · exact absurd h.symm e
          · exact h
        · exact fun h => List.mem_cons_of_mem _ h
      simp only [this]
theorem wipe_set {σ : L2.St} {j : Nat} {x : Option V} {vs : List Nat} (h : j ∈ vs) : L2.wipe (σ.set j x) vs = L2.wipe σ vs := by
  apply List.ext_getElem?
  intro i
  rw [wipe_at, wipe_at, List.length_set]
  by_cases hi : i ∈ vs
  · rw [if_pos hi, if_pos hi]
  · rw [if_neg hi, if_neg hi, List.getElem?_set_ne (by intro e; subst e; exact hi h)]
theorem wipe_wipe {σ : L2.St} {vs us : List Nat} (h : ∀ i ∈ us, i ∈ vs) : L2.wipe (L2.wipe σ us) vs = L2.wipe σ vs := by
  apply List.ext_getElem?
  intro i
  by_cases hi : i ∈ vs
  · rw [wipe_at (vs := vs), wipe_at (vs := vs), if_pos hi, if_pos hi, wipe_length]
  · rw [wipe_at (vs := vs), wipe_at (vs := vs), if_neg hi, if_neg hi, wipe_at, if_neg (fun e => hi (h i e))]
theorem wipeD_at {Δ : List Sl} {i : Nat} {s : Sl} : ∀ {vs : List Nat}, (wipeD Δ vs)[i]? = some s → (i ∈ vs ∧ s = .un) ∨ (i ∉ vs ∧ Δ[i]? = some s)
  | [], h => .inr ⟨by simp, h⟩
  | v :: vs, h => by
    unfold wipeD at h
    rcases get_set h with ⟨e, _, e2⟩ | ⟨e, h'⟩
    · exact .inl ⟨e ▸ List.mem_cons_self, e2⟩
    · rcases wipeD_at h' with ⟨h1, h2⟩ | ⟨h1, h2⟩
      · exact .inl ⟨List.mem_cons_of_mem _ h1, h2⟩
      · refine .inr ⟨fun hm => ?_, h2⟩
        rcases List.mem_cons.mp hm with hm | hm
        · exact e hm.symm
        · exact h1 hm
theorem wipeD_len {Δ : List Sl} : ∀ vs, (wipeD Δ vs).length = Δ.length
  | [] => rfl
  | v :: vs => by
    unfold wipeD
    rw [List.length_set, wipeD_len vs]
/-- behind the block: the slots of the def -/
theorem Cn.unwipe {K : PySem.W.Frag} {Z : Zx} {M : Mem} {σ : L2.St} {H F : Hp} {Δ : List Sl} {vs : List Nat} (c : Cn K Z M (L2.wipe σ vs) H Δ F) : Cn K Z M σ H (wipeD Δ vs) F where
  bs := c.bs
  len := by rw [wipeD_len, c.len, wipe_length]
  slot := fun i s h => by
    rcases wipeD_at h with ⟨_, e⟩ | ⟨h1, h2⟩
    · subst e; exact True.intro
    · have q := c.slot i s h2
      rw [wipe_at, if_neg h1] at q
      exact q
  sep := fun i j a ds es hne h1 h2 h3 h4 => by
    rcases wipeD_at h1 with ⟨_, e⟩ | ⟨n1, g1⟩
    · cases e
    rcases wipeD_at h2 with ⟨_, e⟩ | ⟨n2, g2⟩
    · cases e
    exact c.sep i j a ds es hne g1 g2 (by rw [wipe_at, if_neg n1]; exact h3) (by rw [wipe_at, if_neg n2]; exact h4)

/-! ### the list that is being made -/
section
variable {K : PySem.W.Frag} {Z : Zx} {M : Mem} {σ : L2.St} {H F : Hp} {Δ : List Sl} {p : Addr} {o o' : HO}
theorem Cn.guard (c : Cn K Z M σ H Δ F) (hp : H p = none) : Cn K ⟨upd Z.R p o, Z.F0⟩ M σ (upd H p o) Δ F where
  bs := {
    f0 := c.bs.f0
    fH := c.bs.fH.trans (Ex.new hp)
    rH := fun a u h => by
      by_cases e : a = p
      · subst e; rw [upd_same]; rw [show (⟨upd Z.R a o, Z.F0⟩ : Zx).R = upd Z.R a o from rfl, upd_same] at h; exact h
      · rw [show (⟨upd Z.R p o, Z.F0⟩ : Zx).R = upd Z.R p o from rfl, upd_ne e] at h; rw [upd_ne e]; exact c.bs.rH a u h
    fr := fun a u h => by
      have e : a ≠ p := fun e => by subst e; rw [c.bs.freeF hp] at h; cases h
      show upd Z.R p o a = none
      rw [upd_ne e]; exact c.bs.fr a u h
    mm := fun a u h => by
      have e : a ≠ p := fun e => by subst e; rw [c.bs.freeM hp] at h; cases h
      obtain ⟨h1, h2, h3⟩ := c.bs.mm a u h
      exact ⟨h1, by show upd Z.R p o a = none; rw [upd_ne e]; exact h2, by rw [upd_ne e]; exact h3⟩ }
  len := c.len
  slot := fun i s h => by
    have k := c.slot i s h
    cases s with
    | un => exact k
    | d d => exact k
    | own ds =>
      obtain ⟨a, vs, e1, h1, h2, h3, h4, h5⟩ := k
      have e : a ≠ p := ne_of_none h1 hp
      exact ⟨a, vs, e1, by rw [upd_ne e]; exact h1, h2, h3, by show upd Z.R p o a = none; rw [upd_ne e]; exact h4, h5⟩
  sep := c.sep
theorem Cn.guardF (c : Cn K ⟨upd Z.R p o, Z.F0⟩ M σ H Δ F) : F p = none ∧ M p = none ∧ H p = some o := by
  have hr : (⟨upd Z.R p o, Z.F0⟩ : Zx).R p = some o := upd_same
  refine ⟨?_, ?_, c.bs.rH p o hr⟩
  · cases h : F p with
    | none => rfl
    | some u => have := c.bs.fr p u h; rw [hr] at this; cases this
  · cases h : M p with
    | none => rfl
    | some u => have := (c.bs.mm p u h).2.1; rw [hr] at this; cases this
theorem Cn.reguard (c : Cn K ⟨upd Z.R p o, Z.F0⟩ M σ H Δ F) : Cn K ⟨upd Z.R p o', Z.F0⟩ M σ (upd H p o') Δ F := by
  obtain ⟨hF, hM, hH⟩ := c.guardF
  have ne : ∀ a, (⟨upd Z.R p o, Z.F0⟩ : Zx).R a = none → a ≠ p := fun a h e => by
    subst e
    rw [show (⟨upd Z.R a o, Z.F0⟩ : Zx).R a = some o from upd_same] at h
    cases h
  have cv : ∀ a, a ≠ p → (⟨upd Z.R p o, Z.F0⟩ : Zx).R a = none → (⟨upd Z.R p o', Z.F0⟩ : Zx).R a = none := fun a e h => by
    show upd Z.R p o' a = none
    rw [upd_ne e]
    rwa [show (⟨upd Z.R p o, Z.F0⟩ : Zx).R a = upd Z.R p o a from rfl, upd_ne e] at h
  exact {
    bs := {
      f0 := c.bs.f0
      fH := fun a u h => by
        have e : a ≠ p := fun e => by subst e; rw [hF] at h; cases h
        rw [upd_ne e]; exact c.bs.fH a u h
      rH := fun a u h => by
        by_cases e : a = p
        · subst e
          rw [show (⟨upd Z.R a o', Z.F0⟩ : Zx).R a = some o' from upd_same] at h
          rw [upd_same]; exact h
        · rw [show (⟨upd Z.R p o', Z.F0⟩ : Zx).R a = upd Z.R p o' a from rfl, upd_ne e] at h
          rw [upd_ne e]
          exact c.bs.rH a u (by show upd Z.R p o a = some u; rw [upd_ne e]; exact h)
      fr := fun a u h => cv a (fun e => by subst e; rw [hF] at h; cases h) (c.bs.fr a u h)
      mm := fun a u h => by
        have e : a ≠ p := fun e => by subst e; rw [hM] at h; cases h
        obtain ⟨h1, h2, h3⟩ := c.bs.mm a u h
        exact ⟨h1, cv a e h2, by rw [upd_ne e]; exact h3⟩ }
    len := c.len
    slot := fun i s h => by
      have k := c.slot i s h
      cases s with
      | un => exact k
      | d d => exact k
      | own ds =>
        obtain ⟨a, vs, e1, h1, h2, h3, h4, h5⟩ := k
        have e : a ≠ p := ne a h4
        exact ⟨a, vs, e1, by rw [upd_ne e]; exact h1, h2, h3, cv a e h4, h5⟩
    sep := c.sep }
noncomputable def hide (H : Hp) (p : Addr) : Hp := fun a => open Classical in if a = p then none else H a
theorem hide_same {H : Hp} {p : Addr} : hide H p p = none := by unfold hide; rw [if_pos rfl]
theorem hide_ne {H : Hp} {p a : Addr} (h : a ≠ p) : hide H p a = H a := by unfold hide; rw [if_neg h]
theorem upd_hide {H : Hp} {p : Addr} {o : HO} (h : H p = some o) : upd (hide H p) p o = H := by
  funext a
  by_cases e : a = p
  · subst e; rw [upd_same, h]
  · rw [upd_ne e, hide_ne e]
theorem Cn.unguard (c : Cn K ⟨upd Z.R p o, Z.F0⟩ M σ H Δ F) (hR : Z.R p = none) : Cn K Z M σ (hide H p) Δ F := by
  obtain ⟨hF, hM, hH⟩ := c.guardF
  have cv : ∀ a, (⟨upd Z.R p o, Z.F0⟩ : Zx).R a = none → a ≠ p ∧ Z.R a = none := fun a h => by
    have e : a ≠ p := fun e => by
      subst e
      rw [show (⟨upd Z.R a o, Z.F0⟩ : Zx).R a = some o from upd_same] at h
      cases h
    refine ⟨e, ?_⟩
    rwa [show (⟨upd Z.R p o, Z.F0⟩ : Zx).R a = upd Z.R p o a from rfl, upd_ne e] at h
  exact {
    bs := {
      f0 := c.bs.f0
      fH := fun a u h => by
        have e : a ≠ p := fun e => by subst e; rw [hF] at h; cases h
        rw [hide_ne e]; exact c.bs.fH a u h
      rH := fun a u h => by
        have e : a ≠ p := fun e => by subst e; rw [hR] at h; cases h
        rw [hide_ne e]
        exact c.bs.rH a u (by show upd Z.R p o a = some u; rw [upd_ne e]; exact h)
      fr := fun a u h => (cv a (c.bs.fr a u h)).2
      mm := fun a u h => by
        obtain ⟨h1, h2, h3⟩ := c.bs.mm a u h
        exact ⟨h1, (cv a h2).2, by rw [hide_ne (cv a h2).1]; exact h3⟩ }
    len := c.len
    slot := fun i s h => by
      have k := c.slot i s h
      cases s with
      | un => exact k
      | d d => exact k
      | own ds =>
        obtain ⟨a, vs, e1, h1, h2, h3, h4, h5⟩ := k
        exact ⟨a, vs, e1, by rw [hide_ne (cv a h4).1]; exact h1, h2, h3, (cv a h4).2, h5⟩
    sep := c.sep }
end
end DL

set_option Elab.async false
set_option linter.all false
set_option maxRecDepth 100000
set_option maxHeartbeats 4000000
/-! list comprehensions: the readings go through the items, no invariant is asked -/
namespace DL
open PySem PySem.Spec PyProof.Rows L2
open Evl (Ex)

/-- one clause: the items left, the slots of the block, what is made so far -/
def lcGo (vs : List Nat) (tg : RG) (rt : RT) (r : RE) : List D → List Sl → List D → Mem → (List D → List Sl → Mem → Prop) → Prop
  | [], Δ, acc, M, Ψ => Ψ acc Δ M
  | x :: xs, Δ, acc, M, Ψ => tg x Δ fun Δ1 => rt Δ1 M fun b Δ2 M2 => match b with
    | true => r Δ2 M2 fun d Δ3 M3 => lcGo vs tg rt r xs (wipeD Δ3 vs) (acc ++ [d]) M3 Ψ
    | false => lcGo vs tg rt r xs (wipeD Δ2 vs) acc M2 Ψ
/-- [r for tg in ri if rt] -/
def dLc (vs : List Nat) (ri : RI) (tg : RG) (rt : RT) (r : RE) : RA := fun Δ M Φ => ri Δ M fun ds Δ1 M1 => ds.length < sizeLine ∧ lcGo vs tg rt r ds (wipeD Δ1 vs) [] M1 fun acc Δ2 M2 => Φ acc (wipeD Δ2 vs) M2
/-- a target that stores only the block's slots -/
def SimGw (K : PySem.W.Frag) (vs : List Nat) (g : TG) (r : RG) : Prop := ∀ (Z : Zx) (M : Mem) (σ : L2.St) (H : Hp) (Δ : List Sl) (F : Hp) (d : D) (v : V) (Φ : List Sl → Prop), Cn K Z M σ H Δ F → Rp K F d v → r d Δ Φ →
  ∀ Q : L2.St → Hp → Prop, (∀ σ' Δ', Cn K Z M σ' H Δ' F → Φ Δ' → L2.wipe σ' vs = L2.wipe σ vs → Q σ' H) → g v σ H Q
theorem simGw_name {K : PySem.W.Frag} {vs : List Nat} {j : Nat} (h : j ∈ vs) : SimGw K vs (gName j) (tgN j) := fun Z M σ H Δ F d v Φ c r k Q q => q _ _ (c.set r j) k (wipe_set h)
theorem simGw_names {K : PySem.W.Frag} {vs : List Nat} {Z : Zx} {M : Mem} {H F : Hp} {Q : L2.St → Hp → Prop} : ∀ (is : List Nat) (ds : List D) (xs : List V) (σ : L2.St) (Δ : List Sl), (∀ i ∈ is, i ∈ vs) → Cn K Z M σ H Δ F → Rps K F ds xs → ds.length = is.length →
    (∀ σ', Cn K Z M σ' H ((is.zip ds).foldl (fun Δ p => Δ.set p.1 (.d p.2)) Δ) F → L2.wipe σ' vs = L2.wipe σ vs → Q σ' H) → gNames is xs σ H Q
  | [], [], xs, σ, Δ, _, c, r, _, q => by
    exact ⟨r, q σ c rfl⟩
  | i :: is, d :: ds, xs, σ, Δ, hv, c, r, hl, q => by
    obtain ⟨v, w, e, h1, h2⟩ := r
    exact ⟨v, w, e, simGw_names is ds w _ _ (fun j hj => hv j (List.mem_cons_of_mem _ hj)) (c.set h1 i) h2 (by simpa using hl) fun σ' c' e => q σ' c' (e.trans (wipe_set (hv i List.mem_cons_self)))⟩
  | [], _ :: _, _, _, _, _, _, _, hl, _ => by simp at hl
  | _ :: _, [], _, _, _, _, _, _, hl, _ => by simp at hl
theorem simGw_tup {K : PySem.W.Frag} {vs is : List Nat} (hv : ∀ i ∈ is, i ∈ vs) : SimGw K vs (gTup K is.length (gNames is)) (tgU is) := by
  intro Z M σ H Δ F d v Φ c r h Q q
  unfold tgU at h
  split at h
  · obtain ⟨a, xs, e, h1, h2⟩ := r
    exact ⟨a, xs, e, Evl.ex_t c.bs.fH h1, by rw [rps_len h2]; exact h.1, simGw_names is _ xs σ Δ hv c h2 h.1 fun σ' c' e => q σ' _ c' h.2 e⟩
  · exact h.elim

section
variable {K : PySem.W.Frag} {Z : Zx}
/-- between the turns: the new list at p -/
def LcAt (K : PySem.W.Frag) (Z : Zx) (F0 : Hp) (p : Addr) (σ : L2.St) (ds : List D) (G : List D → List Sl → List D → Mem → Prop) (i : Nat) (H : Hp) : Prop :=
  ∃ (Δ : List Sl) (M : Mem) (F : Hp) (acc : List D) (ws : List V), Ex F0 F ∧ Cn K ⟨upd Z.R p (.lst ws), Z.F0⟩ M σ H Δ F ∧ Rps K F acc ws ∧ acc.length ≤ i ∧ G (ds.drop i) Δ acc M
theorem drop_at' {α : Type} {l : List α} {i : Nat} (h : i < l.length) : l.drop i = l[i] :: l.drop (i + 1) := (List.drop_eq_getElem_cons h)
theorem simL_lc {vs : List Nat} {w : TI} {ri : RI} {g : TG} {tg : RG} {rt : RT} {r : RE} (hi : SimI K Z w ri) (hg : SimGw K vs g tg) : SimL K Z (tLc w g (ttOf K rt) (tOf K r) vs) (dLc vs ri tg rt r) := by
  intro M σ H Δ F Φ c h Q q
  refine hi M σ H Δ F _ c h _ fun J H1 ds Δ1 M1 F1 e1 c1 w1 h1 => ?_
  obtain ⟨hz, h1⟩ := h1
  intro p hp
  obtain ⟨G, Y, w1, hG, hY⟩ := w1
  have hpR : Z.R p = none := c1.bs.freeR hp
  refine lc_it w1 (LcAt K Z F1 p (L2.wipe σ vs) ds fun xs Δ acc M => lcGo vs tg rt r xs Δ acc M fun acc Δ2 M2 => Φ acc (wipeD Δ2 vs) M2) ?_ ?_ ?_ ?_
  · exact ⟨wipeD Δ1 vs, M1, F1, [], [], Ex.refl _, (c1.wipe vs).guard hp, rfl, Nat.le_refl _, h1⟩
  · rintro i H2 _ ⟨Δ2, M2, F2, acc, ws, e2, c2, _⟩
    exact hG H2 (e2.trans c2.bs.fH)
  · rintro i x H2 H3 hi' ⟨Δ2, M2, F2, acc, ws, e2, c2, ra, hl, hgo⟩ y
    obtain ⟨F3, e3, c3, rx⟩ := c2.step e2 (hY i H2 x H3 _ (List.getElem?_eq_getElem hi') (e2.trans c2.bs.fH) y)
    rw [drop_at' hi'] at hgo
    refine hg _ M2 _ H3 Δ2 F3 _ x _ c3 rx hgo _ fun σ4 Δ4 c4 h4 hw4 => ⟨by rw [hw4, wipe_wipe (fun i h => h)], ?_⟩
    refine ⟨_, M2, Δ4, F3, _, c4, h4, fun b H5 Δ5 M5 F5 e5 c5 h5 => ?_⟩
    have back : ∀ {H : Hp} {Δ : List Sl} {M : Mem} {F : Hp} {ws : List V}, Cn K ⟨upd Z.R p (.lst ws), Z.F0⟩ M σ4 H Δ F → Cn K ⟨upd Z.R p (.lst ws), Z.F0⟩ M (L2.wipe σ vs) H (wipeD Δ vs) F := fun {H Δ M F ws} c => by
      have q := c.wipe vs
      rw [hw4, wipe_wipe (fun i h => h)] at q
      exact q
    cases b with
    | false =>
      simp only [Bool.false_eq_true, if_false]
      exact ⟨wipeD Δ5 vs, M5, F5, acc, ws, (e2.trans e3).trans e5, back c5, rps_mono (e3.trans e5) _ _ ra, by omega, h5⟩
    | true =>
      simp only [if_true]
      refine ⟨_, M5, Δ5, F5, _, c5, h5, fun v H6 d Δ6 M6 F6 e6 c6 r6 h6 => ?_⟩
      refine ⟨ws, c6.guardF.2.2, by rw [rps_len ra]; omega, ?_⟩
      exact ⟨wipeD Δ6 vs, M6, F6, acc ++ [d], ws ++ [v], ((e2.trans e3).trans e5).trans e6, (back c6).reguard, rps_app (rps_mono ((e3.trans e5).trans e6) _ _ ra) (rps_one r6), by rw [List.length_append, List.length_singleton]; omega, h6⟩
  · rintro H2 ⟨Δ2, M2, F2, acc, ws, e2, c2, ra, hl, hgo⟩
    rw [List.drop_length] at hgo
    have hH : H2 p = some (.lst ws) := c2.guardF.2.2
    have := q p (hide H2 p) ws acc (wipeD Δ2 vs) M2 F2 (e1.trans e2) (c2.unguard hpR).unwipe hide_same ra hgo
    rw [upd_hide hH] at this
    exact this

/-- two clauses -/
def lcGo2 (vs us : List Nat) (tg : RG) (rt : RT) (ri1 : RI) (tg1 : RG) (rt1 : RT) (r : RE) : List D → List Sl → List D → Mem → (List D → List Sl → Mem → Prop) → Prop
  | [], Δ, acc, M, Ψ => Ψ acc Δ M
  | x :: xs, Δ, acc, M, Ψ => tg x Δ fun Δ1 => rt Δ1 M fun b Δ2 M2 => match b with
    | true => ri1 Δ2 M2 fun es Δ3 M3 => acc.length + es.length < sizeLine ∧ lcGo us tg1 rt1 r es (wipeD Δ3 us) acc M3 fun acc' Δ4 M4 => lcGo2 vs us tg rt ri1 tg1 rt1 r xs (wipeD Δ4 vs) acc' M4 Ψ
    | false => lcGo2 vs us tg rt ri1 tg1 rt1 r xs (wipeD Δ2 vs) acc M2 Ψ
def dLc2 (vs us : List Nat) (ri : RI) (tg : RG) (rt : RT) (ri1 : RI) (tg1 : RG) (rt1 : RT) (r : RE) : RA := fun Δ M Φ => ri Δ M fun ds Δ1 M1 => lcGo2 vs us tg rt ri1 tg1 rt1 r ds (wipeD Δ1 vs) [] M1 fun acc Δ2 M2 => Φ acc (wipeD Δ2 vs) M2
def LcAt2 (K : PySem.W.Frag) (Z : Zx) (F0 : Hp) (p : Addr) (σ : L2.St) (ds : List D) (G : List D → List Sl → List D → Mem → Prop) (i : Nat) (H : Hp) : Prop :=
  ∃ (Δ : List Sl) (M : Mem) (F : Hp) (acc : List D) (ws : List V), Ex F0 F ∧ Cn K ⟨upd Z.R p (.lst ws), Z.F0⟩ M σ H Δ F ∧ Rps K F acc ws ∧ G (ds.drop i) Δ acc M
def LcIn (K : PySem.W.Frag) (Z : Zx) (F0 : Hp) (p : Addr) (σ : L2.St) (ds : List D) (n : Nat) (G : List D → List Sl → List D → Mem → Prop) (i : Nat) (H : Hp) : Prop :=
  ∃ (Δ : List Sl) (M : Mem) (F : Hp) (acc : List D) (ws : List V), Ex F0 F ∧ Cn K ⟨upd Z.R p (.lst ws), Z.F0⟩ M σ H Δ F ∧ Rps K F acc ws ∧ acc.length ≤ n + i ∧ G (ds.drop i) Δ acc M
theorem simL_lc2 {vs us : List Nat} {w : TI} {ri ri1 : RI} {g g1 : TG} {tg tg1 : RG} {rt rt1 : RT} {r : RE} (hi : SimI K Z w ri) (hg : SimGw K vs g tg) (hg1 : SimGw K us g1 tg1) (hu : ∀ i ∈ us, i ∈ vs) :
    SimL K Z (tLc2 w g (ttOf K rt) (iOf K ri1) g1 (ttOf K rt1) (tOf K r) vs us) (dLc2 vs us ri tg rt ri1 tg1 rt1 r) := by
  intro M σ H Δ F Φ c h Q q
  refine hi M σ H Δ F _ c h _ fun J H1 ds Δ1 M1 F1 e1 c1 w1 h1 => ?_
  intro p hp
  obtain ⟨G, Y, w1, hG, hY⟩ := w1
  have hpR : Z.R p = none := c1.bs.freeR hp
  refine ⟨fun i m H => m = ds.length - i ∧ i ≤ ds.length ∧ LcAt2 K Z F1 p (L2.wipe σ vs) ds (fun xs Δ acc M => lcGo2 vs us tg rt ri1 tg1 rt1 r xs Δ acc M fun acc Δ2 M2 => Φ acc (wipeD Δ2 vs) M2) i H, ⟨_, rfl, Nat.zero_le _, wipeD Δ1 vs, M1, F1, [], [], Ex.refl _, (c1.wipe vs).guard hp, rfl, h1⟩, ?_⟩
  rintro i m H2 ⟨rfl, hle, Δ2, M2, F2, acc, ws, e2, c2, ra, hgo⟩
  have gH : G H2 := hG H2 (e2.trans c2.bs.fH)
  by_cases hi' : i < ds.length
  · refine .inr ⟨w1.goes i H2 hi' gH, LcAt2 K Z F1 p (L2.wipe σ vs) ds (fun xs Δ acc M => lcGo2 vs us tg rt ri1 tg1 rt1 r xs Δ acc M fun acc Δ2 M2 => Φ acc (wipeD Δ2 vs) M2) (i + 1), fun H' p' => ⟨ds.length - (i + 1), by omega, rfl, hi', p'⟩, fun x H3 y => ?_⟩
    obtain ⟨F3, e3, c3, rx⟩ := c2.step e2 (hY i H2 x H3 _ (List.getElem?_eq_getElem hi') (e2.trans c2.bs.fH) (w1.yields i H2 x H3 hi' gH y))
    rw [drop_at' hi'] at hgo
    refine hg _ M2 _ H3 Δ2 F3 _ x _ c3 rx hgo _ fun σ4 Δ4 c4 h4 hw4 => ⟨by rw [hw4, wipe_wipe (fun i h => h)], ?_⟩
    refine ⟨_, M2, Δ4, F3, _, c4, h4, fun b H5 Δ5 M5 F5 e5 c5 h5 => ?_⟩
    have back : ∀ {σ' : L2.St} {H : Hp} {Δ : List Sl} {M : Mem} {F : Hp} {ws : List V}, L2.wipe σ' vs = L2.wipe σ4 vs → Cn K ⟨upd Z.R p (.lst ws), Z.F0⟩ M σ' H Δ F → Cn K ⟨upd Z.R p (.lst ws), Z.F0⟩ M (L2.wipe σ vs) H (wipeD Δ vs) F := fun {σ' H Δ M F ws} e c => by
      have q := c.wipe vs
      rw [e, hw4, wipe_wipe (fun i h => h)] at q
      exact q
    cases b with
    | false =>
      simp only [Bool.false_eq_true, if_false]
      exact ⟨wipeD Δ5 vs, M5, F5, acc, ws, (e2.trans e3).trans e5, back rfl c5, rps_mono (e3.trans e5) _ _ ra, h5⟩
    | true =>
      simp only [if_true]
      refine ⟨_, M5, Δ5, F5, _, c5, h5, fun J1 H6 es Δ6 M6 F6 e6 c6 w6 h6 => ?_⟩
      obtain ⟨hz6, h6⟩ := h6
      obtain ⟨G1, Y1, w6, hG1, hY1⟩ := w6
      refine ⟨fun j k H => k = es.length - j ∧ j ≤ es.length ∧ LcIn K Z F6 p (L2.wipe σ4 us) es acc.length (fun xs Δ acc M => lcGo us tg1 rt1 r xs Δ acc M fun acc' Δ4 M4 => lcGo2 vs us tg rt ri1 tg1 rt1 r (ds.drop (i + 1)) (wipeD Δ4 vs) acc' M4 fun acc Δ2 M2 => Φ acc (wipeD Δ2 vs) M2) j H, ⟨_, rfl, Nat.zero_le _, wipeD Δ6 us, M6, F6, acc, ws, Ex.refl _, c6.wipe us, rps_mono ((e3.trans e5).trans e6) _ _ ra, Nat.le_refl _, h6⟩, ?_⟩
      rintro j k H7 ⟨rfl, hle7, Δ7, M7, F7, acc7, ws7, e7, c7, ra7, hl7, hgo7⟩
      have gH7 : G1 H7 := hG1 H7 (e7.trans c7.bs.fH)
      by_cases hj : j < es.length
      · refine .inr ⟨w6.goes j H7 hj gH7, LcIn K Z F6 p (L2.wipe σ4 us) es acc.length (fun xs Δ acc M => lcGo us tg1 rt1 r xs Δ acc M fun acc' Δ4 M4 => lcGo2 vs us tg rt ri1 tg1 rt1 r (ds.drop (i + 1)) (wipeD Δ4 vs) acc' M4 fun acc Δ2 M2 => Φ acc (wipeD Δ2 vs) M2) (j + 1), fun H' p' => ⟨es.length - (j + 1), by omega, rfl, hj, p'⟩, fun x8 H8 y8 => ?_⟩
        obtain ⟨F8, e8, c8, rx8⟩ := c7.step e7 (hY1 j H7 x8 H8 _ (List.getElem?_eq_getElem hj) (e7.trans c7.bs.fH) (w6.yields j H7 x8 H8 hj gH7 y8))
        rw [drop_at' hj] at hgo7
        refine hg1 _ M7 _ H8 Δ7 F8 _ x8 _ c8 rx8 hgo7 _ fun σ9 Δ9 c9 h9 hw9 => ⟨by rw [hw9, wipe_wipe (fun i h => h)], ?_⟩
        refine ⟨_, M7, Δ9, F8, _, c9, h9, fun b H10 Δ10 M10 F10 e10 c10 h10 => ?_⟩
        have back1 : ∀ {H : Hp} {Δ : List Sl} {M : Mem} {F : Hp} {ws : List V}, Cn K ⟨upd Z.R p (.lst ws), Z.F0⟩ M σ9 H Δ F → Cn K ⟨upd Z.R p (.lst ws), Z.F0⟩ M (L2.wipe σ4 us) H (wipeD Δ us) F := fun {H Δ M F ws} c => by
          have q := c.wipe us
          rw [hw9, wipe_wipe (fun i h => h)] at q
          exact q
        cases b with
        | false =>
          simp only [Bool.false_eq_true, if_false]
          exact ⟨wipeD Δ10 us, M10, F10, acc7, ws7, (e7.trans e8).trans e10, back1 c10, rps_mono (e8.trans e10) _ _ ra7, by omega, h10⟩
        | true =>
          simp only [if_true]
          refine ⟨_, M10, Δ10, F10, _, c10, h10, fun v H11 d Δ11 M11 F11 e11 c11 r11 h11 => ?_⟩
          refine ⟨ws7, c11.guardF.2.2, by rw [rps_len ra7]; omega, ?_⟩
          exact ⟨wipeD Δ11 us, M11, F11, acc7 ++ [d], ws7 ++ [v], ((e7.trans e8).trans e10).trans e11, (back1 c11).reguard, rps_app (rps_mono ((e8.trans e10).trans e11) _ _ ra7) (rps_one r11), by rw [List.length_append, List.length_singleton]; omega, h11⟩
      · have e : j = es.length := by omega
        subst e
        rw [List.drop_length] at hgo7
        exact .inl ⟨w6.stops H7 gH7, wipeD Δ7 vs, M7, F7, acc7, ws7, (((e2.trans e3).trans e5).trans e6).trans e7, back (wipe_wipe hu) c7, ra7, hgo7⟩
  · have e : i = ds.length := by omega
    subst e
    rw [List.drop_length] at hgo
    have hH : H2 p = some (.lst ws) := c2.guardF.2.2
    have := q p (hide H2 p) ws acc (wipeD Δ2 vs) M2 F2 (e1.trans e2) (c2.unguard hpR).unwipe hide_same ra hgo
    rw [upd_hide hH] at this
    exact .inl ⟨w1.stops H2 gH, this⟩
end

/-! ### the rules -/
section
variable {X : Cx} {Z : Zx} {elt tge iter tge1 iter1 : Expr} {ifs ifs1 : List Expr} {scope : Scope} {own : List (Str × Nat)} {us vs : List Nat} {pos : Pos} {g g1 : TG} {tg tg1 : RG} {ri ri1 : RI} {rt rt1 : RT} {r : RE}
theorem ql_lc (hc : X.calm = true) (hN : X.N.Nodup) (hi : QI X Z tge iter ri) (ok : BlkOk X.N X.env.scope scope own) (sg : SimGw X.K vs g tg)
    (hg : ∀ (s : Shared) (H : Hp) (C : Addr) (cl : List (Str × Addr)) (fp : List Addr), PG (X.blk s H scope (compEnvC scope cl C X.env) fp) tge g)
    (ht : ∀ (s : Shared) (H : Hp) (C : Addr) (cl : List (Str × Addr)) (fp : List Addr), PTs (X.blk s H scope (compEnvC scope cl C X.env) fp) ifs (ttOf X.K rt))
    (he : ∀ (s : Shared) (H : Hp) (C : Addr) (cl : List (Str × Addr)) (fp : List Addr) (Z : Zx), QE (X.blk s H scope (compEnvC scope cl C X.env) fp) Z elt r)
    (hs : ∀ x, foldedSetIterable iter X.env x = pure x := by intro _; rfl) (hv : own.map (·.2) = vs := by rfl) : QL X Z (.ListComp elt [⟨tge, iter, ifs, 0⟩] scope pos) (dLc vs ri tg rt r) := by
  subst hv
  obtain ⟨w, p, s⟩ := hi
  exact ⟨_, pe_lc (te := tOf X.K r) (tt := ttOf X.K rt) hc hN p ok hg ht (fun s H C cl fp => pe_of (X := X.blk s H scope (compEnvC scope cl C X.env) fp) (he s H C cl fp)) hs, simL_lc s sg⟩
theorem ql_lc2 (hc : X.calm = true) (hN : X.N.Nodup) (hi : QI X Z tge iter ri) (ok : BlkOk X.N X.env.scope scope own) (hu : ∀ i ∈ us, i ∈ vs) (sg : SimGw X.K vs g tg) (sg1 : SimGw X.K us g1 tg1)
    (hg : ∀ (s : Shared) (H : Hp) (C : Addr) (cl : List (Str × Addr)) (fp : List Addr), PG (X.blk s H scope (compEnvC scope cl C X.env) fp) tge g)
    (ht : ∀ (s : Shared) (H : Hp) (C : Addr) (cl : List (Str × Addr)) (fp : List Addr), PTs (X.blk s H scope (compEnvC scope cl C X.env) fp) ifs (ttOf X.K rt))
    (hi1 : ∀ (s : Shared) (H : Hp) (C : Addr) (cl : List (Str × Addr)) (fp : List Addr) (Z : Zx), QI (X.blk s H scope (compEnvC scope cl C X.env) fp) Z tge1 iter1 ri1)
    (hg1 : ∀ (s : Shared) (H : Hp) (C : Addr) (cl : List (Str × Addr)) (fp : List Addr), PG (X.blk s H scope (compEnvC scope cl C X.env) fp) tge1 g1)
    (ht1 : ∀ (s : Shared) (H : Hp) (C : Addr) (cl : List (Str × Addr)) (fp : List Addr), PTs (X.blk s H scope (compEnvC scope cl C X.env) fp) ifs1 (ttOf X.K rt1))
    (he : ∀ (s : Shared) (H : Hp) (C : Addr) (cl : List (Str × Addr)) (fp : List Addr) (Z : Zx), QE (X.blk s H scope (compEnvC scope cl C X.env) fp) Z elt r)
    (hs : ∀ x, foldedSetIterable iter X.env x = pure x := by intro _; rfl) (hs1 : ∀ env x, foldedSetIterable iter1 env x = pure x := by intro _ _; rfl) (hv : own.map (·.2) = vs := by rfl) :
    QL X Z (.ListComp elt [⟨tge, iter, ifs, 0⟩, ⟨tge1, iter1, ifs1, 0⟩] scope pos) (dLc2 vs us ri tg rt ri1 tg1 rt1 r) := by
  subst hv
  obtain ⟨w, p, s⟩ := hi
  exact ⟨_, pe_lc2 (te := tOf X.K r) (tt := ttOf X.K rt) (tt1 := ttOf X.K rt1) (wi1 := iOf X.K ri1) hc hN p ok hu hg ht (fun s H C cl fp => pi_of (X := X.blk s H scope (compEnvC scope cl C X.env) fp) (hi1 s H C cl fp)) hg1 ht1 (fun s H C cl fp => pe_of (X := X.blk s H scope (compEnvC scope cl C X.env) fp) (he s H C cl fp)) hs hs1, simL_lc2 s sg sg1 hu⟩
/-- x = [..] -/
theorem qs_setLc {i : Nat} {y : Str} {py spos : Pos} (hc : X.calm = true) (hN : X.N.Nodup) (hy : X.N[i]? = some y) (hyl : X.env.scope.names.lookup y = some .local)
    (hsw : swapsWith (.ListComp elt [⟨tge, iter, ifs, 0⟩] scope pos) (some (.Name y py)) spos.line X.env = pure true) (hi : QI X Z tge iter ri) (ok : BlkOk X.N X.env.scope scope own) (sg : SimGw X.K vs g tg)
    (hg : ∀ (s : Shared) (H : Hp) (C : Addr) (cl : List (Str × Addr)) (fp : List Addr), PG (X.blk s H scope (compEnvC scope cl C X.env) fp) tge g)
    (ht : ∀ (s : Shared) (H : Hp) (C : Addr) (cl : List (Str × Addr)) (fp : List Addr), PTs (X.blk s H scope (compEnvC scope cl C X.env) fp) ifs (ttOf X.K rt))
    (he : ∀ (s : Shared) (H : Hp) (C : Addr) (cl : List (Str × Addr)) (fp : List Addr) (Z : Zx), QE (X.blk s H scope (compEnvC scope cl C X.env) fp) Z elt r)
    (hs : ∀ x, foldedSetIterable iter X.env x = pure x := by intro _; rfl) (hv : own.map (·.2) = vs := by rfl) : QS X Z (.Assign [.Name y py] (.ListComp elt [⟨tge, iter, ifs, 0⟩] scope pos) spos) (dSetO i (dLc vs ri tg rt r)) := by
  subst hv
  obtain ⟨w, p, s⟩ := hi
  refine ⟨_, ps_setLc (i := i) (te := tOf X.K r) (tt := ttOf X.K rt) hc hN hy hyl hsw p ok hg ht (fun s H C cl fp => pe_of (X := X.blk s H scope (compEnvC scope cl C X.env) fp) (he s H C cl fp)) hs, fun M σ H Δ F De c h Dv ok => ?_⟩
  exact simL_lc s sg M σ H Δ F _ c h _ fun p H1 vs ds Δ1 M1 F1 e1 c1 hp r1 h1 => ok.nx _ _ _ M1 F1 e1 (c1.setOwn hp r1 i) h1
theorem qs_setLc2 {i : Nat} {y : Str} {py spos : Pos} (hc : X.calm = true) (hN : X.N.Nodup) (hy : X.N[i]? = some y) (hyl : X.env.scope.names.lookup y = some .local)
    (hsw : swapsWith (.ListComp elt [⟨tge, iter, ifs, 0⟩, ⟨tge1, iter1, ifs1, 0⟩] scope pos) (some (.Name y py)) spos.line X.env = pure true) (hi : QI X Z tge iter ri) (ok : BlkOk X.N X.env.scope scope own) (hu : ∀ i ∈ us, i ∈ vs) (sg : SimGw X.K vs g tg) (sg1 : SimGw X.K us g1 tg1)
    (hg : ∀ (s : Shared) (H : Hp) (C : Addr) (cl : List (Str × Addr)) (fp : List Addr), PG (X.blk s H scope (compEnvC scope cl C X.env) fp) tge g)
    (ht : ∀ (s : Shared) (H : Hp) (C : Addr) (cl : List (Str × Addr)) (fp : List Addr), PTs (X.blk s H scope (compEnvC scope cl C X.env) fp) ifs (ttOf X.K rt))
    (hi1 : ∀ (s : Shared) (H : Hp) (C : Addr) (cl : List (Str × Addr)) (fp : List Addr) (Z : Zx), QI (X.blk s H scope (compEnvC scope cl C X.env) fp) Z tge1 iter1 ri1)
    (hg1 : ∀ (s : Shared) (H : Hp) (C : Addr) (cl : List (Str × Addr)) (fp : List Addr), PG (X.blk s H scope (compEnvC scope cl C X.env) fp) tge1 g1)
    (ht1 : ∀ (s : Shared) (H : Hp) (C : Addr) (cl : List (Str × Addr)) (fp : List Addr), PTs (X.blk s H scope (compEnvC scope cl C X.env) fp) ifs1 (ttOf X.K rt1))
    (he : ∀ (s : Shared) (H : Hp) (C : Addr) (cl : List (Str × Addr)) (fp : List Addr) (Z : Zx), QE (X.blk s H scope (compEnvC scope cl C X.env) fp) Z elt r)
    (hs : ∀ x, foldedSetIterable iter X.env x = pure x := by intro _; rfl) (hs1 : ∀ env x, foldedSetIterable iter1 env x = pure x := by intro _ _; rfl) (hv : own.map (·.2) = vs := by rfl) :
    QS X Z (.Assign [.Name y py] (.ListComp elt [⟨tge, iter, ifs, 0⟩, ⟨tge1, iter1, ifs1, 0⟩] scope pos) spos) (dSetO i (dLc2 vs us ri tg rt ri1 tg1 rt1 r)) := by
  subst hv
  obtain ⟨w, p, s⟩ := hi
  refine ⟨_, ps_setLc2 (i := i) (te := tOf X.K r) (tt := ttOf X.K rt) (tt1 := ttOf X.K rt1) (wi1 := iOf X.K ri1) hc hN hy hyl hsw p ok hu hg ht (fun s H C cl fp => pi_of (X := X.blk s H scope (compEnvC scope cl C X.env) fp) (hi1 s H C cl fp)) hg1 ht1 (fun s H C cl fp => pe_of (X := X.blk s H scope (compEnvC scope cl C X.env) fp) (he s H C cl fp)) hs hs1, fun M σ H Δ F De c h Dv ok => ?_⟩
  exact simL_lc2 s sg sg1 hu M σ H Δ F _ c h _ fun p H1 vs ds Δ1 M1 F1 e1 c1 hp r1 h1 => ok.nx _ _ _ M1 F1 e1 (c1.setOwn hp r1 i) h1
end
end DL

set_option Elab.async false
set_option linter.all false
set_option maxRecDepth 100000
set_option maxHeartbeats 4000000
/-! sequences: list(), tuple(), stars, sums, slices and multiples of tuples, stores into own lists, ranges as values -/
namespace DL
open PySem PySem.Spec PyProof.Rows L2
open Evl (Ex)

/-- the items of a sequence, wherever it is -/
def dSq (M : Mem) (x : D) (Φ : List D → Prop) : Prop := match x with
  | .lst ds => Φ ds
  | .tup ds => Φ ds
  | .scr ns => Φ (ns.map .int)
  | .ref p => ∃ ds, M p = some (.lst ds) ∧ Φ ds
  | _ => False
section
variable {K : PySem.W.Frag} {Z : Zx} {M : Mem} {σ : L2.St} {H F : Hp} {Δ : List Sl}
theorem Cn.sq (c : Cn K Z M σ H Δ F) {x : D} {v : V} {Φ : List D → Prop} (r : Rp K F x v) (h : dSq M x Φ) : ∃ p vs ds, v = .ref p ∧ (SqL K H p vs ∨ SqT K H p vs) ∧ Rps K F ds vs ∧ Φ ds ∧ ((∃ es, x = .tup es ∧ ds = es ∧ SqT K H p vs) ∨ (∀ es, x ≠ .tup es) ∧ SqL K H p vs) := by
  cases x with
  | lst ds =>
    obtain ⟨p, vs, e, g1, g2⟩ := r
    exact ⟨p, vs, ds, e, .inl (SqL.of (c.bs.fH _ _ g1)), g2, h, .inr ⟨(by intro es e; cases e), SqL.of (c.bs.fH _ _ g1)⟩⟩
  | tup ds =>
    obtain ⟨p, vs, e, g1, g2⟩ := r
    exact ⟨p, vs, ds, e, .inr (Evl.ex_t c.bs.fH g1), g2, h, .inl ⟨ds, rfl, rfl, Evl.ex_t c.bs.fH g1⟩⟩
  | scr ns =>
    obtain ⟨p, e, g1⟩ := r
    exact ⟨p, _, _, e, .inl (Evl.ex_l c.bs.fH g1), ints_rps ns, h, .inr ⟨(by intro es e; cases e), Evl.ex_l c.bs.fH g1⟩⟩
  | ref p =>
    obtain ⟨ds, hM, h⟩ := h
    obtain ⟨vs, g1, g2⟩ := c.bs.lstM hM
    exact ⟨p, vs, ds, r, .inl (SqL.of g1), g2, h, .inr ⟨(by intro es e; cases e), SqL.of g1⟩⟩
  | _ => exact h.elim
end
section
variable {X : Cx} {Z : Zx} {e a b o : Expr} {ra rb r : RE} {pos apos : Pos} {es : List Expr} {rl : RA} {n : Nat} {K : PySem.W.Frag}

/-! ### list(e), tuple(e) -/
def dLst (r : RE) : RA := fun Δ M Φ => r Δ M fun x Δ1 M1 => dSq M1 x fun ds => Φ ds Δ1 M1
theorem ql_list {p : Pos} (hg : Gl X "list") (hm : X.mg "list" = none) (h : QE X Z e r) (he : starEach [e] X.env = (false, eval e X.env) :: starEach [] X.env := by rfl) (hpl : (backTo pos (starEach [] X.env)).any (·.1) = false := by rfl) : QL X Z (.Call (.Name "list" p) [e] [] pos) (dLst r) := by
  obtain ⟨t, p, s⟩ := h
  refine ⟨_, pe_callTy call_list_of hg hm (by decide +kernel) (pa_cons p pa_nil he) (by decide) (by decide) he hpl, fun M σ H Δ F Φ c h Q q => ?_⟩
  refine s M σ H Δ F _ c h _ fun v H1 x Δ1 M1 F1 e1 c1 r1 h1 => ?_
  obtain ⟨p, vs, ds, ev, hs, g, hΦ, _⟩ := c1.sq r1 h1
  exact ⟨p, vs, by rw [ev], hs, fun l hl => q l H1 vs ds Δ1 M1 F1 e1 c1 hl g hΦ⟩
def dTpl (r : RE) : RE := fun Δ M Φ => r Δ M fun x Δ1 M1 => dSq M1 x fun ds => Φ (.tup ds) Δ1 M1
theorem qe_tuple {p : Pos} (hg : Gl X "tuple") (hm : X.mg "tuple" = none) (h : QE X Z e r) (he : starEach [e] X.env = (false, eval e X.env) :: starEach [] X.env := by rfl) (hpl : (backTo pos (starEach [] X.env)).any (·.1) = false := by rfl) : QE X Z (.Call (.Name "tuple" p) [e] [] pos) (dTpl r) := by
  obtain ⟨t, p, s⟩ := h
  refine ⟨_, pe_callTy call_tuple_of hg hm (by decide +kernel) (pa_cons p pa_nil he) (by decide) (by decide) he hpl, fun M σ H Δ F Φ c h Q q => ?_⟩
  refine s M σ H Δ F _ c h _ fun v H1 x Δ1 M1 F1 e1 c1 r1 h1 => ?_
  obtain ⟨p, vs, ds, ev, _, g, hΦ, hs⟩ := c1.sq r1 h1
  refine ⟨p, vs, by rw [ev], ?_⟩
  rcases hs with ⟨es, ex, ed, ht⟩ | ⟨_, hl⟩
  · refine .inr ⟨ht, ?_⟩
    subst ex ed
    rw [ev] at r1
    exact q _ H1 _ Δ1 M1 F1 e1 c1 r1 hΦ
  · refine .inl ⟨hl, fun l hp => ?_⟩
    exact q _ _ (.tup ds) Δ1 M1 _ (e1.trans (c1.bs.exF hp _)) (c1.new hp _) ⟨l, vs, rfl, SqT.of upd_same, rps_mono (c1.bs.exF hp _) _ _ g⟩ hΦ
def dLstR (r : RE) : RA := fun Δ M Φ => r Δ M fun x Δ1 M1 => match x with
  | .int k => (0 ≤ k ∧ k ≤ 16777216) ∧ Φ (rangeD 0 k.toNat) Δ1 M1
  | _ => False
theorem rps_range {K : PySem.W.Frag} {F : Hp} {f : Nat → Int} : ∀ (l : List Nat), Rps K F (l.map fun i => .int (f i)) (l.map fun i => .int (f i))
  | [] => rfl
  | i :: l => ⟨_, _, rfl, rfl, rps_range l⟩
theorem ql_listR {p p1 p2 : Pos} (hc : X.calm = true) (hg : Gl X "list") (hm : X.mg "list" = none) (hg2 : Gl X "range") (hm2 : X.mg "range" = none) (h : QE X Z e r) (he : starEach [e] X.env = (false, eval e X.env) :: starEach [] X.env := by rfl)
    (he2 : starEach [.Call (.Name "range" p1) [e] [] p2] X.env = (false, eval (.Call (.Name "range" p1) [e] [] p2) X.env) :: starEach [] X.env := by rfl) : QL X Z (.Call (.Name "list" p) [.Call (.Name "range" p1) [e] [] p2] [] pos) (dLstR r) := by
  obtain ⟨t, p, s⟩ := h
  refine ⟨_, pe_listRg hc hg hm (prg_1 hg2 hm2 p he) he2, fun M σ H Δ F Φ c h Q q => ?_⟩
  refine s M σ H Δ F _ c h _ fun v H1 x Δ1 M1 F1 e1 c1 r1 h1 => ?_
  cases x with
  | int k =>
    refine ⟨k, r1, RgOk.of_le (by omega) (by omega) (by omega) h1.1.1, fun l hl => ?_⟩
    refine q l H1 _ _ Δ1 M1 F1 e1 c1 hl ?_ h1.2
    unfold rangeD rgV
    rw [show (k - 0).toNat = k.toNat by congr 1; omega]
    have : (fun i : Nat => V.int (0 + (i : Int) * 1)) = fun i : Nat => V.int (0 + (i : Int)) := by
      funext i; rw [Int.mul_one]
    first
      | (rw [this]; exact rps_range _)
      | exact rps_range _
  | _ => exact h1.elim

/-! ### tuples with stars -/
def SimB (K : PySem.W.Frag) (Z : Zx) (t : TA) (r : RA) : Prop := ∀ (M : Mem) (σ : L2.St) (H : Hp) (Δ : List Sl) (F : Hp) (Φ : List D → List Sl → Mem → Prop), Cn K Z M σ H Δ F → r Δ M Φ →
  ∀ Q : List V → Hp → Prop, (∀ vs H' ds Δ' M' F', Ex F F' → Cn K Z M' σ H' Δ' F' → Rps K F' ds vs → Φ ds Δ' M' → Q vs H') → t σ H Q
def QB (X : Cx) (Z : Zx) (es : List Expr) (r : RA) : Prop := ∃ t, PA X es t ∧ SimB X.K Z t r
theorem qb_nil : QB X Z [] dNil := ⟨_, pa_nil, fun M σ H Δ F Φ c h Q q => q [] H [] Δ M F (Ex.refl _) c rfl h⟩
theorem qb_cons (he : QE X Z e r) (hr : QB X Z es rl) (hs : starEach (e :: es) X.env = (false, eval e X.env) :: starEach es X.env := by rfl) : QB X Z (e :: es) (dCons r rl) := by
  obtain ⟨t, p, s⟩ := he
  obtain ⟨u, p', s'⟩ := hr
  refine ⟨_, pa_cons p p' hs, fun M σ H Δ F Φ c h Q q => ?_⟩
  refine s M σ H Δ F _ c h _ fun v H1 x Δ1 M1 F1 e1 c1 r1 h1 => ?_
  refine s' M1 σ H1 Δ1 F1 _ c1 h1 _ fun vs H2 ds Δ2 M2 F2 e2 c2 r2 h2 => ?_
  exact q _ H2 (x :: ds) Δ2 M2 F2 (e1.trans e2) c2 ⟨v, vs, rfl, rp_mono e2 _ _ r1, r2⟩ h2
def dStar (r : RE) (rl : RA) : RA := fun Δ M Φ => r Δ M fun x Δ1 M1 => dSq M1 x fun ds => rl Δ1 M1 fun fs Δ2 M2 => Φ (ds ++ fs) Δ2 M2
theorem qb_star {p : Pos} (he : QE X Z e r) (hr : QB X Z es rl) (hs : starEach (.Starred e p :: es) X.env = (true, eval e X.env) :: starEach es X.env := by rfl) : QB X Z (.Starred e p :: es) (dStar r rl) := by
  obtain ⟨t, pe, s⟩ := he
  obtain ⟨u, p', s'⟩ := hr
  refine ⟨_, StX.pa_star pe p' hs, fun M σ H Δ F Φ c h Q q => ?_⟩
  refine s M σ H Δ F _ c h _ fun v H1 x Δ1 M1 F1 e1 c1 r1 h1 => ?_
  obtain ⟨p, vs, ds, ev, hq, g, h2, _⟩ := c1.sq r1 h1
  refine ⟨p, vs, ev, hq.symm, ?_⟩
  refine s' M1 σ H1 Δ1 F1 _ c1 h2 _ fun ws H2 fs Δ2 M2 F2 e2 c2 r2 h2 => ?_
  exact q _ H2 (ds ++ fs) Δ2 M2 F2 (e1.trans e2) c2 (rps_app (rps_mono e2 _ _ g) r2) h2
def dTupB (rl : RA) : RE := fun Δ M Φ => rl Δ M fun ds Δ1 M1 => ds.length ≤ sizeLine ∧ Φ (.tup ds) Δ1 M1
theorem qe_tupB {x1} (h : QB X Z es rl) : QE X Z (.Tuple es x1 pos) (dTupB rl) := by
  obtain ⟨t, p, s⟩ := h
  refine ⟨_, pe_tup p, fun M σ H Δ F Φ c h Q q => ?_⟩
  refine s M σ H Δ F _ c h _ fun vs H1 ds Δ1 M1 F1 e1 c1 r1 h1 => ?_
  refine ⟨by rw [rps_len r1]; exact h1.1, fun p hp => ?_⟩
  exact q _ _ (.tup ds) Δ1 M1 _ (e1.trans (c1.bs.exF hp _)) (c1.new hp _) ⟨p, vs, rfl, SqT.of upd_same, rps_mono (c1.bs.exF hp _) _ _ r1⟩ h1.2

/-! ### t + u, t * n, t[a:b] -/
def dAddT : D → D → (D → Prop) → Prop := fun x y Φ => match x, y with
  | .tup xs, .tup ys => xs.length + ys.length ≤ sizeLine ∧ Φ (.tup (xs ++ ys))
  | _, _ => dAdd x y Φ
theorem rps_nil_iff {F : Hp} {ds : List D} {vs : List V} (h : Rps K F ds vs) : vs = [] ↔ ds = [] := by
  have := rps_len h
  constructor <;> intro e <;> subst e
  · exact List.eq_nil_of_length_eq_zero this.symm
  · exact List.eq_nil_of_length_eq_zero this
theorem od_catA : OpD K (rCatA K) fun x y Φ => match x, y with
    | .tup xs, .tup ys => xs.length + ys.length ≤ sizeLine ∧ Φ (.tup (xs ++ ys))
    | _, _ => False := by
  intro Z M σ H Δ F x y v w Φ c rx ry k Q q
  cases x with
  | tup xs =>
    cases y with
    | tup ys =>
      obtain ⟨hz, k⟩ := k
      obtain ⟨a, vs, ea, g1, g2⟩ := id rx
      obtain ⟨b, ws, eb, g3, g4⟩ := id ry
      refine ⟨a, b, vs, ws, ea, eb, Evl.ex_t c.bs.fH g1, Evl.ex_t c.bs.fH g3, by rw [rps_len g2, rps_len g4]; exact hz, fun e => ?_, fun e1 e2 => ?_, fun e1 e2 p hp => ?_⟩
      · have : xs = [] := (rps_nil_iff g2).mp e
        subst this
        rw [← eb]
        exact q _ H (.tup ys) F (Ex.refl _) c ry k
      · have : ys = [] := (rps_nil_iff g4).mp e2
        subst this
        rw [← ea]
        rw [List.append_nil] at k
        exact q _ H (.tup xs) F (Ex.refl _) c rx k
      · exact q _ _ (.tup (xs ++ ys)) _ (c.bs.exF hp _) (c.new hp _) ⟨p, _, rfl, SqT.of upd_same, rps_mono (c.bs.exF hp _) _ _ (rps_app g2 g4)⟩ k
    | _ => exact k.elim
  | _ => exact k.elim
def dRepT : D → D → (D → Prop) → Prop := fun x y Φ => match x, y with
  | .tup xs, .int k => (xs ≠ [] ∧ 2 ≤ k ∧ k ≤ 1000 ∧ xs.length ≤ 1000) ∧ Φ (.tup (List.replicate k.toNat xs).flatten)
  | _, _ => False
theorem rps_flat_rep {F : Hp} {ds : List D} {vs : List V} (h : Rps K F ds vs) : ∀ m, Rps K F (List.replicate m ds).flatten (List.replicate m vs).flatten
  | 0 => rfl
  | m + 1 => by
    rw [List.replicate_succ, List.replicate_succ, List.flatten_cons, List.flatten_cons]
    exact rps_app h (rps_flat_rep h m)
theorem od_repT : OpD K (rRepT K) dRepT := by
  intro Z M σ H Δ F x y v w Φ c rx ry k Q q
  cases x with
  | tup xs =>
    cases y with
    | int k' =>
      obtain ⟨⟨h0, h1, h2, h3⟩, k⟩ := k
      obtain ⟨a, vs, ea, g1, g2⟩ := id rx
      refine ⟨a, k', vs, ea, ry, Evl.ex_t c.bs.fH g1, fun e => h0 ((rps_nil_iff g2).mp e), h1, h2, by rw [rps_len g2]; exact h3, fun p hp => ?_⟩
      exact q _ _ (.tup _) _ (c.bs.exF hp _) (c.new hp _) ⟨p, _, rfl, SqT.of upd_same, rps_mono (c.bs.exF hp _) _ _ (rps_flat_rep g2 _)⟩ k
    | _ => exact k.elim
  | _ => exact k.elim
theorem qe_repT (ha : QE X Z a ra) (hb : QE X Z b rb) : QE X Z (.BinOp a .Mult b pos) (dOp dRepT ra rb) := qe_bin op_repT od_repT ha hb
def dSlA (r : RE) (rl rh : RO) : RE := fun Δ M Φ => r Δ M fun x Δ1 M1 => rl Δ1 M1 fun lo Δ2 M2 => rh Δ2 M2 fun hi Δ3 M3 => match x with
  | .str z => z.length ≤ sizeLine ∧ Φ (.str (cutS z lo hi)) Δ3 M3
  | .lst ds => Φ (.lst (cutD ds lo hi)) Δ3 M3
  | .scr ns => Φ (.lst (cutD (ns.map .int) lo hi)) Δ3 M3
  | .tup ds => Φ (.tup (cutD ds lo hi)) Δ3 M3
  | .ref p => ∃ ds, M3 p = some (.lst ds) ∧ Φ (.lst (cutD ds lo hi)) Δ3 M3
  | _ => False
theorem sl_every : SlR X (fun x lo hi H Q => (rSlS x lo hi H Q ∨ rSlL X.K x lo hi H Q) ∨ rSlA X.K x lo hi H Q) := SlR.or sl_all sl_tupA
theorem cut_whole {ds : List D} {lo hi : Option Int} (h : HT.sIx ds.length 0 lo = 0 ∧ HT.sIx ds.length ds.length hi = ds.length) : cutD ds lo hi = ds := by
  unfold cutD
  rw [h.1, h.2, List.drop_zero, Nat.sub_zero, List.take_length]
theorem qe_slA {lo hi : Option Expr} {rl rh : RO} {p2 : Pos} (h : QE X Z e r) (hl : QO X Z lo rl) (hh : QO X Z hi rh) : QE X Z (.Subscript e (.Slice lo hi none p2) pos) (dSlA r rl rh) := by
  obtain ⟨t, p, s⟩ := h
  obtain ⟨tl, pl, sl⟩ := hl
  obtain ⟨th, ph, sh⟩ := hh
  refine ⟨_, pe_slice sl_every p pl ph, fun M σ H Δ F Φ c h Q q => ?_⟩
  refine s M σ H Δ F _ c h _ fun v H1 x Δ1 M1 F1 e1 c1 r1 h1 => ?_
  refine sl M1 σ H1 Δ1 F1 _ c1 h1 _ fun lo H2 Δ2 M2 F2 e2 c2 h2 => ?_
  refine sh M2 σ H2 Δ2 F2 _ c2 h2 _ fun hi H3 Δ3 M3 F3 e3 c3 h3 => ?_
  have r3 : Rp X.K F3 x v := rp_mono (e2.trans e3) _ _ r1
  have eF := (e1.trans e2).trans e3
  have cut : ∀ {ds : List D} {vs : List V}, Rps X.K F3 ds vs → Rps X.K F3 (cutD ds lo hi) (cutV vs lo hi) := fun {ds vs} g => by
    unfold cutD cutV
    rw [rps_len g]
    exact rps_take _ (rps_drop _ g)
  have key : ∀ (ds : List D) (p : Addr) (vs : List V), v = .ref p → SqL X.K H3 p vs → Rps X.K F3 ds vs → Φ (.lst (cutD ds lo hi)) Δ3 M3 → rSlL X.K v lo hi H3 Q := fun ds p vs ev g1 g2 hΦ => by
    refine ⟨p, vs, ev, g1, fun p' hp => ?_⟩
    exact q _ _ (.lst (cutD ds lo hi)) Δ3 M3 _ (eF.trans (c3.bs.exF hp _)) (c3.new hp _) ⟨p', _, rfl, upd_same, rps_mono (c3.bs.exF hp _) _ _ (cut g2)⟩ hΦ
  cases x with
  | str z => exact .inl (.inl ⟨z, r3, h3.1, q _ H3 (.str _) Δ3 M3 F3 eF c3 rfl h3.2⟩)
  | lst ds =>
    obtain ⟨p, vs, ev, g1, g2⟩ := r3
    exact .inl (.inr (key ds p vs ev (SqL.of (c3.bs.fH _ _ g1)) g2 h3))
  | scr ns =>
    obtain ⟨p, ev, g1⟩ := r3
    exact .inl (.inr (key _ p _ ev (Evl.ex_l c3.bs.fH g1) (ints_rps ns) h3))
  | ref p =>
    obtain ⟨ds, hM, hΦ⟩ := h3
    obtain ⟨vs, g1, g2⟩ := c3.bs.lstM hM
    exact .inl (.inr (key ds p vs r3 (SqL.of g1) g2 hΦ))
  | tup ds =>
    obtain ⟨p, vs, ev, g1, g2⟩ := id r3
    refine .inr ⟨p, vs, ev, Evl.ex_t c3.bs.fH g1, fun hw => ?_, fun _ p' hp => ?_⟩
    · rw [rps_len g2] at hw
      have hΦ : Φ (.tup (cutD ds lo hi)) Δ3 M3 := h3
      rw [cut_whole hw] at hΦ
      rw [← ev]
      exact q _ H3 (.tup ds) Δ3 M3 F3 eF c3 r3 hΦ
    · exact q _ _ (.tup (cutD ds lo hi)) Δ3 M3 _ (eF.trans (c3.bs.exF hp _)) (c3.new hp _) ⟨p', _, rfl, SqT.of upd_same, rps_mono (c3.bs.exF hp _) _ _ (cut g2)⟩ h3
  | _ => exact h3.elim

/-! ### own[i] = e -/
def dStoO (j : Nat) (rv ri : RE) : RS := fun De Δ M => rv Δ M fun z Δ1 M1 => isOwn Δ1 j ∧ ri Δ1 M1 fun y Δ2 M2 => match Δ2[j]?, y with
  | some (.own ds), .int k => ∃ i, ixN ds.length k = some i ∧ De.nx (Δ2.set j (.own (ds.set i z))) M2
  | _, _ => False
theorem qs_stoO {rv ri : RE} {i value : Expr} {p' p2 : Pos} {x : Str} (j : Nat) (hv : QE X Z value rv) (hi : QE X Z i ri) (hN : X.N[j]? = some x := by rfl) (hvis : Vis X.env.scope x := by first | exact Or.inl rfl | exact Or.inr (Or.inl rfl) | exact Or.inr (Or.inr rfl)) (hd : (x == ("__debug__" : Str)) = false := by decide)
    (hcd : (x == ("__classdict__" : Str)) = false := by decide) (hg : ∀ to ti, PE X (.Name x p2) to → PE X i ti → PG X (.Subscript (.Name x p2) i p') (gSub to ti rSetL) := by intro to ti h1 h2; exact pg_sub h1 h2 set_list)
    (hs : swapsWithSole [.Subscript (.Name x p2) i p'] value pos.line X.env = pure false := by rfl) (hw : swappedStores [.Subscript (.Name x p2) i p'] value X.env = pure none := by rfl)
    (h1 : (assignEach [.Subscript (.Name x p2) i p'] X.env).map (·.2) = [assign (.Subscript (.Name x p2) i p') X.env] := by rfl) : QS X Z (.Assign [.Subscript (.Name x p2) i p'] value pos) (dStoO j rv ri) := by
  obtain ⟨tv, pv, sv⟩ := hv
  obtain ⟨ti, pi, si⟩ := hi
  refine ⟨_, ps_asg pv (hg _ ti (pe_var (i := j) hN hvis hd hcd) pi) hs hw h1, fun M σ H Δ F De c h Dv ok => ?_⟩
  refine sv M σ H Δ F _ c h _ fun v H1 z Δ1 M1 F1 e1 c1 r1 h1 => ?_
  obtain ⟨⟨ds0, h0⟩, h1⟩ := h1
  obtain ⟨p0, vs0, hv0, _⟩ := c1.slot j _ h0
  refine ⟨.ref p0, hv0, ?_⟩
  refine si M1 σ H1 Δ1 F1 _ c1 h1 _ fun u H2 y Δ2 M2 F2 e2 c2 r2 h2 => ?_
  split at h2
  · rename_i ds k hj
    obtain ⟨i, hi, hΦ⟩ := h2
    obtain ⟨p, vs, ev, g1, g2, g3, g4, g5⟩ := c2.slot j _ hj
    rw [hv0] at ev
    cases ev
    refine ⟨p0, vs, k, i, rfl, r2, g1, by rw [rps_len g2]; exact hi, ?_⟩
    exact ok.nx σ _ _ M2 F2 (e1.trans e2) (c2.change hj hv0 g3 g4 g5 (rps_set i g2 (rp_mono e2 _ _ r1))) hΦ
  · exact h2.elim
end
end DL

set_option Elab.async false
set_option linter.all false
set_option maxRecDepth 100000
set_option maxHeartbeats 4000000
/-! ranges as values, dicts, fields as targets, extend -/
namespace DL
open PySem PySem.Spec PyProof.Rows L2
open Evl (Ex)
section
variable {X : Cx} {Z : Zx} {e a b o tg : Expr} {ra rb r ro rv : RE} {pos apos : Pos} {es : List Expr} {rl : RA} {n : Nat} {K : PySem.W.Frag}

/-! ### range(e) as a value -/
def dRngV (r : RE) : RE := fun Δ M Φ => r Δ M fun x Δ1 M1 => match x with
  | .int k => Φ (.rng 0 k) Δ1 M1
  | _ => False
theorem cr_range1 : CallR X (.type "range") (fun vs H Q => ∃ j, vs = [V.int j] ∧ ∀ p, H p = none → Q (.ref p) (upd H p (.rng 0 j))) := by
  intro pins s σ H vs us Q I r h
  obtain ⟨j, rfl, q⟩ := h
  obtain ⟨u1, rfl, rj⟩ := L2.vals1 r
  obtain ⟨t, rfl⟩ := rj
  refine call_range_1 ?_
  refine ⟨V.ref s.heap.objs.size, upd H s.heap.objs.size (HO.rng 0 j), ?_, rfl, q _ (I.hok.fresh (Nat.le_refl _))⟩
  exact I.laid (t' := s.toks + 1 + 1) (fun b o z => Heap.get?_push_of_some _ z) (Nat.le_refl _) ⟨s.toks, t, s.toks + 1, Heap.get?_push_size _ rfl⟩
theorem qe_rngV {p : Pos} (hg : Gl X "range") (hm : X.mg "range" = none) (h : QE X Z e r) (he : starEach [e] X.env = (false, eval e X.env) :: starEach [] X.env := by rfl) (hpl : (backTo pos (starEach [] X.env)).any (·.1) = false := by rfl) : QE X Z (.Call (.Name "range" p) [e] [] pos) (dRngV r) := by
  obtain ⟨t, p, s⟩ := h
  refine ⟨_, pe_callTy cr_range1 hg hm (by decide +kernel) (pa_cons p pa_nil he) (by decide) (by decide) he hpl, fun M σ H Δ F Φ c h Q q => ?_⟩
  refine s M σ H Δ F _ c h _ fun v H1 x Δ1 M1 F1 e1 c1 r1 h1 => ?_
  cases x with
  | int k => exact ⟨k, by rw [show v = .int k from r1], fun p hp => q _ _ (.rng 0 k) Δ1 M1 _ (e1.trans (c1.bs.exF hp _)) (c1.new hp _) ⟨p, rfl, upd_same⟩ h1⟩
  | _ => exact h1.elim
/-- a walk over a range that is a value -/
def iRngV (te : TE) : TI := fun σ H R => te σ H fun x H1 => ∃ a lo hi, x = .ref a ∧ H1 a = some (.rng lo hi) ∧ (-(2 ^ 62) ≤ lo ∧ lo < 2 ^ 62 ∧ -(2 ^ 62) ≤ hi ∧ hi < 2 ^ 62) ∧ R (Itr lo (hi - lo).toNat) H1
theorem pi_rngV {te : TE} (he : PE X e te) : PI X tg e (iRngV te) := by
  refine ⟨fun pins s σ H R I h => ?_⟩
  refine thn (he.run pins s σ H _ I h) fun v s1 ⟨x, H1, I1, rx, q1⟩ => ?_
  obtain ⟨a, lo, hi, ex, hH, ⟨h1, h2, h3, h4⟩, q⟩ := q1
  subst ex
  obtain rfl : v = Value.ref a := rx
  obtain ⟨t, u, w, ho⟩ := I1.hok a _ hH
  refine wpAny_pyIter_range (show IsRange s1.heap a lo hi 1 t u w from ho) (small_one h1 h2 h3 h4) ?_
  have sz : ∀ b, b ∈ [s1.heap.objs.size] → b = s1.heap.objs.size := fun b hb => by simpa using hb
  refine ⟨s1.heap.objs.size, [s1.heap.objs.size], _, Itr lo (hi - lo).toNat, H1, rfl, ?_, turn_range _ lo (hi - lo).toNat, ?_, fun b hb => ?_, q⟩
  · exact I1.kept (t' := s1.toks) fun b o z => Heap.get?_push_of_some _ z
  · have e1 : lo + ((0 : Nat) : Int) * 1 = lo := by omega
    have e2 : (((hi - lo).toNat : Nat) : Int) - ((0 : Nat) : Int) = Builtin.Range.rangeSize lo hi 1 := by
      rw [rangeSize_one]
      split <;> omega
    unfold IsRangeIter
    rw [e1, e2]
    exact Heap.get?_push_size _ rfl
  · rw [sz b hb]
    exact I1.fpOk (Nat.le_refl _) (I1.hok.fresh (Nat.le_refl _))
def dRngI (r : RE) : RI := fun Δ M Φ => r Δ M fun x Δ1 M1 => match x with
  | .rng lo hi => (-(2 ^ 62) ≤ lo ∧ lo < 2 ^ 62 ∧ -(2 ^ 62) ≤ hi ∧ hi < 2 ^ 62) ∧ Φ (rangeD lo (hi - lo).toNat) Δ1 M1
  | _ => False
theorem qi_rngV (h : QE X Z e r) : QI X Z tg e (dRngI r) := by
  obtain ⟨t, p, s⟩ := h
  refine ⟨_, pi_rngV p, fun M σ H Δ F Φ c h R q => ?_⟩
  refine s M σ H Δ F _ c h _ fun v H1 y Δ1 M1 F1 e1 c1 r1 h1 => ?_
  cases y with
  | rng lo hi =>
    obtain ⟨a, ev, g⟩ := r1
    exact ⟨a, lo, hi, ev, c1.bs.fH _ _ g, h1.1, q _ H1 _ Δ1 M1 F1 e1 c1 walkD_range h1.2⟩
  | _ => exact h1.elim

/-! ### dicts in memory -/
def D.key : D → Option Key
  | .int i => some (.inl i)
  | .str x => some (.inr x)
  | _ => none
theorem rp_key {F : Hp} {d : D} {v : V} {k : Key} (h : Rp K F d v) (e : d.key = some k) : v = kV k := by
  cases d with
  | int i => cases e; exact h
  | str x => cases e; exact h
  | _ => cases e
def getD (kvs : List (Key × D)) (k : Key) : Option D := (kvs.find? fun kv => decide (kv.1 = k)).map (·.2)
def putKD (kvs : List (Key × D)) (k : Key) (d : D) : List (Key × D) :=
  if (kvs.any fun kv => decide (kv.1 = k)) = true then kvs.map (fun kv => if kv.1 = k then (kv.1, d) else kv) else kvs ++ [(k, d)]
theorem get_rps {F : Hp} {k : Key} : ∀ {kvs : List (Key × D)} {vs : List (Key × V)}, vs.map Prod.fst = kvs.map Prod.fst → Rps K F (kvs.map Prod.snd) (vs.map Prod.snd) →
    (getD kvs k = none ∧ valV vs k = none) ∨ ∃ d v, getD kvs k = some d ∧ valV vs k = some v ∧ Rp K F d v
  | [], [], _, _ => .inl ⟨rfl, rfl⟩
  | [], _ :: _, h, _ => by cases h
  | _ :: _, [], h, _ => by cases h
  | (k1, d) :: kvs, (k2, v) :: vs, h, r => by
    obtain ⟨u, w, e, h1, h2⟩ := r
    simp only [List.map_cons, List.cons.injEq] at h e
    obtain ⟨hk, ht⟩ := h
    obtain ⟨e1, e2⟩ := e
    subst e1
    have e2' : vs.map Prod.snd = w := e2
    rw [← e2'] at h2
    have hk' : k2 = k1 := hk
    subst hk'
    by_cases c : k2 = k
    · right
      refine ⟨d, v, ?_, ?_, h1⟩
      · simp [getD, List.find?_cons, c]
      · simp [valV, List.find?_cons, c]
    · have ih := get_rps (k := k) ht h2
      have a1 : getD ((k2, d) :: kvs) k = getD kvs k := by simp [getD, List.find?_cons, c]
      have a2 : valV ((k2, v) :: vs) k = valV vs k := by simp [valV, List.find?_cons, c]
      rw [a1, a2]
      exact ih
theorem any_fst {k : Key} : ∀ {kvs : List (Key × D)} {vs : List (Key × V)}, vs.map Prod.fst = kvs.map Prod.fst → (vs.any fun kv => decide (kv.1 = k)) = kvs.any fun kv => decide (kv.1 = k)
  | [], [], _ => rfl
  | [], _ :: _, h => by cases h
  | _ :: _, [], h => by cases h
  | (k1, d) :: kvs, (k2, v) :: vs, h => by
    simp only [List.map_cons, List.cons.injEq] at h
    have hk : k2 = k1 := h.1
    subst hk
    rw [List.any_cons, List.any_cons, any_fst h.2]
theorem putK_rps {F : Hp} {k : Key} {d : D} {v : V} (r : Rp K F d v) {kvs : List (Key × D)} {vs : List (Key × V)} (h : vs.map Prod.fst = kvs.map Prod.fst) (g : Rps K F (kvs.map Prod.snd) (vs.map Prod.snd)) :
    (putK vs k v).map Prod.fst = (putKD kvs k d).map Prod.fst ∧ Rps K F ((putKD kvs k d).map Prod.snd) ((putK vs k v).map Prod.snd) := by
  unfold putK putKD
  rw [any_fst h]
  by_cases c : (kvs.any fun kv => decide (kv.1 = k)) = true
  · rw [if_pos c, if_pos c]
    clear c
    revert vs
    induction kvs with
    | nil =>
      intro vs h g
      cases vs with
      | nil => exact ⟨rfl, rfl⟩
      | cons _ _ => cases h
    | cons kd kvs ih =>
      intro vs h g
      cases vs with
      | nil => cases h
      | cons kv vs =>
        obtain ⟨u, w, e, h1, h2⟩ := g
        simp only [List.map_cons, List.cons.injEq] at h e
        obtain ⟨e1, e2⟩ := e
        rw [← e2] at h2
        rw [← e1] at h1
        obtain ⟨i1, i2⟩ := ih h.2 h2
        have hk := h.1
        refine ⟨?_, ?_⟩
        · simp only [List.map_cons, List.cons.injEq]
          refine ⟨?_, i1⟩
          rw [hk]
          by_cases q : kd.1 = k
          · rw [if_pos q, if_pos q]
          · rw [if_neg q, if_neg q]; exact hk
        · simp only [List.map_cons]
          rw [hk]
          by_cases q : kd.1 = k
          · rw [if_pos q, if_pos q]
            exact ⟨v, _, rfl, r, i2⟩
          · rw [if_neg q, if_neg q]
            exact ⟨kv.2, _, rfl, h1, i2⟩
  · rw [if_neg c, if_neg c, List.map_append, List.map_append, List.map_append, List.map_append]
    exact ⟨by rw [h] <;> rfl, rps_app g (rps_one r)⟩
theorem Bs.dctM {Z : Zx} {M : Mem} {H F : Hp} (b : Bs K Z M H F) {p : Addr} {kvs : List (Key × D)} (h : M p = some (.dct kvs)) : ∃ vs, H p = some (.dK vs) ∧ vs.map Prod.fst = kvs.map Prod.fst ∧ Rps K F (kvs.map Prod.snd) (vs.map Prod.snd) := (b.mm p _ h).2.2
/-- {} -/
def dDNew : RE := fun Δ M Φ => ∀ p, M p = none → Φ (.ref p) Δ (updM M p (.dct []))
theorem qe_dnew : QE X Z (.Dict [] [] pos) dDNew := ⟨_, pe_dnewK, fun M σ H Δ F Φ c h Q q p hp => q _ _ (.ref p) Δ _ F (Ex.refl _) (c.newO (o := .dct []) hp ⟨[], rfl, rfl, rfl⟩) rfl (h p (c.bs.freeM hp))⟩
/-- k in d, k not in d -/
def dDIn (neg : Bool) (rk rd : RE) : RE := fun Δ M Φ => rk Δ M fun y Δ1 M1 => rd Δ1 M1 fun x Δ2 M2 => match x with
  | .ref p => ∃ kvs k, M2 p = some (.dct kvs) ∧ y.key = some k ∧ Φ (.bl (if neg then !(getD kvs k).isSome else (getD kvs k).isSome)) Δ2 M2
  | _ => False
theorem dget_of {F H : Hp} {M : Mem} {Z : Zx} (b' : Bs K Z M H F) {p : Addr} {kvs : List (Key × D)} {k : Key} (hM : M p = some (.dct kvs)) : ∃ o, DGet H p (kV k) o ∧ o.isSome = (getD kvs k).isSome := by
  obtain ⟨vs, g1, g2, g3⟩ := b'.dctM hM
  refine ⟨valV vs k, DGet.k g1, ?_⟩
  rcases get_rps (k := k) g2 g3 with ⟨h1, h2⟩ | ⟨d, v, h1, h2, _⟩
  · rw [h1, h2]; rfl
  · rw [h1, h2]; rfl
theorem sim_din {tk td : TE} {rk rd : RE} (sk : Sim K Z tk rk) (sd : Sim K Z td rd) : Sim K Z (tDIn tk td) (dDIn false rk rd) := by
  intro M σ H Δ F Φ c h Q q
  refine sk M σ H Δ F _ c h _ fun v H1 y Δ1 M1 F1 e1 c1 r1 h1 => ?_
  refine sd M1 σ H1 Δ1 F1 _ c1 h1 _ fun w H2 x Δ2 M2 F2 e2 c2 r2 h2 => ?_
  cases x with
  | ref p =>
    obtain ⟨kvs, k, hM, hk, hΦ⟩ := h2
    obtain ⟨o, g, hs⟩ := dget_of (k := k) c2.bs hM
    refine ⟨p, o, r2, ?_, ?_⟩
    · rw [rp_key r1 hk]; exact g
    · rw [hs]
      exact q _ H2 (.bl _) Δ2 M2 F2 (e1.trans e2) c2 rfl hΦ
  | _ => exact h2.elim
theorem sim_dnin {tk td : TE} {rk rd : RE} (sk : Sim K Z tk rk) (sd : Sim K Z td rd) : Sim K Z (tDNotIn tk td) (dDIn true rk rd) := by
  intro M σ H Δ F Φ c h Q q
  refine sk M σ H Δ F _ c h _ fun v H1 y Δ1 M1 F1 e1 c1 r1 h1 => ?_
  refine sd M1 σ H1 Δ1 F1 _ c1 h1 _ fun w H2 x Δ2 M2 F2 e2 c2 r2 h2 => ?_
  cases x with
  | ref p =>
    obtain ⟨kvs, k, hM, hk, hΦ⟩ := h2
    obtain ⟨o, g, hs⟩ := dget_of (k := k) c2.bs hM
    refine ⟨p, o, r2, ?_, ?_⟩
    · rw [rp_key r1 hk]; exact g
    · rw [hs]
      exact q _ H2 (.bl _) Δ2 M2 F2 (e1.trans e2) c2 rfl hΦ
  | _ => exact h2.elim
theorem qe_din {rk rd : RE} (hu : X.A.units + 1 < cLine) (hk : QE X Z a rk) (hd : QE X Z b rd) (hm : behindInMarks .In b = false := by rfl) : QE X Z (.Compare a [.In] [b] pos) (dDIn false rk rd) := by
  obtain ⟨tk, pk, sk⟩ := hk
  obtain ⟨td, pd, sd⟩ := hd
  exact ⟨_, pe_cmp (pc_din hu pk pd) hm, sim_din sk sd⟩
theorem qe_dnin {rk rd : RE} (hu : X.A.units + 1 < cLine) (hk : QE X Z a rk) (hd : QE X Z b rd) (hm : behindInMarks .NotIn b = false := by rfl) : QE X Z (.Compare a [.NotIn] [b] pos) (dDIn true rk rd) := by
  obtain ⟨tk, pk, sk⟩ := hk
  obtain ⟨td, pd, sd⟩ := hd
  exact ⟨_, pe_cmp (pc_dnotin hu pk pd) hm, sim_dnin sk sd⟩
theorem qt_din {rk rd : RE} (hu : X.A.units + 1 < cLine) (hk : QE X Z a rk) (hd : QE X Z b rd) (hm : behindInMarks .In b = false := by rfl) : QT X Z (.Compare a [.In] [b] pos) (dTest (dDIn false rk rd)) := by
  obtain ⟨tk, pk, sk⟩ := hk
  obtain ⟨td, pd, sd⟩ := hd
  exact ⟨_, pt_cmp (pc_din hu pk pd) hm, simT_test (sim_din sk sd)⟩
theorem qt_dnin {rk rd : RE} (hu : X.A.units + 1 < cLine) (hk : QE X Z a rk) (hd : QE X Z b rd) (hm : behindInMarks .NotIn b = false := by rfl) : QT X Z (.Compare a [.NotIn] [b] pos) (dTest (dDIn true rk rd)) := by
  obtain ⟨tk, pk, sk⟩ := hk
  obtain ⟨td, pd, sd⟩ := hd
  exact ⟨_, pt_cmp (pc_dnotin hu pk pd) hm, simT_test (sim_dnin sk sd)⟩
/-- d[k] = v -/
def dDPut (rv rd rk : RE) : RS := fun De Δ M => rv Δ M fun z Δ1 M1 => rd Δ1 M1 fun x Δ2 M2 => rk Δ2 M2 fun y Δ3 M3 => match x with
  | .ref p => ∃ kvs k, M3 p = some (.dct kvs) ∧ y.key = some k ∧ kvs.length < 1000 ∧ De.nx Δ3 (updM M3 p (.dct (putKD kvs k z)))
  | _ => False
theorem qs_dput {rk rd : RE} {i value : Expr} {p' : Pos} (hu : X.A.units + 1 < cLine) (hv : QE X Z value rv) (hd : QE X Z o rd) (hk : QE X Z i rk) (hs : swapsWith value (some (.Subscript o i p')) pos.line X.env = pure false := by rfl) : QS X Z (.Assign [.Subscript o i p'] value pos) (dDPut rv rd rk) := by
  obtain ⟨tv, pv, sv⟩ := hv
  obtain ⟨td, pd, sd⟩ := hd
  obtain ⟨tk, pk, sk⟩ := hk
  refine ⟨_, ps_dput hu pd pk pv hs, fun M σ H Δ F De c h Dv ok => ?_⟩
  refine sv M σ H Δ F _ c h _ fun v H1 z Δ1 M1 F1 e1 c1 r1 h1 => ?_
  refine sd M1 σ H1 Δ1 F1 _ c1 h1 _ fun w H2 x Δ2 M2 F2 e2 c2 r2 h2 => ?_
  refine sk M2 σ H2 Δ2 F2 _ c2 h2 _ fun u H3 y Δ3 M3 F3 e3 c3 r3 h3 => ?_
  cases x with
  | ref p =>
    obtain ⟨kvs, k, hM, hk, hl, hΦ⟩ := h3
    obtain ⟨vs, g1, g2, g3⟩ := c3.bs.dctM hM
    have len : vs.length = kvs.length := by
      have := congrArg List.length g2
      rw [List.length_map, List.length_map] at this
      exact this
    obtain ⟨q1, q2⟩ := putK_rps (k := k) (rp_mono (e2.trans e3) _ _ r1) g2 g3
    refine ⟨p, _, r2, (by rw [rp_key r3 hk]; exact DPut.k g1 (by rw [len, sizeLine_eq]; omega)), ?_⟩
    exact ok.nx _ _ _ _ F3 ((e1.trans e2).trans e3) (c3.setO (o2 := .dct (putKD kvs k z)) hM ⟨_, rfl, q1, q2⟩) hΦ
  | _ => exact h3.elim

/-! ### x not in D, D a dict of the module whose keys are told -/
def dInK (neg : Bool) (keys : List Str) (r : RE) : RE := fun Δ M Φ => r Δ M fun x Δ1 M1 => match x with
  | .str z => z ∈ keys ∧ Φ (.bl (!neg)) Δ1 M1
  | _ => False
theorem qe_ninK {d : Addr} {ds : Array DictEntry} {m : Nat} {x : Str} {p : Pos} {keys : List Str} (Dk : KDict X.K X.w d ds m) (hk : ∀ z ∈ keys, ∃ u, PySem.W.nsIn X.K d z = some (some u)) (hg : Gl X x) (hm : X.mg x = some (.ref d)) (h : QE X Z e r) (hd : (x == ("__debug__" : Str)) = false := by decide)
    (hmk : behindInMarks .NotIn (.Name x p) = false := by rfl) : QE X Z (.Compare e [.NotIn] [.Name x p] pos) (dInK true keys r) := by
  obtain ⟨t, pe, s⟩ := h
  refine ⟨_, pe_cmpR (op_notIn_kd Dk) pe (pe_glob (v := .ref d) hg hm rfl hd) hmk, fun M σ H Δ F Φ c h Q q => ?_⟩
  refine s M σ H Δ F _ c h _ fun v H1 y Δ1 M1 F1 e1 c1 r1 h1 => ?_
  cases y with
  | str z =>
    obtain ⟨u, hu⟩ := hk z h1.1
    exact ⟨z, _, r1, rfl, hu, q _ H1 (.bl false) Δ1 M1 F1 e1 c1 rfl h1.2⟩
  | _ => exact h1.elim
theorem qt_ninK {d : Addr} {ds : Array DictEntry} {m : Nat} {x : Str} {p : Pos} {keys : List Str} (Dk : KDict X.K X.w d ds m) (hk : ∀ z ∈ keys, ∃ u, PySem.W.nsIn X.K d z = some (some u)) (hg : Gl X x) (hm : X.mg x = some (.ref d)) (h : QE X Z e r) (hd : (x == ("__debug__" : Str)) = false := by decide)
    (hmk : behindInMarks .NotIn (.Name x p) = false := by rfl) : QT X Z (.Compare e [.NotIn] [.Name x p] pos) (dTest (dInK true keys r)) := by
  obtain ⟨t, pe, s⟩ := h
  refine ⟨_, pt_cmpR (op_notIn_kd Dk) pe (pe_glob (v := .ref d) hg hm rfl hd) hmk, simT_test fun M σ H Δ F Φ c h Q q => ?_⟩
  refine s M σ H Δ F _ c h _ fun v H1 y Δ1 M1 F1 e1 c1 r1 h1 => ?_
  cases y with
  | str z =>
    obtain ⟨u, hu⟩ := hk z h1.1
    exact ⟨z, _, r1, rfl, hu, q _ H1 (.bl false) Δ1 M1 F1 e1 c1 rfl h1.2⟩
  | _ => exact h1.elim

/-! ### targets: o.f among names -/
abbrev RGs := List D → List Sl → Mem → (List Sl → Mem → Prop) → Prop
def gFld (K : PySem.W.Frag) (f : Str) (to : TE) : TG := fun y σ H Q => to σ H fun x H2 => ∃ a C dx fs, x = .ref a ∧ H2 a = some (.ins C dx fs) ∧ Cls K C ∧ NoAttr K C f ∧ fs.length < 1000 ∧ Q σ (upd H2 a (.ins C dx (putF f y fs)))
theorem pg_fld {f : Str} {to : TE} (ho : PE X o to) : PG X (.Attribute o f pos) (gFld X.K f to) := by
  refine ⟨fun pins s σ H v u Q I r h => ?_⟩
  rw [arm_assign_Attribute]
  refine wpAny_bind (wpAny_holding (thn (ho.run pins s σ H _ I h) fun ov s1 ⟨x, H1, I1, rx, a, C, dx, fs, ex, ea, c, n, l, q⟩ => ?_))
  subst ex
  obtain rfl : ov = Value.ref a := rx
  refine wpAny_bind (wpAny_standAt (wpAny_bind (wpAny_holding (setattr_ok I1 ea c n l r fun s3 I3 => ?_))))
  exact wpAny_release ⟨σ, _, I3, q⟩

/-- a target that may store in memory -/
abbrev RGM := D → List Sl → Mem → (List Sl → Mem → Prop) → Prop
def SimGM (K : PySem.W.Frag) (Z : Zx) (g : TG) (r : RGM) : Prop := ∀ (M : Mem) (σ : L2.St) (H : Hp) (Δ : List Sl) (F : Hp) (d : D) (v : V) (Φ : List Sl → Mem → Prop), Cn K Z M σ H Δ F → Rp K F d v → r d Δ M Φ →
  ∀ Q : L2.St → Hp → Prop, (∀ σ' H' Δ' M' F', Ex F F' → Cn K Z M' σ' H' Δ' F' → Φ Δ' M' → Q σ' H') → g v σ H Q
def QG (X : Cx) (Z : Zx) (tg : Expr) (r : RGM) : Prop := ∃ g, PG X tg g ∧ SimGM X.K Z g r
def gmN (j : Nat) : RGM := fun d Δ M Φ => Φ (Δ.set j (.d d)) M
theorem qg_name {j : Nat} {x : Str} (hN : X.N.Nodup) (hi : X.N[j]? = some x := by rfl) (hx : Loc X.env.scope x := by first | exact Or.inl rfl | exact Or.inr rfl)
    (hf : X.fn x = true ∨ X.env.scope.names.lookup x = some .local := by first | exact .inl rfl | exact .inr rfl) : QG X Z (.Name x pos) (gmN j) :=
  ⟨_, pg_name (i := j) hN hi hx hf, fun M σ H Δ F d v Φ c r h Q q => q _ H _ M F (Ex.refl _) (c.set r j) h⟩
def gmF (C : Addr) (f : Str) (ro : RE) : RGM := fun y Δ M Φ => ro Δ M fun x Δ2 M2 => match x with
  | .ref a => ∃ fs, M2 a = some (.ins C fs) ∧ fs.length < 1000 ∧ Φ Δ2 (updM M2 a (.ins C (putD f y fs)))
  | _ => False
theorem qg_fld {C : Addr} {f : Str} (cl : Cls X.K C) (hn : NoAttr X.K C f) (ho : QE X Z o ro) : QG X Z (.Attribute o f pos) (gmF C f ro) := by
  obtain ⟨t, p, s⟩ := ho
  refine ⟨_, pg_fld p, fun M σ H Δ F d v Φ c r h Q q => ?_⟩
  refine s M σ H Δ F _ c h _ fun w H2 x Δ2 M2 F2 e2 c2 r2 h2 => ?_
  cases x with
  | ref a =>
    obtain ⟨fs, hM, hl, hΦ⟩ := h2
    obtain ⟨dx, vfs, g1, g2, g3⟩ := c2.bs.insM hM
    have len : vfs.length = fs.length := by
      have := congrArg List.length g2
      rw [List.length_map, List.length_map] at this
      exact this
    obtain ⟨q1, q2⟩ := put_rps (f := f) (rp_mono e2 _ _ r) g2 g3
    exact ⟨a, C, dx, vfs, r2, g1, cl, hn, by rw [len]; exact hl, q _ _ _ _ F2 e2 (c2.setO (o2 := .ins C (putD f d fs)) hM ⟨dx, _, rfl, q1, q2⟩) hΦ⟩
  | _ => exact h2.elim
def gChain : List RGM → List D → List Sl → Mem → (List Sl → Mem → Prop) → Prop
  | [], [], Δ, M, Φ => Φ Δ M
  | g :: gs, d :: ds, Δ, M, Φ => g d Δ M fun Δ1 M1 => gChain gs ds Δ1 M1 Φ
  | _, _, _, _, _ => False
def QGs (X : Cx) (Z : Zx) (tgs : List Expr) (rs : List RGM) : Prop := ∃ t, PGs X tgs t ∧ ∀ (M : Mem) (σ : L2.St) (H : Hp) (Δ : List Sl) (F : Hp) (ds : List D) (vs : List V) (Φ : List Sl → Mem → Prop), Cn X.K Z M σ H Δ F → Rps X.K F ds vs → gChain rs ds Δ M Φ →
  ∀ Q : L2.St → Hp → Prop, (∀ σ' H' Δ' M' F', Ex F F' → Cn X.K Z M' σ' H' Δ' F' → Φ Δ' M' → Q σ' H') → t vs σ H Q
theorem qgs_nil : QGs X Z [] [] := ⟨_, pgs_nil, fun M σ H Δ F ds vs Φ c r h Q q => by
  cases ds with
  | nil => exact ⟨r, q σ H Δ M F (Ex.refl _) c h⟩
  | cons _ _ => exact h.elim⟩
theorem qgs_cons {ts : List Expr} {r1 : RGM} {rs : List RGM} (h : QG X Z tg r1) (hs : QGs X Z ts rs) (hst : (assignEach (tg :: ts) X.env).map (·.2) = assign tg X.env :: (assignEach ts X.env).map (·.2) := by rfl) : QGs X Z (tg :: ts) (r1 :: rs) := by
  obtain ⟨g, pg, sg⟩ := h
  obtain ⟨gs, pgs, sgs⟩ := hs
  refine ⟨_, pgs_cons pg pgs hst, fun M σ H Δ F ds vs Φ c r h Q q => ?_⟩
  cases ds with
  | nil => exact h.elim
  | cons d ds =>
    obtain ⟨v, ws, e, h1, h2⟩ := r
    refine ⟨v, ws, e, sg M σ H Δ F d v _ c h1 h _ fun σ1 H1 Δ1 M1 F1 e1 c1 k1 => ?_⟩
    exact sgs M1 σ1 H1 Δ1 F1 ds ws Φ c1 (rps_mono e1 _ _ h2) k1 Q fun σ2 H2 Δ2 M2 F2 e2 => q σ2 H2 Δ2 M2 F2 (e1.trans e2)
/-- x, o.f, y = e -/
def dUnpG (rs : List RGM) (r : RE) : RS := fun De Δ M => r Δ M fun x Δ1 M1 => match x with
  | .tup ds => ds.length = rs.length ∧ gChain rs ds Δ1 M1 fun Δ2 M2 => De.nx Δ2 M2
  | _ => False
theorem qs_unpG {rs : List RGM} {tgs : List Expr} {k : Nat} {tp : Pos} (hc : X.calm = true) (h : QE X Z e r) (hg : QGs X Z tgs rs) (hn : tgs.length = rs.length := by rfl) (hs : swapsWithSole [.Tuple tgs k tp] e pos.line X.env = pure false := by rfl) (hw : swappedStores [.Tuple tgs k tp] e X.env = pure none := by rfl)
    (hpg : ∀ t, PGs X tgs t → PG X (.Tuple tgs k tp) (gTup X.K rs.length t) := by intro t hg; exact pg_tup rfl hg) (h1 : (assignEach [.Tuple tgs k tp] X.env).map (·.2) = [assign (.Tuple tgs k tp) X.env] := by rfl) : QS X Z (.Assign [.Tuple tgs k tp] e pos) (dUnpG rs r) := by
  obtain ⟨t, p, s⟩ := h
  obtain ⟨gs, pgs, sgs⟩ := hg
  refine ⟨_, ps_asg p (hpg gs pgs) hs hw h1, fun M σ H Δ F De c h Dv ok => ?_⟩
  refine s M σ H Δ F _ c h _ fun v H1 x Δ1 M1 F1 e1 c1 r1 h1 => ?_
  cases x with
  | tup ds =>
    obtain ⟨a, vs, ev, g1, g2⟩ := r1
    exact ⟨a, vs, ev, Evl.ex_t c1.bs.fH g1, by rw [rps_len g2]; exact h1.1, sgs M1 σ H1 Δ1 F1 ds vs _ c1 g2 h1.2 _ fun σ2 H2 Δ2 M2 F2 e2 c2 k => ok.nx σ2 H2 Δ2 M2 F2 (e1.trans e2) c2 k⟩
  | _ => exact h1.elim
end
end DL

set_option Elab.async false
set_option linter.all false
set_option maxRecDepth 100000
set_option maxHeartbeats 4000000
/-! extend by a tuple, min and max of a tuple of ints, enumerate of a tuple -/
namespace DL
open PySem PySem.Spec PyProof.Rows L2
open Evl (Ex)
section
variable {X : Cx} {Z : Zx} {e a b o tg : Expr} {ra rb r ro rv : RE} {pos apos : Pos} {K : PySem.W.Frag}
open Builtin AutoSeq1 in
theorem ext_tup (l : Addr) (its : Array Value) (n : Nat) (b : Addr) (its2 : Array Value) (m : Nat) (dd : Option Addr) (sl : Array (Option Value)) (h0 : ¬(!its.isEmpty && Builtin.List.listTooLong (its.size + its2.size)) = true) (h1 : its.size ≤ sizeLine) (h2 : its.size + its2.size ≤ sizeLine + 1) :
    Meets (Builtin.«list.extend» ⟨[.ref l, .ref b], []⟩) (fun _ R s => s.heap.get? l = some { cls := .type "list", dict := none, data := .seq its n, slots := #[] } ∧
      s.heap.get? b = some { cls := .type "tuple", dict := dd, data := .seq its2 m, slots := sl } ∧
      R (.ok (.ret Value.none)) { s with heap := s.heap.update l (Obj.mapSeq fun x => x ++ its2), toks := s.toks }) :=
  .of_wp fun prog w A R s h => by
    obtain ⟨hp, g, d, tk, os⟩ := s
    obtain ⟨hl, hb, h⟩ := h
    have f1 := idx_int
    have f2 := AutoSeq1.sub_tuple_tuple
    have f3 := AutoSeq1.sub_list_list
    have f4 := AutoSeq1.sub_tuple_list
    have f5 := AutoSeq1.sub_list_tuple
    have hz : (its ++ its2).size ≤ sizeLine + 1 := by
      rw [Array.size_append]
      exact h2
    wp_walk using (wpAny_updateSeq hl rfl (hz := h1) (_hz' := hz)), wpAny_loadPart' hl, wpAny_loadPart' hb
    exact ⟨_, rfl, h⟩
def rExtT (K : PySem.W.Frag) : V → List V → Hp → VK → Prop := fun x vs H Q => ∃ l b xs zs, x = .ref l ∧ vs = [.ref b] ∧ H l = some (.lst xs) ∧ SqT K H b zs ∧ xs.length + zs.length ≤ sizeLine ∧ Q .non (upd H l (.lst (xs ++ zs)))
theorem mt_extendT : MtM X "list.extend" (rExtT X.K) := by
  intro pins s σ H x vs v us Q I rx rv h
  obtain ⟨l, b, xs, zs, rfl, rfl, hH, hB, hz, q⟩ := h
  cases rx
  obtain ⟨u, rfl, ru⟩ := rv.one
  cases ru
  obtain ⟨z, its, n, r, hl, e⟩ := I.lstM hH
  obtain ⟨its2, r2, ⟨⟨cls, dd, data, sl⟩, ho, hc, m, hd⟩, hs2⟩ := I.tuple hB
  simp only at hc hd
  subst hc hd
  have hl2 : zs.length = its2.length := r2.length
  have hsz : its.toArray.size + its2.toArray.size ≤ sizeLine := by
    rw [List.size_toArray, List.size_toArray]
    omega
  have hlong : ¬ (!its.toArray.isEmpty && Builtin.List.listTooLong (its.toArray.size + its2.toArray.size)) = true := by
    rw [notLongL hsz, Bool.and_false]
    exact Bool.false_ne_true
  refine call_meets F.slot_list_extend ⟨_, e, rfl⟩ F.entry_list_extend (F.args_list_extend_2 _ _) (ext_tup l its.toArray n b its2.toArray m dd sl hlong ?_ ?_) ⟨e, ho, ?_⟩
  · rw [List.size_toArray] at hsz ⊢
    omega
  · omega
  · refine ⟨.non, _, I.lset (its' := its ++ its2) hH e (by simp) (r.append r2) ?_, rfl, q⟩
    rw [List.length_append]
    omega
/-- xs.extend(t), xs a list in memory, t a tuple -/
def dExtM (ra r : RE) : RS := fun De Δ M => ra Δ M fun x Δ1 M1 => match x with
  | .ref p => (∃ ds, M1 p = some (.lst ds)) ∧ r Δ1 M1 fun y Δ2 M2 => match y with
    | .tup es => ∃ ds, M2 p = some (.lst ds) ∧ ds.length + es.length ≤ sizeLine ∧ De.nx Δ2 (updM M2 p (.lst (ds ++ es)))
    | _ => False
  | _ => False
theorem qs_extM {p2 pos' : Pos} (ho : QE X Z o ra) (h : QE X Z e r)
    (hpe : ∀ t u, PE X o t → PE X e u → PE X (.Call (.Attribute o "extend" p2) [e] [] pos) (tBM X.K "list" (rExtT X.K) t (tCons u tNil)) := by intro t u ht hu; exact pe_bm PySem.F.plainAttrs_list PySem.F.slot_list_extend PySem.F.type_list_extend mt_extendT ht (pa_cons hu pa_nil))
    (hs : swapsWith (.Call (.Attribute o "extend" p2) [e] [] pos) none pos'.line X.env = pure false := by rfl) : QS X Z (.Expr (.Call (.Attribute o "extend" p2) [e] [] pos) pos') (dExtM ra r) := by
  obtain ⟨t0, p0, s0⟩ := ho
  obtain ⟨t, p, s⟩ := h
  refine ⟨_, ps_expr (hpe t0 t p0 p) hs, fun M σ H Δ F De c h Dv ok => ?_⟩
  refine s0 M σ H Δ F _ c h _ fun v H1 x Δ1 M1 F1 e1 c1 r1 h1 => ?_
  cases x with
  | ref p =>
    obtain ⟨⟨ds0, hM0⟩, h1⟩ := h1
    obtain ⟨vs0, g0, _⟩ := c1.bs.lstM hM0
    rw [show v = .ref p from r1]
    refine ⟨.inl ⟨rfl, _, SqL.of g0⟩, ?_⟩
    refine s M1 σ H1 Δ1 F1 _ c1 h1 _ fun w H2 y Δ2 M2 F2 e2 c2 r2 h2 => ?_
    cases y with
    | tup es =>
      obtain ⟨ds, hM, hl, k⟩ := h2
      obtain ⟨vs, g1, g2⟩ := c2.bs.lstM hM
      obtain ⟨b, ws, ew, g3, g4⟩ := r2
      refine ⟨p, b, vs, ws, rfl, by rw [ew], g1, Evl.ex_t c2.bs.fH g3, by rw [rps_len g2, rps_len g4]; exact hl, ?_⟩
      exact ok.nx σ _ _ _ F2 (e1.trans e2) (c2.setM hM (rps_app g2 g4)) k
    | _ => exact h2.elim
  | _ => exact h1.elim

/-! ### min(t), max(t), t a tuple of ints -/
theorem alike_all_ints (ns : List Int) : PySem.W.AlikeAll (ns.map PyData.int) := by
  refine ⟨fun x hx y hy => ?_, fun x hx => ?_⟩
  · obtain ⟨i, _, rfl⟩ := List.mem_map.mp hx
    obtain ⟨j, _, rfl⟩ := List.mem_map.mp hy
    rfl
  · obtain ⟨i, _, rfl⟩ := List.mem_map.mp hx
    intro z
    cases z
theorem depth0 : ∀ ns : List Int, PyData.depthAll (ns.map PyData.int) = 0
  | [] => by simp [PyData.depthAll]
  | n :: ns => by
    have := depth0 ns
    simp only [List.map_cons, PyData.depthAll, PyData.depth, this]
    first | rfl | omega
theorem readsAll_ints {h : Heap} : ∀ {ns : List Int} {vs : List Value}, Vals (ns.map V.int) vs → ReadsAll h vs (ns.map PyData.int) []
  | [], vs, r => by
    cases r
    exact .nil
  | n :: ns, vs, r => by
    cases r with
    | cons r1 r2 =>
      obtain ⟨t, rfl⟩ := r1
      exact ReadsAll.cons (as := []) (bs := []) (.int n t) (readsAll_ints r2)
def foldI (f : Int → Int → Int) : List Int → Int
  | [] => 0
  | n :: ns => ns.foldl f n
def rFold (K : PySem.W.Frag) (f : Int → Int → Int) : List V → Hp → VK → Prop := fun vs H Q => ∃ (a : Addr) (ns : List Int), vs = [V.ref a] ∧ SqT K H a (ns.map V.int) ∧ ns ≠ [] ∧ Q (.int (foldI f ns)) H
theorem cr_minT (hc : X.calm = true) (hu : X.A.units + 64 < cLine) : CallR X (.builtin "min") (rFold X.K min) := by
  intro pins s σ H vs us Q I r h
  obtain ⟨a, ns, rfl, hs, hne, q⟩ := h
  obtain ⟨its, rv, ⟨o, h1, h2, n, h3⟩, _⟩ := I.tuple hs
  rw [Vals.ref1 r]
  cases ns with
  | nil => exact absurd rfl hne
  | cons m ms =>
    refine PySem.W.min_tuple_data (I.ok.hd hc) ⟨o, h1, h2, n, h3⟩ (by rw [List.toList_toArray]; exact readsAll_ints rv) (alike_all_ints (m :: ms)) (by
      have := depth0 (m :: ms)
      simp only [List.map_cons] at this
      rw [this]
      omega) fun i v h' tk bs _ rd kk => ?_
    rw [PySem.W.minD_ints] at rd
    cases rd with
    | int _ t => exact ⟨.int _, H, I.kept kk, ⟨t, rfl⟩, q⟩
theorem cr_maxT (hc : X.calm = true) (hu : X.A.units + 64 < cLine) : CallR X (.builtin "max") (rFold X.K max) := by
  intro pins s σ H vs us Q I r h
  obtain ⟨a, ns, rfl, hs, hne, q⟩ := h
  obtain ⟨its, rv, ⟨o, h1, h2, n, h3⟩, _⟩ := I.tuple hs
  rw [Vals.ref1 r]
  cases ns with
  | nil => exact absurd rfl hne
  | cons m ms =>
    refine PySem.W.max_tuple_data (I.ok.hd hc) ⟨o, h1, h2, n, h3⟩ (by rw [List.toList_toArray]; exact readsAll_ints rv) (alike_all_ints (m :: ms)) (by
      have := depth0 (m :: ms)
      simp only [List.map_cons] at this
      rw [this]
      omega) fun i v h' tk bs _ rd kk => ?_
    rw [PySem.W.maxD_ints] at rd
    cases rd with
    | int _ t => exact ⟨.int _, H, I.kept kk, ⟨t, rfl⟩, q⟩
def intsOf : List D → Option (List Int)
  | [] => some []
  | .int n :: ds => (intsOf ds).map (n :: ·)
  | _ => none
theorem intsOf_map : ∀ ns : List Int, intsOf (ns.map .int) = some ns
  | [] => rfl
  | n :: ns => by
    show (intsOf (ns.map .int)).map (n :: ·) = _
    rw [intsOf_map ns] <;> rfl
theorem rps_of_ints {F : Hp} : ∀ {ds : List D} {ns : List Int} {vs : List V}, intsOf ds = some ns → Rps K F ds vs → vs = ns.map V.int
  | [], ns, vs, h, r => by
    cases h
    exact r
  | d :: ds, ns, vs, h, r => by
    obtain ⟨v, w, e, h1, h2⟩ := r
    cases d with
    | int n =>
      have h' : (intsOf ds).map (n :: ·) = some ns := h
      cases hi : intsOf ds with
      | none => rw [hi] at h'; cases h'
      | some ms =>
        rw [hi] at h'
        cases h'
        rw [e, show v = V.int n from h1, rps_of_ints hi h2] <;> rfl
    | _ => cases h
/-- min(t), max(t) -/
def dFold (f : Int → Int → Int) : List D → (D → Prop) → Prop := fun xs Φ => match xs with
  | [.tup ds] => ∃ ns, intsOf ds = some ns ∧ ns ≠ [] ∧ Φ (.int (foldI f ns))
  | _ => False
theorem cd_fold {f : Int → Int → Int} : CallD K (rFold K f) (dFold f) := by
  intro Z M σ H Δ F xs vs Φ c r k Q q
  unfold dFold at k
  split at k
  · obtain ⟨ns, hi, hne, k⟩ := k
    obtain ⟨v, ev, r1⟩ := DL.vals1 r
    obtain ⟨a, ws, ea, g1, g2⟩ := r1
    have e2 := rps_of_ints hi g2
    subst e2
    exact ⟨a, ns, by rw [ev, ea], Evl.ex_t c.bs.fH g1, hne, q _ H (.int _) F (Ex.refl _) c rfl k⟩
  · exact k.elim
theorem qe_minT {p : Pos} (hc : X.calm = true) (hu : X.A.units + 64 < cLine) (hg : Gl X "min") (hm : X.mg "min" = none) (ha : QA X Z 1 [e] (dCons r dNil)) (he : starEach [e] X.env = (false, eval e X.env) :: starEach [] X.env := by rfl) (hpl : (backTo pos (starEach [] X.env)).any (·.1) = false := by rfl) : QE X Z (.Call (.Name "min" p) [e] [] pos) (dCB (dFold min) (dCons r dNil)) :=
  qe_cb (cr_minT hc hu) cd_fold hg hm (by decide +kernel) ha (by decide) (by decide) he hpl
theorem qe_maxT {p : Pos} (hc : X.calm = true) (hu : X.A.units + 64 < cLine) (hg : Gl X "max") (hm : X.mg "max" = none) (ha : QA X Z 1 [e] (dCons r dNil)) (he : starEach [e] X.env = (false, eval e X.env) :: starEach [] X.env := by rfl) (hpl : (backTo pos (starEach [] X.env)).any (·.1) = false := by rfl) : QE X Z (.Call (.Name "max" p) [e] [] pos) (dCB (dFold max) (dCons r dNil)) :=
  qe_cb (cr_maxT hc hu) cd_fold hg hm (by decide +kernel) ha (by decide) (by decide) he hpl
end
end DL

set_option Elab.async false
set_option linter.all false
set_option maxRecDepth 100000
set_option maxHeartbeats 4000000
/-! enumerate of a list or a tuple -/
namespace DL
open PySem PySem.Spec PyProof.Rows L2
open PySem (wpAny_stack_any)
open Evl (Ex)
section
variable {prog : Program} {w : World} {A : Around} {E : Value → Shared → Prop} {s : Shared}
abbrev enObj (it : Addr) : Obj :=
  { cls := .type "enumerate"
    data := .fields #[.none, .bool false, .ref it, rawInt 0, .none, .none] }
theorem new_enum {v : Value} {ob : Obj} {Hh : Heap → Prop} (B : Begins v ob Hh) :
    Meets (Builtin.«enumerate.__new__» ⟨[.type "enumerate", v], []⟩) (fun _ R s => Hh s.heap ∧
      R (.ok (.ret (.ref (s.heap.push ob).objs.size))) { s with heap := (s.heap.push ob).push (enObj s.heap.objs.size) }) :=
  .of_wp fun prog w A R s h => by
    obtain ⟨hp, g, d, tk, os⟩ := s
    obtain ⟨b1, h⟩ := h
    have sb := sub_enumerate
    have itq : ∀ {A1 : Around} {E : Value → Shared → Prop} {Q : Value → Shared → Prop},
        Q (.ref hp.objs.size) ⟨hp.push ob, g, d, tk, os⟩ →
        wpAny (model prog w) A1 (pyIter v) Q E ⟨hp, g, d, tk, os⟩ :=
      fun q => B.iter prog w _ _ ⟨hp, g, d, tk, os⟩ _ b1 q
    wp_walk using itq
    refine wpAny_stack_any fun _ => (wpAny_pure ?_)
    split
    · rename_i c1 _ _ _ _ _
      cases (c1 == Value.type "enumerate")
      · wp_walk using itq
        exact ⟨_, rfl, h⟩
      · wp_walk using itq
        exact ⟨_, rfl, h⟩
    · wp_walk using itq
      exact ⟨_, rfl, h⟩
theorem call_enum {v : Value} {ob : Obj} {Hh : Heap → Prop} {Q : Value → Shared → Prop} (B : Begins v ob Hh) (b1 : Hh s.heap)
    (k : ∀ h1, IsEnum h1 (s.heap.objs.size + 1) s.heap.objs.size 0 .none → h1.get? s.heap.objs.size = some ob → h1.objs.size = s.heap.objs.size + 2 →
      (∀ b o, s.heap.get? b = some o → h1.get? b = some o) → Q (.ref (s.heap.objs.size + 1)) { s with heap := h1 }) :
    wpAny (model prog w) A (call (.type "enumerate") [v]) Q E s := by
  refine callType_new F.called_enumerate (by decide) (F.typeCall_enumerate_1 _) (F.newCall_enumerate_1 _)
    (fun obj => F.args_object_init_2 obj _) F.entry_enumerate_new (new_enum B) ⟨b1, ?_⟩
  have z1 : (s.heap.push ob).objs.size = s.heap.objs.size + 1 := Heap.size_push ..
  show _ ∧ _
  rw [z1]
  have g1 := Heap.get?_push_size (s.heap.push ob) (o := enObj s.heap.objs.size) rfl
  rw [z1] at g1
  refine ⟨⟨_, g1, rfl⟩, k _ g1 (Heap.get?_push_of_some _ (Heap.get?_push_size _ B.free)) ?_ ?_⟩
  · rw [Heap.size_push, z1]
  · exact fun b o x => Heap.get?_push_of_some _ (Heap.get?_push_of_some _ x)
theorem draws_tup {it a : Addr} {its : Array Value} (hh : A.handled = none) (hne : a ≠ it) : Draws prog w A it [it, a] its.size (fun i x => its[i]? = some x)
    (fun i h => h.IsTupleIter it a i ∧ h.IsTuple a its) where
  live := fun i h st => let ⟨⟨o, ho, _⟩, _⟩ := st; ⟨o, ho⟩
  frame := fun i h h1 st k => ⟨st.1.at fun o x => k it (by simp) o x, st.2.at fun o x => k a (by simp) o x⟩
  item := fun i s Q E hi st hQ => by
    obtain ⟨s1, s2⟩ := st
    have hx : its[i]? = some its[i] := Array.getElem?_eq_getElem hi
    exact RZ.nextOf_tuple_item s1 s2 hx fun h1 n1 sb => hQ _ h1 s.toks hx ⟨n1, s2.at fun o x => (sb.2 a hne).trans x⟩ sb
  done := fun s Q E st hE => by
    obtain ⟨s1, s2⟩ := st
    exact RZ.nextOf_tuple_end hh s1 s2 (Array.getElem?_eq_none (Nat.le_refl _)) fun h1 x sb q => hE h1 x sb q
end
/-- the tuple at a as it stands at each turn, each item in a new pair -/
def ItE (K : PySem.W.Frag) (a : Addr) (n : Nat) : It :=
  ⟨fun i H => ∃ (xs : List V) (x : V), SqT K H a xs ∧ xs[i]? = some x ∧ xs.length = n,
   fun i H v H1 => ∃ T x, v = .ref T ∧ H T = none ∧ H1 = upd H T (.tup [.int (i : Nat), x]) ∧ ∀ xs, SqT K H a xs → xs[i]? = some x,
   fun i H => ∃ xs : List V, SqT K H a xs ∧ xs.length ≤ i ∧ xs.length = n⟩
theorem turn_enT {P : Program} {w : World} {K : PySem.W.Frag} {elts : List Expr} {kk : Nat} {tpos : Pos} (a e it : Addr) (n : Nat) :
    Turn P w K (.Tuple elts kk tpos) (ItE K a n) [e, it] e
      (fun i h => (∃ old, IsEnum h e it ((i : Nat) : Int) old) ∧ h.IsTupleIter it a i ∧ e ≠ it ∧ i ≤ n) where
  mem := by simp
  obj := fun i h st b hb => by
    obtain ⟨⟨old, he⟩, ⟨o, ho, hc, hd⟩, _⟩ := st
    rcases (show b = e ∨ b = it by simpa using hb) with z | z
    · subst z
      exact ⟨_, he, fun v q => nomatch q⟩
    · subst z
      exact ⟨o, ho, fun v q => by rw [hd] at q; cases q⟩
  keep := fun i h h1 st k => by
    obtain ⟨⟨old, he⟩, hi, hne⟩ := st
    exact ⟨⟨old, k e (by simp) _ he⟩, hi.at fun o q => k it (by simp) o q, hne⟩
  item := by
    intro X hP hw hK hc i pins s σ H E I hf st hg
    subst hP hw hK
    obtain ⟨⟨old, he⟩, hit, hne, hin⟩ := st
    obtain ⟨xs, x, hq, hx, hn⟩ := hg
    obtain ⟨its, rv, p, hz⟩ := I.tuple hq
    have pt : s.heap.IsTuple a its.toArray := p
    have hat : ∀ c, c ∈ [e, it] → a ≠ c := fun c hc z => by
      subst z
      obtain ⟨o1, ho1, hc1, _⟩ := pt
      rcases (show a = e ∨ a = it by simpa using hc) with z | z
      · subst z
        have he' : s.heap.get? a = some _ := he
        rw [he'] at ho1
        cases ho1
        exact absurd (Value.type.inj hc1) (by decide)
      · subst z
        obtain ⟨o2, ho2, hc2, _⟩ := hit
        rw [ho2] at ho1
        cases ho1
        rw [hc2] at hc1
        exact absurd (Value.type.inj hc1) (by decide)
    have hae := hat e (by simp)
    have hai := hat it (by simp)
    have hil : i < its.toArray.size := by
      have := (List.getElem?_eq_some_iff.mp hx).1
      have := rv.length
      rw [List.size_toArray]
      omega
    have e1 : e < s.heap.objs.size := Heap.lt_size he
    have e2 : it < s.heap.objs.size := by
      obtain ⟨_, q, _⟩ := hit
      exact Heap.lt_size q
    refine wpAny_pyNext_enum_itemD (draws_tup (A := X.A.in1) (a := a) (its := its.toArray) (I.ok.hd hc) hai) he ⟨hit, pt⟩ hil hne ?_ ?_
    · intro z
      rcases (show e = it ∨ e = a by simpa using z) with z | z
      · exact hne z
      · exact hae z.symm
    intro u h1 tk hu ho hst hT hsz hk
    obtain ⟨hit1, _⟩ := hst
    obtain ⟨u', hu', ru⟩ := rv.get hx
    have euu : u = u' := by
      have hu2 : its[i]? = some u := by simpa using hu
      rw [hu'] at hu2
      exact (Option.some.inj hu2).symm
    subst euu
    refine ⟨_, rfl, wpAny_letOwnedTupleGo_enum (s := { s with heap := h1, toks := tk + 1 }) ho fun h2 he2 sb => ?_⟩
    have hT2 : h2.get? s.heap.objs.size = some { cls := .type "tuple", data := .seq #[.int i tk, u] } := (sb.2 _ (Nat.ne_of_gt e1)).trans hT
    have new : ObjOk X.prog X.w (upd H s.heap.objs.size (.tup [.int (i : Nat), x])) h2 s.heap.objs.size (.tup [.int (i : Nat), x]) :=
      ⟨(by show 2 ≤ sizeLine; decide), [.int i tk, u], .cons ⟨tk, rfl⟩ (.cons ru .nil), ⟨_, hT2, rfl, _, rfl⟩⟩
    have I1 : Inv X pins σ (upd H s.heap.objs.size (.tup [.int (i : Nat), x])) { s with heap := h2, toks := tk + 1 } := by
      refine I.turnedNew (ch := [e, it]) (fun b ob hb q => ?_) hf (Nat.le_refl _) new
      have n1 : b ≠ e := fun z => hb (by simp [z])
      have n2 : b ≠ it := fun z => hb (by simp [z])
      exact (sb.2 b n1).trans (hk b ob n1 n2 q)
    refine ⟨.ref s.heap.objs.size, _, I1, rfl, ⟨_, x, rfl, I.hok.fresh (Nat.le_refl _), rfl, fun ys hy => ?_⟩, ⟨⟨u, ?_⟩, ?_, hne, ?_⟩, fun b hb => ?_⟩
    · rw [I.tuple_inj hy hq]
      exact hx
    · have c1 : ((i + 1 : Nat) : Int) = (i : Int) + 1 := by omega
      rw [c1]
      exact he2
    · exact hit1.at fun o q => (sb.2 it (Ne.symm hne)).trans q
    · have := (List.getElem?_eq_some_iff.mp hx).1
      omega
    · have hb1 : b < s.heap.objs.size := by
        rcases (show b = e ∨ b = it by simpa using hb) with z | z <;> subst z <;> assumption
      rw [upd_ne (Nat.ne_of_lt hb1)]
      exact (hf b hb).1
  done := by
    intro X hP hw hK hc i pins s σ H E I hf st hg
    subst hP hw hK
    obtain ⟨⟨old, he⟩, hit, hne, hin⟩ := st
    obtain ⟨xs, hq, hx, hn⟩ := hg
    obtain ⟨its, rv, p, hz⟩ := I.tuple hq
    have pt : s.heap.IsTuple a its.toArray := p
    have hai : a ≠ it := fun z => by
      subst z
      obtain ⟨o1, ho1, hc1, _⟩ := pt
      obtain ⟨o2, ho2, hc2, _⟩ := hit
      rw [ho2] at ho1
      cases ho1
      rw [hc2] at hc1
      exact absurd (Value.type.inj hc1) (by decide)
    have hi : i = its.toArray.size := by
      have := rv.length
      rw [List.size_toArray]
      omega
    obtain ⟨f0, f1, f2, f3, f4, f5⟩ := hf it (by simp)
    rw [hi] at hit
    exact wpAny_pyNext_enum_endD (draws_tup (A := X.A.in1) (a := a) (its := its.toArray) (I.ok.hd hc) hai) he ⟨hit, pt⟩ fun h1 eb => ⟨rfl, I.turned (t' := s.toks) (fun b o hb z => eb b o hb z) f0 f1 f3 f4 f5⟩
  self := fun A i s Q E st h => by
    obtain ⟨⟨old, he⟩, _⟩ := st
    exact wpAny_pyIter_enum he h
/-! ### for i, x in enumerate(t) -/
def wEnT (K : PySem.W.Frag) (R : It → Hp → Prop) : V → Hp → Prop := fun v H1 => ∃ a xs, v = .ref a ∧ ((SqT K H1 a xs ∧ R (ItE K a xs.length) H1) ∨ (SqL K H1 a xs ∧ R (Ite K a) H1))
def oneV (f : V → Hp → Prop) : List V → Hp → Prop := fun vs H1 => match vs with
  | [v] => f v H1
  | _ => False
def iEnT (K : PySem.W.Frag) (te : TE) : TI := fun σ H R => te σ H (wEnT K R)
section
variable {X : Cx} {Z : Zx} {e : Expr} {r : RE} {p pos tpos : Pos} {elts : List Expr} {kk : Nat}
theorem pi_enT {te : TE} (hg : Gl X "enumerate") (hm : X.mg "enumerate" = none) (ha : PE X e te) (hs : starEach [e] X.env = (false, eval e X.env) :: starEach [] X.env := by rfl) :
    PI X (.Tuple elts kk tpos) (.Call (.Name "enumerate" p) [e] [] pos) (iEnT X.K te) := by
  refine ⟨fun pins s σ H R I h => ?_⟩
  refine Call_ (ld_blt I hg hm boot_enumerate (PyProof.Rows.callWith_type1
    (thn ((pa_cons ha pa_nil hs).run pos pins s σ H (oneV (wEnT X.K R)) I h) fun us s1 ⟨vs, H1, I1, r1, q1⟩ => ?_) hs rfl))
  match vs, q1 with
  | [v], ⟨a, xs, ev, q⟩ =>
    subst ev
    obtain ⟨u, rfl, ru⟩ := L2.vals1 r1
    obtain rfl : u = Value.ref a := ru
    have fresh2 : ∀ b, b ∈ [s1.heap.objs.size + 1, s1.heap.objs.size] → s1.heap.objs.size ≤ b := fun b hb => by
      rcases (show b = s1.heap.objs.size + 1 ∨ b = s1.heap.objs.size by simpa using hb) with z | z
      · rw [z]; exact Nat.le_add_right _ _
      · rw [z]; exact Nat.le_refl _
    rcases q with ⟨hq, q⟩ | ⟨hq, q⟩
    · obtain ⟨its, rv, pt, _⟩ := I1.tuple hq
      refine call_enum (begins_tuple a its.toArray) (show s1.heap.IsTuple a its.toArray from pt) fun h1 he hit hsz hk => wpAny_pyIter_enum he ?_
      refine ⟨s1.heap.objs.size + 1, [s1.heap.objs.size + 1, s1.heap.objs.size], _, _, H1, rfl, I1.kept (t' := s1.toks) hk,
        turn_enT a (s1.heap.objs.size + 1) s1.heap.objs.size xs.length, ⟨⟨.none, he⟩, ⟨_, hit, rfl, rfl⟩, Nat.succ_ne_self _, Nat.zero_le _⟩, fun b hb => ?_, q⟩
      exact I1.fpOk (fresh2 b hb) (I1.hok.fresh (fresh2 b hb))
    · obtain ⟨its, rv, pt, _⟩ := I1.list hq
      refine call_enum (begins_list a its.toArray) pt.isList fun h1 he hit hsz hk => wpAny_pyIter_enum he ?_
      refine ⟨s1.heap.objs.size + 1, [s1.heap.objs.size + 1, s1.heap.objs.size], _, _, H1, rfl, I1.kept (t' := s1.toks) hk,
        turn_enum a (s1.heap.objs.size + 1) s1.heap.objs.size, ⟨⟨.none, he⟩, ⟨_, hit, rfl, rfl⟩, Nat.succ_ne_self _⟩, fun b hb => ?_, q⟩
      exact I1.fpOk (fresh2 b hb) (I1.hok.fresh (fresh2 b hb))
/-- the items of enumerate -/
def enumD (k : Nat) : List D → List D
  | [] => []
  | d :: ds => .tup [.int (k : Nat), d] :: enumD (k + 1) ds
theorem enumD_len : ∀ (k : Nat) (ds : List D), (enumD k ds).length = ds.length
  | _, [] => rfl
  | k, d :: ds => by
    unfold enumD
    rw [List.length_cons, List.length_cons, enumD_len]
theorem enumD_get : ∀ (k i : Nat) (ds : List D) (x : D), (enumD k ds)[i]? = some x → ∃ d, ds[i]? = some d ∧ x = .tup [.int ((k + i : Nat) : Int), d]
  | _, _, [], _, h => by cases h
  | k, 0, d :: ds, x, h => by
    cases h
    exact ⟨d, rfl, rfl⟩
  | k, i + 1, d :: ds, x, h => by
    obtain ⟨d', h1, h2⟩ := enumD_get (k + 1) i ds x h
    refine ⟨d', h1, ?_⟩
    rw [h2]
    congr 4
    omega
/-- the items of what is frozen, with their numbers -/
def dEnum (r : RE) : RI := dItems r |> fun ri Δ M Φ => ri Δ M fun ds Δ1 M1 => Φ (enumD 0 ds) Δ1 M1
theorem walkD_en {K : PySem.W.Frag} {F : Hp} {a : Addr} {xs : List V} {ds : List D} {J : It} {Sq : Hp → Prop} (hw : Walk J xs.length Sq (YPair (fun i => some (.int (i : Nat))) (fun i => xs[i]?))) (hx : ∀ H, Ex F H → Sq H) (hr : Rps K F ds xs) : WalkD K J (enumD 0 ds) F := by
  refine ⟨Sq, _, by rw [enumD_len, ← rps_len hr]; exact hw, hx, fun i H x H1 d hd e y => .inr ?_⟩
  obtain ⟨T, x1, x2, e1, e2, e3, e4, e5⟩ := y
  obtain ⟨d', h1, h2⟩ := enumD_get 0 i ds d hd
  obtain ⟨v, h3, h4⟩ := rps_get hr h1
  have e5' : xs[i]? = some x2 := e5
  rw [e5'] at h3
  cases h3
  have e4' : some (V.int (i : Nat)) = some x1 := e4
  cases e4'
  exact ⟨T, _, [.int ((0 + i : Nat) : Int), d'], e1, e2, e3, h2, ⟨_, _, rfl, (by show V.int _ = V.int _; congr 1; omega), x2, _, rfl, h4, rfl⟩⟩
theorem walk_enT {K : PySem.W.Frag} {a : Addr} {xs : List V} : Walk (ItE K a xs.length) xs.length (fun H => SqT K H a xs) (YPair (fun i => some (.int (i : Nat))) (fun i => xs[i]?)) := by
  refine ⟨fun i H hi q => ⟨xs, xs[i], q, by simp [hi], rfl⟩, fun H q => ⟨xs, q, Nat.le_refl _, rfl⟩, fun i H v H1 _ q y => ?_⟩
  obtain ⟨T, x, h1, h2, h3, h4⟩ := y
  exact ⟨T, .int (i : Nat), x, h1, h2, h3, rfl, h4 xs q⟩
theorem qi_enum (hg : Gl X "enumerate") (hm : X.mg "enumerate" = none) (h : QE X Z e r) (hs : starEach [e] X.env = (false, eval e X.env) :: starEach [] X.env := by rfl) : QI X Z (.Tuple elts kk tpos) (.Call (.Name "enumerate" p) [e] [] pos) (dEnum r) := by
  obtain ⟨t, pe, s⟩ := h
  refine ⟨_, pi_enT hg hm pe hs, fun M σ H Δ F Φ c h R q => ?_⟩
  refine s M σ H Δ F _ c h _ fun v H1 y Δ1 M1 F1 e1 c1 r1 h1 => ?_
  cases y with
  | lst ds =>
    obtain ⟨a, vs, e2, g1, g2⟩ := r1
    exact ⟨a, vs, e2, .inr ⟨SqL.of (c1.bs.fH _ _ g1), q _ H1 _ Δ1 M1 F1 e1 c1 (walkD_en (a := a) walk_enum (fun H e => SqL.of (e _ _ g1)) g2) h1⟩⟩
  | scr ns =>
    obtain ⟨a, e2, g1⟩ := r1
    exact ⟨a, _, e2, .inr ⟨Evl.ex_l c1.bs.fH g1, q _ H1 _ Δ1 M1 F1 e1 c1 (walkD_en (a := a) walk_enum (fun H e => Evl.ex_l e g1) (ints_rps ns)) h1⟩⟩
  | tup ds =>
    obtain ⟨a, vs, e2, g1, g2⟩ := r1
    exact ⟨a, vs, e2, .inl ⟨Evl.ex_t c1.bs.fH g1, q _ H1 _ Δ1 M1 F1 e1 c1 (walkD_en (a := a) walk_enT (fun H e => Evl.ex_t e g1) g2) h1⟩⟩
  | _ => exact h1.elim
end
end DL

set_option Elab.async false
set_option linter.all false
set_option maxRecDepth 100000
set_option maxHeartbeats 4000000
/-! sums, comprehensions frozen at once, exceptions of one field, written tuples -/
namespace DL
open PySem PySem.Spec PyProof.Rows L2
open Evl (Ex)
section
variable {X : Cx} {Z : Zx} {e a b o : Expr} {ra rb r : RE} {pos : Pos} {K : PySem.W.Frag}
theorem op_addT : OpR X (binaryOp .Add) (fun x y H Q => rAddAll X.K x y H Q ∨ rCatA X.K x y H Q) := OpR.or op_addAll op_catA
theorem opD_addT : OpD K (fun x y H Q => rAddAll K x y H Q ∨ rCatA K x y H Q) dAddT := OpD.or opD_add od_catA fun x y Φ k => by
  unfold dAddT at k
  split at k
  · exact .inr k
  · exact .inl k
theorem qe_addT (ha : QE X Z a ra) (hb : QE X Z b rb) : QE X Z (.BinOp a .Add b pos) (dOp dAddT ra rb) := qe_bin op_addT opD_addT ha hb
end
section
variable {X : Cx} {Z : Zx} {elt tge iter tge1 iter1 : Expr} {ifs ifs1 : List Expr} {scope : Scope} {own : List (Str × Nat)} {us vs : List Nat} {pos : Pos} {g g1 : TG} {tg tg1 : RG} {ri ri1 : RI} {rt rt1 : RT} {r : RE}
theorem qs_setLcD {i : Nat} {y : Str} {py spos : Pos} (hc : X.calm = true) (hN : X.N.Nodup) (hy : X.N[i]? = some y) (hyl : X.env.scope.names.lookup y = some .local)
    (hsw : swapsWith (.ListComp elt [⟨tge, iter, ifs, 0⟩] scope pos) (some (.Name y py)) spos.line X.env = pure true) (hi : QI X Z tge iter ri) (ok : BlkOk X.N X.env.scope scope own) (sg : SimGw X.K vs g tg)
    (hg : ∀ (s : Shared) (H : Hp) (C : Addr) (cl : List (Str × Addr)) (fp : List Addr), PG (X.blk s H scope (compEnvC scope cl C X.env) fp) tge g)
    (ht : ∀ (s : Shared) (H : Hp) (C : Addr) (cl : List (Str × Addr)) (fp : List Addr), PTs (X.blk s H scope (compEnvC scope cl C X.env) fp) ifs (ttOf X.K rt))
    (he : ∀ (s : Shared) (H : Hp) (C : Addr) (cl : List (Str × Addr)) (fp : List Addr) (Z : Zx), QE (X.blk s H scope (compEnvC scope cl C X.env) fp) Z elt r)
    (hs : ∀ x, foldedSetIterable iter X.env x = pure x := by intro _; rfl) (hv : own.map (·.2) = vs := by rfl) : QS X Z (.Assign [.Name y py] (.ListComp elt [⟨tge, iter, ifs, 0⟩] scope pos) spos) (dSet i (dFz (dLc vs ri tg rt r))) := by
  subst hv
  obtain ⟨w, p, s⟩ := hi
  refine ⟨_, ps_setLc (i := i) (te := tOf X.K r) (tt := ttOf X.K rt) hc hN hy hyl hsw p ok hg ht (fun s H C cl fp => pe_of (X := X.blk s H scope (compEnvC scope cl C X.env) fp) (he s H C cl fp)) hs, fun M σ H Δ F De c h Dv ok => ?_⟩
  have h : dLc (own.map (·.2)) ri tg rt r Δ M (fun ds Δ1 M1 => De.nx (Δ1.set i (.d (.lst ds))) M1) := h
  refine simL_lc s sg M σ H Δ F _ c h _ fun p H1 vs ds Δ1 M1 F1 e1 c1 hp r1 h1 => ?_
  exact ok.nx _ _ _ M1 _ (e1.trans (c1.bs.exF hp _)) ((c1.new hp _).set (d := .lst ds) ⟨p, vs, rfl, upd_same, rps_mono (c1.bs.exF hp _) _ _ r1⟩ i) h1
theorem qs_setLc2D {i : Nat} {y : Str} {py spos : Pos} (hc : X.calm = true) (hN : X.N.Nodup) (hy : X.N[i]? = some y) (hyl : X.env.scope.names.lookup y = some .local)
    (hsw : swapsWith (.ListComp elt [⟨tge, iter, ifs, 0⟩, ⟨tge1, iter1, ifs1, 0⟩] scope pos) (some (.Name y py)) spos.line X.env = pure true) (hi : QI X Z tge iter ri) (ok : BlkOk X.N X.env.scope scope own) (hu : ∀ i ∈ us, i ∈ vs) (sg : SimGw X.K vs g tg) (sg1 : SimGw X.K us g1 tg1)
    (hg : ∀ (s : Shared) (H : Hp) (C : Addr) (cl : List (Str × Addr)) (fp : List Addr), PG (X.blk s H scope (compEnvC scope cl C X.env) fp) tge g)
    (ht : ∀ (s : Shared) (H : Hp) (C : Addr) (cl : List (Str × Addr)) (fp : List Addr), PTs (X.blk s H scope (compEnvC scope cl C X.env) fp) ifs (ttOf X.K rt))
    (hi1 : ∀ (s : Shared) (H : Hp) (C : Addr) (cl : List (Str × Addr)) (fp : List Addr) (Z : Zx), QI (X.blk s H scope (compEnvC scope cl C X.env) fp) Z tge1 iter1 ri1)
    (hg1 : ∀ (s : Shared) (H : Hp) (C : Addr) (cl : List (Str × Addr)) (fp : List Addr), PG (X.blk s H scope (compEnvC scope cl C X.env) fp) tge1 g1)
    (ht1 : ∀ (s : Shared) (H : Hp) (C : Addr) (cl : List (Str × Addr)) (fp : List Addr), PTs (X.blk s H scope (compEnvC scope cl C X.env) fp) ifs1 (ttOf X.K rt1))
    (he : ∀ (s : Shared) (H : Hp) (C : Addr) (cl : List (Str × Addr)) (fp : List Addr) (Z : Zx), QE (X.blk s H scope (compEnvC scope cl C X.env) fp) Z elt r)
    (hs : ∀ x, foldedSetIterable iter X.env x = pure x := by intro _; rfl) (hs1 : ∀ env x, foldedSetIterable iter1 env x = pure x := by intro _ _; rfl) (hv : own.map (·.2) = vs := by rfl) :
    QS X Z (.Assign [.Name y py] (.ListComp elt [⟨tge, iter, ifs, 0⟩, ⟨tge1, iter1, ifs1, 0⟩] scope pos) spos) (dSet i (dFz (dLc2 vs us ri tg rt ri1 tg1 rt1 r))) := by
  subst hv
  obtain ⟨w, p, s⟩ := hi
  refine ⟨_, ps_setLc2 (i := i) (te := tOf X.K r) (tt := ttOf X.K rt) (tt1 := ttOf X.K rt1) (wi1 := iOf X.K ri1) hc hN hy hyl hsw p ok hu hg ht (fun s H C cl fp => pi_of (X := X.blk s H scope (compEnvC scope cl C X.env) fp) (hi1 s H C cl fp)) hg1 ht1 (fun s H C cl fp => pe_of (X := X.blk s H scope (compEnvC scope cl C X.env) fp) (he s H C cl fp)) hs hs1, fun M σ H Δ F De c h Dv ok => ?_⟩
  have h : dLc2 (own.map (·.2)) us ri tg rt ri1 tg1 rt1 r Δ M (fun ds Δ1 M1 => De.nx (Δ1.set i (.d (.lst ds))) M1) := h
  refine simL_lc2 s sg sg1 hu M σ H Δ F _ c h _ fun p H1 vs ds Δ1 M1 F1 e1 c1 hp r1 h1 => ?_
  exact ok.nx _ _ _ M1 _ (e1.trans (c1.bs.exF hp _)) ((c1.new hp _).set (d := .lst ds) ⟨p, vs, rfl, upd_same, rps_mono (c1.bs.exF hp _) _ _ r1⟩ i) h1
end
/-- an own exception's __init__ of one field -/
theorem init1 {K : PySem.W.Frag} {C : Addr} {f1 a b : Str} {vs : List V} {H : Hp} {Q : VK} {E : XK} (T : OexC K C) (n1 : PySem.W.findIn K (.ref C) f1 = some none) (h : spInit C [f1] vs H Q E) :
    tOst K f1 (tVar 0) (tVar 1) { nx := fun _ H' => Q .non H', rt := Q } (L2.start [a, b] vs) H := by
  obtain ⟨e, ws, rfl, hl, he, k⟩ := h
  match ws, hl with
  | [x], _ =>
    refine ⟨x, rfl, .ref e, rfl, e, C, rfl, T, n1, .inl ⟨he, fun dx hdx hne => ?_⟩⟩
    refine k dx _ hdx hne ?_ ?_ fun u h1 h2 => ?_
    · rw [upd_same]
    · rw [upd_ne hne, upd_same] <;> rfl
    · rw [upd_ne h1, upd_ne h2]
/-- a tuple of texts of the module -/
def strsD (xs : List Str) : D := .tup (xs.map .str)
theorem rp_strs {K : PySem.W.Frag} {F : Hp} {c : Addr} {o : Obj} {its : Array Value} {n : Nat} {xs : List Str} (hk : K.lookup c = some o) (hc : o.cls = .type "tuple") (hd : o.data = .seq its n) (hz : its.size ≤ sizeLine) (hv : Vals (xs.map V.str) its.toList) : Rp K F (strsD xs) (.ref c) := by
  refine ⟨c, xs.map V.str, rfl, .inr ⟨o, its, n, hk, hc, hd, hz, hv⟩, ?_⟩
  clear hv
  induction xs with
  | nil => rfl
  | cons x xs ih => exact ⟨_, _, rfl, rfl, ih⟩
end DL

set_option Elab.async false
set_option linter.all false
set_option maxRecDepth 100000
set_option maxHeartbeats 4000000
namespace My
open PySem PySem.Spec PyProof.Rows L2 DL
open Evl (Ex)
/-! ### books, states, deeds -/
inductive Ly where
  | cell (nm : Str) (n : Nat) | setting (nm : Str) (n : Nat) | note (nm : Str) (t : List (List Nat)) | fail (nm : Str) (n : Nat) | outside (nm : Str) (ar : List Nat)
abbrev ni (n : Nat) : D := .int ((n : Nat) : Int)
def rowD (r : List Nat) : D := .tup (r.map ni)
def tabD (t : List (List Nat)) : D := .tup (t.map rowD)
def Ly.w : Ly → Str
  | .cell _ _ => Str.ofString "cell" | .setting _ _ => Str.ofString "setting" | .note _ _ => Str.ofString "note" | .fail _ _ => Str.ofString "fail" | .outside _ _ => Str.ofString "outside"
def Ly.nm : Ly → Str
  | .cell x _ => x | .setting x _ => x | .note x _ => x | .fail x _ => x | .outside x _ => x
def Ly.ext : Ly → D
  | .cell _ n => ni n | .setting _ n => ni n | .note _ t => tabD t | .fail _ n => ni n | .outside _ ar => rowD ar
def Ly.d (l : Ly) : D := .tup [.str l.w, .str l.nm, l.ext]
def Ly.hv : Ly → Bool
  | .cell _ _ => true | .setting _ _ => true | _ => false
def Ly.isSet : Ly → Bool
  | .setting _ _ => true | _ => false
def Ly.isCN : Ly → Bool
  | .cell _ _ => true | .note _ _ => true | _ => false
def Ly.cnt : Ly → Nat
  | .cell _ n => n | .setting _ n => n | .note _ t => t.length | .fail _ n => n | .outside _ ar => ar.length
def Ly.vals (l : Ly) : Nat := if l.hv then l.cnt else 1
def tabAt (t : List (List Nat)) (x y : Nat) : Nat := (t.getD x []).getD y 0
/-- the table's rows are as long as it is, its members are there -/
def TabOk (t : List (List Nat)) : Prop := 2 ≤ t.length ∧ t.length ≤ 6 ∧ ∀ r ∈ t, r.length = t.length ∧ ∀ x ∈ r, x < t.length
def Ly.Ok : Ly → Prop
  | .cell _ n => 2 ≤ n ∧ n ≤ 3
  | .setting _ n => 2 ≤ n ∧ n ≤ 3
  | .note _ t => TabOk t
  | .fail _ n => 1 ≤ n ∧ n ≤ 3
  | .outside _ ar => 1 ≤ ar.length ∧ ar.length ≤ 2 ∧ ∀ x ∈ ar, 1 ≤ x ∧ x ≤ 3
def LOk (L : List Ly) : Prop := L.length ≤ 5 ∧ ∀ l ∈ L, l.Ok
theorem LOk.at {L : List Ly} (h : LOk L) {i : Nat} {l : Ly} (e : L[i]? = some l) : l.Ok := h.2 l (List.mem_of_getElem? e)
theorem Ly.vals_le {l : Ly} (h : l.Ok) : 1 ≤ l.vals ∧ l.vals ≤ 3 := by
  cases l <;> simp only [Ly.vals, Ly.hv, Ly.cnt, Ly.Ok] at h ⊢ <;> simp <;> omega
def stD (s : List Int) : List D := s.map .int
theorem stD_len (s : List Int) : (stD s).length = s.length := by unfold stD; rw [List.length_map]
theorem stD_app (s u : List Int) : stD s ++ stD u = stD (s ++ u) := by unfold stD; rw [List.map_append]
theorem stD_at {s : List Int} {i : Nat} {x : Int} (h : s[i]? = some x) : (stD s)[i]? = some (.int x) := by
  unfold stD
  rw [List.getElem?_map, h] <;> rfl
theorem stD_set (s : List Int) (i : Nat) (x : Int) : (stD s).set i (.int x) = stD (s.set i x) := by unfold stD; rw [List.map_set]
theorem tabAt_lt {t : List (List Nat)} (h : TabOk t) {x y : Nat} (hx : x < t.length) (hy : y < t.length) : tabAt t x y < t.length ∧ (∃ r, t[x]? = some r ∧ r[y]? = some (tabAt t x y)) := by
  have h1 : t[x]? = some t[x] := List.getElem?_eq_getElem hx
  obtain ⟨h2, h3⟩ := h.2.2 t[x] (List.getElem_mem hx)
  have hy' : y < t[x].length := by rw [h2]; exact hy
  have h4 : t[x][y]? = some t[x][y] := List.getElem?_eq_getElem hy'
  have e : tabAt t x y = t[x][y] := by
    unfold tabAt
    rw [List.getD_eq_getElem?_getD, List.getD_eq_getElem?_getD, h1]
    show (t[x][y]?).getD 0 = _
    rw [h4] <;> rfl
  exact ⟨by rw [e]; exact h3 _ (List.getElem_mem hy'), t[x], h1, by rw [e]; exact h4⟩

/-! ### the states below a layer -/
def valAt (L : List Ly) (i : Nat) : Nat := match L[i]? with
  | some l => l.vals
  | none => 1
theorem valAt_of {L : List Ly} {i : Nat} {l : Ly} (h : L[i]? = some l) : valAt L i = l.vals := by unfold valAt; rw [h]
theorem valAt_le {L : List Ly} (h : LOk L) (i : Nat) : 1 ≤ valAt L i ∧ valAt L i ≤ 3 := by
  unfold valAt
  cases e : L[i]? with
  | none => exact ⟨Nat.le_refl _, by decide⟩
  | some l => exact Ly.vals_le (h.at e)
def ext1 (v : Nat) (r : List Int) : List (List Int) := (List.range v).map fun e => r ++ [((e : Nat) : Int)]
def rowsF (L : List Ly) : Nat → List (List Int)
  | 0 => [[]]
  | n + 1 => (rowsF L n).flatMap (ext1 (valAt L n))
theorem flat_len {α β : Type} {f : α → List β} {k : Nat} : ∀ {l : List α}, (∀ x ∈ l, (f x).length = k) → (l.flatMap f).length = l.length * k
  | [], _ => by simp
  | x :: l, h => by
    rw [List.flatMap_cons, List.length_append, h x List.mem_cons_self, flat_len fun y hy => h y (List.mem_cons_of_mem _ hy), List.length_cons, Nat.add_mul, Nat.one_mul, Nat.add_comm]
theorem ext1_len (v : Nat) (r : List Int) : (ext1 v r).length = v := by unfold ext1; rw [List.length_map, List.length_range]
theorem rowsF_len1 (L : List Ly) (n : Nat) : (rowsF L (n + 1)).length = (rowsF L n).length * valAt L n := flat_len fun x _ => ext1_len _ x
theorem rowsF_len {L : List Ly} (h : LOk L) : ∀ n, 1 ≤ (rowsF L n).length ∧ (rowsF L n).length ≤ 3 ^ n
  | 0 => ⟨Nat.le_refl _, Nat.le_refl _⟩
  | n + 1 => by
    obtain ⟨h1, h2⟩ := rowsF_len h n
    obtain ⟨h3, h4⟩ := valAt_le h n
    rw [rowsF_len1]
    exact ⟨Nat.le_trans (by decide) (Nat.mul_le_mul h1 h3), by rw [Nat.pow_succ]; exact Nat.mul_le_mul h2 h4⟩
theorem rowsF_mem {L : List Ly} : ∀ {n : Nat} {r : List Int}, r ∈ rowsF L n → r.length = n ∧ ∀ i, i < n → ∃ x : Nat, r[i]? = some (x : Int) ∧ x < valAt L i
  | 0, r, h => by
    have : r = [] := by simpa [rowsF] using h
    subst this
    exact ⟨rfl, fun i hi => absurd hi (Nat.not_lt_zero _)⟩
  | n + 1, r, h => by
    obtain ⟨r0, h0, h1⟩ := List.mem_flatMap.mp h
    obtain ⟨e, he, rfl⟩ := List.mem_map.mp h1
    obtain ⟨h2, h3⟩ := rowsF_mem h0
    refine ⟨by rw [List.length_append, h2]; rfl, fun i hi => ?_⟩
    by_cases c : i < n
    · obtain ⟨x, hx, hv⟩ := h3 i c
      exact ⟨x, by rw [List.getElem?_append_left (by omega)]; exact hx, hv⟩
    · have : i = n := by omega
      subst this
      refine ⟨e, ?_, by simpa using he⟩
      rw [List.getElem?_append_right (by omega), h2, Nat.sub_self] <;> rfl
/-- the place of a row -/
def radF (L : List Ly) (r : List Int) : Nat → Int
  | 0 => 0
  | n + 1 => radF L r n * (valAt L n : Nat) + r.getD n 0
theorem radF_app {L : List Ly} {r u : List Int} : ∀ {n : Nat}, n ≤ r.length → radF L (r ++ u) n = radF L r n
  | 0, _ => rfl
  | n + 1, h => by
    unfold radF
    rw [radF_app (by omega), List.getD_eq_getElem?_getD, List.getD_eq_getElem?_getD, List.getElem?_append_left (by omega)]
theorem flat_get {α β : Type} {f : α → List β} {k : Nat} : ∀ {l : List α} {j : Nat} {y : β}, (∀ x ∈ l, (f x).length = k) → (l.flatMap f)[j]? = some y → ∃ a b x, j = a * k + b ∧ b < k ∧ l[a]? = some x ∧ (f x)[b]? = some y
  | [], _, _, _, h => by simp at h
  | x :: l, j, y, hk, h => by
    rw [List.flatMap_cons] at h
    have hx := hk x List.mem_cons_self
    by_cases c : j < k
    · rw [List.getElem?_append_left (by omega)] at h
      exact ⟨0, j, x, by omega, c, rfl, h⟩
    · rw [List.getElem?_append_right (by omega), hx] at h
      obtain ⟨a, b, z, h1, h2, h3, h4⟩ := flat_get (fun y hy => hk y (List.mem_cons_of_mem _ hy)) h
      refine ⟨a + 1, b, z, ?_, h2, h3, h4⟩
      rw [Nat.add_mul]
      omega
theorem rad_rows {L : List Ly} : ∀ {n j : Nat} {r : List Int}, (rowsF L n)[j]? = some r → radF L r n = (j : Nat)
  | 0, j, r, h => by
    have hj : j < (rowsF L 0).length := (List.getElem?_eq_some_iff.mp h).1
    have hj' : j < 1 := hj
    have : j = 0 := by omega
    subst this
    rfl
  | n + 1, j, r, h => by
    obtain ⟨a, b, r0, h1, h2, h3, h4⟩ := flat_get (fun x _ => ext1_len _ x) h
    unfold ext1 at h4
    rw [List.getElem?_map, List.getElem?_range h2] at h4
    cases h4
    have hl := (rowsF_mem (List.mem_of_getElem? h3)).1
    unfold radF
    rw [radF_app (by omega), rad_rows h3, List.getD_eq_getElem?_getD, List.getElem?_append_right (by omega), hl, Nat.sub_self, h1]
    show (a : Int) * (valAt L n : Nat) + (b : Nat) = ((a * valAt L n + b : Nat) : Int)
    rw [Int.natCast_add, Int.natCast_mul]
def startsF (L : List Ly) (m : Nat) (s : List Int) : List (List Int) := (rowsF L m).map (· ++ s.drop m)

/-! ### what is kept, entries beneath -/
def setAt (L : List Ly) (i : Nat) : Bool := match L[i]? with
  | some l => l.isSet
  | none => false
theorem setAt_of {L : List Ly} {i : Nat} {l : Ly} (h : L[i]? = some l) : setAt L i = l.isSet := by unfold setAt; rw [h]
def keptF (L : List Ly) (s : List Int) (m i : Nat) : List Int := (List.range m).map fun j => if j < i ∧ setAt L j = true then 0 else s.getD j 0
theorem keptF_len (L : List Ly) (s : List Int) (m i : Nat) : (keptF L s m i).length = m := by unfold keptF; rw [List.length_map, List.length_range]
theorem keptF_at {L : List Ly} {s : List Int} {m i j : Nat} (h : j < m) : (keptF L s m i)[j]? = some (if j < i ∧ setAt L j = true then 0 else s.getD j 0) := by
  unfold keptF
  rw [List.getElem?_map, List.getElem?_range h] <;> rfl
theorem getD_at {s : List Int} {i : Nat} (h : i < s.length) : s[i]? = some (s.getD i 0) := by
  rw [List.getD_eq_getElem?_getD, List.getElem?_eq_getElem h] <;> rfl
theorem keptF_zero {L : List Ly} {s : List Int} {m : Nat} (h : m ≤ s.length) : keptF L s m 0 = s.take m := by
  apply List.ext_getElem?
  intro j
  by_cases c : j < m
  · rw [keptF_at c, if_neg (fun z => absurd z.1 (Nat.not_lt_zero _)), List.getElem?_take_of_lt c, getD_at (by omega)]
  · rw [List.getElem?_eq_none (by rw [keptF_len]; omega), List.getElem?_eq_none (by rw [List.length_take]; omega)]
theorem keptF_set {L : List Ly} {s : List Int} {m i : Nat} (h : i < m) (hs : setAt L i = true) : (keptF L s m i).set i 0 = keptF L s m (i + 1) := by
  apply List.ext_getElem?
  intro j
  by_cases c : j < m
  · by_cases e : i = j
    · subst e
      rw [List.getElem?_set_self (by rw [keptF_len]; exact h), keptF_at h, if_pos ⟨by omega, hs⟩]
    · rw [List.getElem?_set_ne e, keptF_at c, keptF_at c]
      by_cases k : j < i ∧ setAt L j = true
      · rw [if_pos k, if_pos ⟨by omega, k.2⟩]
      · rw [if_neg k, if_neg (fun z => k ⟨by omega, z.2⟩)]
  · rw [List.getElem?_eq_none (by rw [List.length_set, keptF_len]; omega), List.getElem?_eq_none (by rw [keptF_len]; omega)]
theorem keptF_skip {L : List Ly} {s : List Int} {m i : Nat} (hs : setAt L i = false) : keptF L s m i = keptF L s m (i + 1) := by
  apply List.ext_getElem?
  intro j
  by_cases c : j < m
  · rw [keptF_at c, keptF_at c]
    by_cases k : j < i ∧ setAt L j = true
    · rw [if_pos k, if_pos ⟨by omega, k.2⟩]
    · rw [if_neg k]
      by_cases k2 : j < i + 1 ∧ setAt L j = true
      · have : j = i := by
          by_cases z : j < i
          · exact absurd ⟨z, k2.2⟩ k
          · omega
        subst this
        rw [hs] at k2
        exact absurd k2.2 (by decide)
      · rw [if_neg k2]
  · rw [List.getElem?_eq_none (by rw [keptF_len]; omega), List.getElem?_eq_none (by rw [keptF_len]; omega)]
/-- what is kept at the layer with m layers beneath -/
def keepF (L : List Ly) (s : List Int) (m : Nat) : List Int := keptF L s m m
def hvAt (L : List Ly) (i : Nat) : Bool := match L[i]? with
  | some l => l.hv
  | none => false
theorem hvAt_of {L : List Ly} {i : Nat} {l : Ly} (h : L[i]? = some l) : hvAt L i = l.hv := by unfold hvAt; rw [h]
/-- the entries beneath, what is left of the number -/
def entF (L : List Ly) (r : Int) : Nat → List Int
  | 0 => []
  | n + 1 => entF L r n ++ [if hvAt L n then (leftF n) % (valAt L n : Nat) else 0]
where leftF : Nat → Int
  | 0 => r
  | n + 1 => if hvAt L n then leftF n / (valAt L n : Nat) else leftF n
abbrev leftF (L : List Ly) (r : Int) (n : Nat) : Int := entF.leftF L r n
theorem entF_len (L : List Ly) (r : Int) : ∀ n, (entF L r n).length = n
  | 0 => rfl
  | n + 1 => by
    unfold entF
    rw [List.length_append, entF_len L r n] <;> rfl
theorem left_lo {L : List Ly} {r : Int} (h : 0 ≤ r) : ∀ n, 0 ≤ leftF L r n
  | 0 => h
  | n + 1 => by
    have := left_lo (L := L) h n
    show 0 ≤ entF.leftF L r (n + 1)
    unfold entF.leftF
    split
    · exact Int.ediv_nonneg this (Int.natCast_nonneg _)
    · exact this
/-! ### deeds and their steps -/
inductive Dd where
  | choose (p : Nat) | draw (p a b : Nat) | get (i : Nat) | put (i x : Nat) | look (i : Nat) | note (i m : Nat) | ask (i d : Nat)
def Dd.d : Dd → D
  | .choose p => .tup [.str (Str.ofString "choose"), ni p]
  | .draw p a b => .tup [.str (Str.ofString "draw"), ni p, ni a, ni b]
  | .get i => .tup [.str (Str.ofString "get"), ni (i + 1)]
  | .put i x => .tup [.str (Str.ofString "put"), ni (i + 1), ni x]
  | .look i => .tup [.str (Str.ofString "look"), ni (i + 1)]
  | .note i m => .tup [.str (Str.ofString "note"), ni (i + 1), ni m]
  | .ask i d => .tup [.str (Str.ofString "ask"), ni (i + 1), ni d]
def Dd.Ok (L : List Ly) : Dd → Prop
  | .choose _ => True
  | .draw _ _ b => 1 ≤ b
  | .get i => i < L.length
  | .put i _ => ∃ nm n, L[i]? = some (.cell nm n)
  | .look i => i < L.length
  | .note i m => ∃ nm t, L[i]? = some (.note nm t) ∧ m < t.length
  | .ask i d => ∃ nm ar, L[i]? = some (.outside nm ar) ∧ d < ar.length
def Dd.tk : Dd → Bool
  | .choose _ => true | .draw _ _ _ => true | .ask _ _ => true | _ => false
def arAt (L : List Ly) (i d : Nat) : Nat := match L[i]? with
  | some (.outside _ ar) => ar.getD d 1
  | _ => 1
def tbAt (L : List Ly) (i x m : Nat) : Nat := match L[i]? with
  | some (.note _ t) => tabAt t x m
  | _ => 0
def wayF (L : List Ly) (s : List Int) (n : Int) : Dd → Int
  | .choose _ => n % 2
  | .draw _ a b => if n % (b : Nat) < (a : Nat) then 0 else 1
  | .get i => s.getD i 0
  | .look i => s.getD i 0
  | .put _ _ => 0
  | .note _ _ => 0
  | .ask i d => n % (arAt L i d : Nat)
def aftF (L : List Ly) (s : List Int) (n : Int) : Dd → List Int
  | .put i x => s.set i (x : Nat)
  | .note i m => s.set i (tbAt L i (s.getD i 0).toNat m : Nat)
  | .ask i d => entF L (n / (arAt L i d : Nat)) i ++ s.drop i
  | _ => s
def tldF (L : List Ly) (s : List Int) (n : Int) : Dd → List D
  | .ask i d => [.tup [ni (i + 1), ni d, .tup (stD (keepF L s i)), .int (n % (arAt L i d : Nat)), .tup (stD (entF L (n / (arAt L i d : Nat)) i))]]
  | _ => []
def StOk (L : List Ly) (s : List Int) : Prop := s.length = L.length ∧ ∀ (i : Nat) (nm : Str) (t : List (List Nat)), L[i]? = some (Ly.note nm t) → ∃ x : Nat, s[i]? = some (x : Int) ∧ x < t.length
theorem ar_pos {L : List Ly} (h : LOk L) {i d : Nat} {nm : Str} {ar : List Nat} (e : L[i]? = some (.outside nm ar)) (hd : d < ar.length) : 1 ≤ arAt L i d ∧ arAt L i d ≤ 3 ∧ ar[d]? = some (arAt L i d) := by
  have h1 : Ly.Ok (.outside nm ar) := h.at e
  have h2 := h1.2.2 ar[d] (List.getElem_mem hd)
  have h3 : ar[d]? = some ar[d] := List.getElem?_eq_getElem hd
  have : arAt L i d = ar[d] := by
    unfold arAt
    rw [e]
    show ar.getD d 1 = _
    rw [List.getD_eq_getElem?_getD, h3] <;> rfl
  rw [this]
  exact ⟨h2.1, h2.2, h3⟩
theorem lt_of_some {α : Type} {l : List α} {i : Nat} {x : α} (h : l[i]? = some x) : i < l.length := (List.getElem?_eq_some_iff.mp h).1
theorem entF_at {L : List Ly} {r : Int} : ∀ {n i : Nat}, i < n → (entF L r n)[i]? = some (if hvAt L i then leftF L r i % (valAt L i : Nat) else 0)
  | 0, _, h => absurd h (Nat.not_lt_zero _)
  | n + 1, i, h => by
    unfold entF
    by_cases c : i < n
    · rw [List.getElem?_append_left (by rw [entF_len]; exact c), entF_at c]
    · have : i = n := by omega
      subst this
      rw [List.getElem?_append_right (by rw [entF_len]; omega), entF_len, Nat.sub_self] <;> rfl
theorem aft_ok {L : List Ly} (h : LOk L) {s : List Int} (hs : StOk L s) {n : Int} {dd : Dd} (hd : dd.Ok L) : StOk L (aftF L s n dd) := by
  obtain ⟨hl, hn⟩ := hs
  cases dd with
  | put i x =>
    obtain ⟨nm, m, e⟩ := hd
    refine ⟨by show (s.set i _).length = _; rw [List.length_set, hl], fun j nm' t ej => ?_⟩
    have ne : i ≠ j := fun z => by
      subst z
      rw [e] at ej
      cases ej
    obtain ⟨y, h1, h2⟩ := hn j nm' t ej
    exact ⟨y, by show (s.set i _)[j]? = _; rw [List.getElem?_set_ne ne]; exact h1, h2⟩
  | note i m =>
    obtain ⟨nm, t, e, hm⟩ := hd
    refine ⟨by show (s.set i _).length = _; rw [List.length_set, hl], fun j nm' t' ej => ?_⟩
    by_cases c : i = j
    · subst c
      rw [e] at ej
      cases ej
      obtain ⟨y, h1, h2⟩ := hn i nm t e
      refine ⟨tbAt L i (s.getD i 0).toNat m, ?_, ?_⟩
      · show (s.set i _)[i]? = _
        rw [List.getElem?_set_self (lt_of_some h1)]
      · unfold tbAt
        rw [e]
        have : s.getD i 0 = (y : Int) := by rw [List.getD_eq_getElem?_getD, h1] <;> rfl
        rw [this]
        exact (tabAt_lt (h.at e) (by rw [Int.toNat_natCast]; exact h2) hm).1
    · obtain ⟨y, h1, h2⟩ := hn j nm' t' ej
      exact ⟨y, by show (s.set i _)[j]? = _; rw [List.getElem?_set_ne c]; exact h1, h2⟩
  | ask i d =>
    obtain ⟨nm, ar, e, hd⟩ := hd
    have hi : i < L.length := lt_of_some e
    refine ⟨by show (_ ++ _ : List Int).length = _; rw [List.length_append, entF_len, List.length_drop]; omega, fun j nm' t ej => ?_⟩
    by_cases c : j < i
    · refine ⟨0, ?_, ?_⟩
      · show (_ ++ _ : List Int)[j]? = _
        rw [List.getElem?_append_left (by rw [entF_len]; exact c), entF_at c, hvAt_of ej] <;> rfl
      · have := (show TabOk t from h.at ej).1
        omega
    · obtain ⟨y, h1, h2⟩ := hn j nm' t ej
      refine ⟨y, ?_, h2⟩
      show (_ ++ _ : List Int)[j]? = _
      rw [List.getElem?_append_right (by rw [entF_len]; omega), entF_len, List.getElem?_drop, show i + (j - i) = j by omega]
      exact h1
  | _ => exact ⟨hl, hn⟩
/-! ### going back -/
def cnAt (L : List Ly) (i : Nat) : Bool := match L[i]? with
  | some l => l.isCN
  | none => false
theorem cnAt_of {L : List Ly} {i : Nat} {l : Ly} (h : L[i]? = some l) : cnAt L i = l.isCN := by unfold cnAt; rw [h]
def backF (L : List Ly) (s old : List Int) (m i : Nat) : List Int := (List.range L.length).map fun j => if (m ≤ j ∧ j < i) ∧ cnAt L j = true then old.getD j 0 else s.getD j 0
theorem backF_len (L : List Ly) (s old : List Int) (m i : Nat) : (backF L s old m i).length = L.length := by unfold backF; rw [List.length_map, List.length_range]
theorem backF_at {L : List Ly} {s old : List Int} {m i j : Nat} (h : j < L.length) : (backF L s old m i)[j]? = some (if (m ≤ j ∧ j < i) ∧ cnAt L j = true then old.getD j 0 else s.getD j 0) := by
  unfold backF
  rw [List.getElem?_map, List.getElem?_range h] <;> rfl
theorem backF_zero {L : List Ly} {s old : List Int} {m i : Nat} (h : s.length = L.length) (hm : i ≤ m) : backF L s old m i = s := by
  apply List.ext_getElem?
  intro j
  by_cases c : j < L.length
  · rw [backF_at c, if_neg (fun z => by omega), getD_at (by omega)]
  · rw [List.getElem?_eq_none (by rw [backF_len]; omega), List.getElem?_eq_none (by omega)]
theorem backF_set {L : List Ly} {s old : List Int} {m i : Nat} (h : i < L.length) (hm : m ≤ i) (hs : cnAt L i = true) : (backF L s old m i).set i (old.getD i 0) = backF L s old m (i + 1) := by
  apply List.ext_getElem?
  intro j
  by_cases c : j < L.length
  · by_cases e : i = j
    · subst e
      rw [List.getElem?_set_self (by rw [backF_len]; exact h), backF_at h, if_pos ⟨⟨hm, by omega⟩, hs⟩]
    · rw [List.getElem?_set_ne e, backF_at c, backF_at c]
      by_cases k : (m ≤ j ∧ j < i) ∧ cnAt L j = true
      · rw [if_pos k, if_pos ⟨⟨k.1.1, by omega⟩, k.2⟩]
      · rw [if_neg k, if_neg (fun z => k ⟨⟨z.1.1, by omega⟩, z.2⟩)]
  · rw [List.getElem?_eq_none (by rw [List.length_set, backF_len]; omega), List.getElem?_eq_none (by rw [backF_len]; omega)]
theorem backF_skip {L : List Ly} {s old : List Int} {m i : Nat} (hs : cnAt L i = false) : backF L s old m i = backF L s old m (i + 1) := by
  apply List.ext_getElem?
  intro j
  by_cases c : j < L.length
  · rw [backF_at c, backF_at c]
    by_cases k : (m ≤ j ∧ j < i) ∧ cnAt L j = true
    · rw [if_pos k, if_pos ⟨⟨k.1.1, by omega⟩, k.2⟩]
    · rw [if_neg k]
      by_cases k2 : (m ≤ j ∧ j < i + 1) ∧ cnAt L j = true
      · have : j = i := by
          by_cases z : j < i
          · exact absurd ⟨⟨k2.1.1, z⟩, k2.2⟩ k
          · omega
        subst this
        rw [hs] at k2
        exact absurd k2.2 (by decide)
      · rw [if_neg k2]
  · rw [List.getElem?_eq_none (by rw [backF_len]; omega), List.getElem?_eq_none (by rw [backF_len]; omega)]
theorem back_ok {L : List Ly} {s old : List Int} {m i : Nat} (h : StOk L s) (ho : StOk L old) : StOk L (backF L s old m i) := by
  refine ⟨backF_len L s old m i, fun j nm t e => ?_⟩
  have hj : j < L.length := lt_of_some e
  rw [backF_at hj]
  obtain ⟨x, h1, h2⟩ := h.2 j nm t e
  obtain ⟨y, h3, h4⟩ := ho.2 j nm t e
  split
  · exact ⟨y, by rw [List.getD_eq_getElem?_getD, h3] <;> rfl, h4⟩
  · exact ⟨x, by rw [List.getD_eq_getElem?_getD, h1] <;> rfl, h2⟩
theorem starts_ok {L : List Ly} (h : LOk L) {s : List Int} (hs : s ∈ rowsF L L.length) : StOk L s := by
  obtain ⟨h1, h2⟩ := rowsF_mem hs
  refine ⟨h1, fun i nm t e => ?_⟩
  obtain ⟨x, h3, h4⟩ := h2 i (lt_of_some e)
  rw [valAt_of e] at h4
  have h5 : x < 1 := h4
  have := (show TabOk t from h.at e).1
  exact ⟨x, h3, by omega⟩
end My

set_option Elab.async false
set_option linter.all false
set_option maxRecDepth 100000
set_option maxHeartbeats 4000000
namespace My
open PySem PySem.Spec PyProof.Rows L2 DL
open Evl (Ex)
structure Cs where
  Play : Addr
  DeedsError : Addr
  BookError : Addr
  Book : Addr
/-! ### objects -/
def lysD (L : List Ly) : D := .tup (L.map Ly.d)
def bkF (kern : Str) (L : List Ly) (d : Addr) : List (Str × D) := [("kernel", .str kern), ("layers", lysD L), ("size", ni L.length), ("numbers", .ref d)]
def BookAt (cs : Cs) (M : Mem) (b : Addr) (L : List Ly) : Prop := L.length ≤ 5 ∧ ∃ kern d, M b = some (.ins cs.Book (bkF kern L d))
abbrev S3 (s : List Int) : D := .tup (stD s)
abbrev SL (s : List Int) : D := .lst (stD s)
def rowsD (rs : List (List Int)) : D := .lst (rs.map S3)
inductive En where
  | ret (x : Str) | fail (i j : Nat)
def En.d : En → D
  | .ret x => .tup [.str (Str.ofString "ret"), .str x]
  | .fail i j => .tup [.str (Str.ofString "fail"), ni (i + 1), ni j]
def En.out (L : List Ly) (s : List Int) : En → D
  | .ret x => .tup [.str (Str.ofString "done"), .str x, S3 (keepF L s L.length)]
  | .fail i j => .tup [.str (Str.ofString "fail"), ni (i + 1), ni j, S3 (keepF L s i)]
def En.Ok (L : List Ly) : En → Prop
  | .ret x => x.length ≤ 100 ∧ PyData.strOk x = true
  | .fail i _ => i < L.length
def plF (b : Addr) (s sc : List Int) (tk dn : Nat) (q : Addr) : List (Str × D) := [("book", .ref b), ("state", S3 s), ("script", S3 sc), ("taken", ni tk), ("deeds", ni dn), ("trail", .ref q)]
structure PlayAt (cs : Cs) (M : Mem) (p b q : Addr) (L : List Ly) (s sc : List Int) (tk dn : Nat) (tr : List D) : Prop where
  bk : BookAt cs M b L
  pl : M p = some (.ins cs.Play (plF b s sc tk dn q))
  tr : M q = some (.lst tr)
  bp : b ≠ p
  bq : b ≠ q
  qp : q ≠ p
def nmOk (x : Str) : Prop := x.length ≤ 6 ∧ Txt.isascii x = true ∧ Txt.isalpha x = true ∧ Txt.islower x = true
def Assoc (t : List (List Nat)) : Prop := ∀ a b c, a < t.length → b < t.length → c < t.length → tabAt t (tabAt t a b) c = tabAt t a (tabAt t b c)
def Unit0 (t : List (List Nat)) : Prop := ∀ m, m < t.length → tabAt t 0 m = m ∧ tabAt t m 0 = m
def Ly.Good (l : Ly) : Prop := l.Ok ∧ nmOk l.nm ∧ match l with
  | .note _ t => Assoc t ∧ Unit0 t
  | _ => True
def prodF : List Ly → Nat
  | [] => 1
  | l :: L => l.vals * prodF L
abbrev kerns : List Str := ["none", "choose", "draw", "spread", "twochoose", "twodraw", "mixed"]
/-! ### the promises: the program's -/
def LayAt (L : List Ly) (k : Int) (i : Nat) (l : Ly) : Prop := k = (i : Int) + 1 ∧ L[i]? = some l
def S_Book_word_at (cs : Cs) : DSp := fun ds M Φ _ => ∃ (b : Addr) (L : List Ly) (k : Int) (i : Nat) (l : Ly), ds = [.ref b, .int k] ∧ BookAt cs M b L ∧ LayAt L k i l ∧ Φ (.str l.w) M
def S_has_values (cs : Cs) : DSp := fun ds M Φ _ => ∃ (b : Addr) (L : List Ly) (k : Int) (i : Nat) (l : Ly), ds = [.ref b, .int k] ∧ BookAt cs M b L ∧ LayAt L k i l ∧ Φ (.bl l.hv) M
def S_Book_count_at (cs : Cs) : DSp := fun ds M Φ _ => ∃ (b : Addr) (L : List Ly) (k : Int) (i : Nat) (l : Ly), ds = [.ref b, .int k] ∧ BookAt cs M b L ∧ LayAt L k i l ∧ Φ (ni l.cnt) M
def S_values_at (cs : Cs) : DSp := fun ds M Φ _ => ∃ (b : Addr) (L : List Ly) (k : Int) (i : Nat) (l : Ly), ds = [.ref b, .int k] ∧ BookAt cs M b L ∧ LayAt L k i l ∧ Φ (ni l.vals) M
def S_starts_below (cs : Cs) : DSp := fun ds M Φ _ => ∃ (b : Addr) (L : List Ly) (m : Nat) (s : List Int), ds = [.ref b, .int ((m : Int) + 1), S3 s] ∧ BookAt cs M b L ∧ LOk L ∧ m ≤ L.length ∧ s.length ≤ 100 ∧ Φ (rowsD (startsF L m s)) M
def S_starts (cs : Cs) : DSp := fun ds M Φ _ => ∃ (b : Addr) (L : List Ly), ds = [.ref b] ∧ BookAt cs M b L ∧ LOk L ∧ Φ (rowsD (rowsF L L.length)) M
def S_place_below (cs : Cs) : DSp := fun ds M Φ _ => ∃ (b : Addr) (L : List Ly) (m j : Nat) (r u : List Int), ds = [.ref b, .int ((m : Int) + 1), S3 (r ++ u)] ∧ BookAt cs M b L ∧ LOk L ∧ m ≤ L.length ∧ (rowsF L m)[j]? = some r ∧ Φ (ni j) M
def S_kept (cs : Cs) : DSp := fun ds M Φ _ => ∃ (b : Addr) (L : List Ly) (m : Nat) (s : List Int), ds = [.ref b, S3 s, .int ((m : Int) + 1)] ∧ BookAt cs M b L ∧ m ≤ L.length ∧ s.length = L.length ∧ Φ (S3 (keepF L s m)) M
def S_changed (cs : Cs) : DSp := fun ds M Φ _ => ∃ (s : List Int) (i : Nat) (x : Int), ds = [S3 s, .int ((i : Int) + 1), .int x] ∧ i < s.length ∧ s.length ≤ 100 ∧ Φ (S3 (s.set i x)) M
def S_Book_product (cs : Cs) : DSp := fun ds M Φ _ => ∃ (b : Addr) (L : List Ly) (k : Int) (i : Nat) (nm : Str) (t : List (List Nat)) (x y : Nat), ds = [.ref b, .int k, ni x, ni y] ∧ BookAt cs M b L ∧ LayAt L k i (.note nm t) ∧ TabOk t ∧ x < t.length ∧ y < t.length ∧ Φ (ni (tabAt t x y)) M
def S_noted (cs : Cs) : DSp := fun ds M Φ _ => ∃ (b : Addr) (L : List Ly) (s : List Int) (i : Nat) (nm : Str) (t : List (List Nat)) (x m : Nat), ds = [.ref b, S3 s, .int ((i : Int) + 1), ni m] ∧ BookAt cs M b L ∧ L[i]? = some (.note nm t) ∧ TabOk t ∧ s[i]? = some (x : Int) ∧ x < t.length ∧ m < t.length ∧ s.length ≤ 100 ∧ Φ (S3 (s.set i (tabAt t x m : Nat))) M
def S_end_at (cs : Cs) : DSp := fun ds M Φ _ => ∃ (b : Addr) (L : List Ly) (s : List Int) (e : En), ds = [.ref b, S3 s, e.d] ∧ BookAt cs M b L ∧ s.length = L.length ∧ e.Ok L ∧ Φ (e.out L s) M
def S_entries_beneath (cs : Cs) : DSp := fun ds M Φ _ => ∃ (b : Addr) (L : List Ly) (m : Nat) (r : Int), ds = [.ref b, .int ((m : Int) + 1), .int r] ∧ BookAt cs M b L ∧ LOk L ∧ m ≤ L.length ∧ 0 ≤ r ∧ Φ (S3 (entF L r m)) M
def S_Book_ways_at (cs : Cs) : DSp := fun ds M Φ _ => ∃ (b : Addr) (L : List Ly) (k : Int) (i d : Nat) (nm : Str) (ar : List Nat), ds = [.ref b, .int k, ni d] ∧ BookAt cs M b L ∧ LOk L ∧ LayAt L k i (.outside nm ar) ∧ d < ar.length ∧ Φ (ni (arAt L i d)) M
def askT (L : List Ly) (s : List Int) (n : Int) (i d : Nat) : D := .tup [ni (i + 1), ni d, S3 (keepF L s i), .int (n % (arAt L i d : Nat)), S3 (entF L (n / (arAt L i d : Nat)) i)]
def S_asked (cs : Cs) : DSp := fun ds M Φ _ => ∃ (b : Addr) (L : List Ly) (s : List Int) (n : Int) (i d : Nat), ds = [.ref b, S3 s, (Dd.ask i d).d, .int n] ∧ BookAt cs M b L ∧ LOk L ∧ (Dd.ask i d).Ok L ∧ s.length = L.length ∧ 0 ≤ n ∧ Φ (askT L s n i d) M
def Dd.isAsk : Dd → Bool
  | .ask _ _ => true | _ => false
def S_way_on (cs : Cs) : DSp := fun ds M Φ _ => ∃ (L : List Ly) (s : List Int) (dd : Dd) (n : Int), ds = [S3 s, dd.d, .int n] ∧ dd.Ok L ∧ dd.isAsk = false ∧ s.length = L.length ∧ Φ (.int (wayF L s n dd)) M
def S_state_after (cs : Cs) : DSp := fun ds M Φ _ => ∃ (b : Addr) (L : List Ly) (s : List Int) (dd : Dd) (n : Int), ds = [.ref b, S3 s, dd.d] ∧ BookAt cs M b L ∧ LOk L ∧ StOk L s ∧ dd.Ok L ∧ dd.isAsk = false ∧ Φ (S3 (aftF L s n dd)) M
def S_takes_number (cs : Cs) : DSp := fun ds M Φ _ => ∃ dd : Dd, ds = [dd.d] ∧ Φ (.bl dd.tk) M
def S_step_of (cs : Cs) : DSp := fun ds M Φ _ => ∃ (b : Addr) (L : List Ly) (s : List Int) (dd : Dd) (n : Int), ds = [.ref b, S3 s, dd.d, .int n] ∧ BookAt cs M b L ∧ LOk L ∧ StOk L s ∧ dd.Ok L ∧ 0 ≤ n ∧ Φ (.tup [.int (wayF L s n dd), S3 (aftF L s n dd), .tup (tldF L s n dd)]) M
def S_Play_init (cs : Cs) : DSp := fun ds M Φ _ => ∃ (p b : Addr) (L : List Ly) (s sc : List Int), ds = [.ref p, .ref b, S3 s, SL sc] ∧ M p = some (.ins cs.Play []) ∧ BookAt cs M b L ∧ ∀ M' q, PlayAt cs M' p b q L s sc 0 0 [] → Φ .non M'
def S_Play_number (cs : Cs) : DSp := fun ds M Φ _ => ∃ (p b q : Addr) (L : List Ly) (s sc : List Int) (tk dn : Nat) (tr : List D), ds = [.ref p] ∧ PlayAt cs M p b q L s sc tk dn tr ∧
  ∀ M', PlayAt cs M' p b q L s sc (tk + 1) dn tr → (∀ a, a ≠ p → M' a = M a) → Φ (.int (sc.getD tk 0)) M'
def numF (sc : List Int) (tk : Nat) (dd : Dd) : Int := if dd.tk then sc.getD tk 0 else 0
def S_Play_answer (cs : Cs) : DSp := fun ds M Φ _ => ∃ (p b q : Addr) (L : List Ly) (s sc : List Int) (tk dn : Nat) (tr : List D) (dd : Dd), ds = [.ref p, dd.d] ∧ PlayAt cs M p b q L s sc tk dn tr ∧ LOk L ∧ StOk L s ∧ dd.Ok L ∧ (∀ x ∈ sc, 0 ≤ x) ∧ tr.length ≤ 100 ∧
  ∀ M', PlayAt cs M' p b q L (aftF L s (numF sc tk dd) dd) sc (if dd.tk then tk + 1 else tk) (dn + 1) (tr ++ tldF L s (numF sc tk dd) dd) → (∀ a, a ≠ p → a ≠ q → M' a = M a) → Φ (.int (wayF L s (numF sc tk dd) dd)) M'
def S_Play_restore (cs : Cs) : DSp := fun ds M Φ _ => ∃ (p b q : Addr) (L : List Ly) (s sc : List Int) (tk dn : Nat) (tr : List D) (m : Nat) (old : List Int), ds = [.ref p, ni m, S3 old] ∧ PlayAt cs M p b q L s sc tk dn tr ∧ m ≤ L.length ∧ L.length ≤ 5 ∧ s.length = L.length ∧ old.length = L.length ∧
  ∀ M', PlayAt cs M' p b q L (backF L s old m L.length) sc tk dn tr → (∀ a, a ≠ p → M' a = M a) → Φ .non M'
def S_Play_outcome (cs : Cs) : DSp := fun ds M Φ _ => ∃ (p b q : Addr) (L : List Ly) (s sc : List Int) (tk dn : Nat) (tr : List D) (e : En), ds = [.ref p, e.d] ∧ PlayAt cs M p b q L s sc tk dn tr ∧ s.length = L.length ∧ e.Ok L ∧ Φ (.tup [.tup tr, e.out L s]) M
def S_is_name (cs : Cs) : DSp := fun ds M Φ _ => ∃ x : Str, ds = [.str x] ∧ nmOk x ∧ Φ (.bl true) M
def S_is_associative (cs : Cs) : DSp := fun ds M Φ _ => ∃ t : List (List Nat), ds = [tabD t] ∧ TabOk t ∧ Assoc t ∧ Φ (.bl true) M
def S_is_square (cs : Cs) : DSp := fun ds M Φ _ => ∃ t : List (List Nat), ds = [tabD t] ∧ TabOk t ∧ Φ (.bl true) M
def S_is_monoid (cs : Cs) : DSp := fun ds M Φ _ => ∃ t : List (List Nat), ds = [tabD t] ∧ TabOk t ∧ Assoc t ∧ Unit0 t ∧ Φ (.bl true) M
def S_is_layer (cs : Cs) : DSp := fun ds M Φ _ => ∃ l : Ly, ds = [l.d] ∧ l.Good ∧ Φ (.bl true) M
def S_states_of (cs : Cs) : DSp := fun ds M Φ _ => ∃ L : List Ly, ds = [lysD L] ∧ LOk L ∧ Φ (ni (prodF L)) M
def S_Book_init (cs : Cs) : DSp := fun ds M Φ _ => ∃ (b : Addr) (kern : Str) (L : List Ly), ds = [.ref b, .str kern, lysD L] ∧ M b = some (.ins cs.Book []) ∧ kern ∈ kerns ∧ LOk L ∧ (∀ l ∈ L, l.Good) ∧ (L.map Ly.nm).Nodup ∧ prodF L ≤ 12 ∧ ∀ M', BookAt cs M' b L → Φ .non M'
/-! ### the law's -/
def L1 : List Ly := [.cell "c" 2, .note "n" [[0, 1, 2], [1, 1, 1], [2, 2, 2]], .outside "o" [2, 3], .setting "s" 3, .fail "f" 2]
def L2' : List Ly := [.setting "s" 2, .cell "c" 3, .fail "f" 3, .outside "o" [3], .note "m" [[0, 1], [1, 0]]]
def L3 : List Ly := [.note "m" [[0, 1], [1, 0]], .outside "a" [1, 2], .cell "c" 3, .note "n" [[0, 1, 2], [1, 1, 1], [2, 2, 2]], .outside "b" [2]]
def L4 : List Ly := [.fail "f" 1, .cell "c" 2, .cell "d" 3, .outside "o" [3, 2], .note "n" [[0, 1, 2], [1, 1, 1], [2, 2, 2]]]
def bk4 : Nat → Str × List Ly
  | 0 => ("mixed", L1) | 1 => ("twochoose", L2') | 2 => ("spread", L3) | _ => ("twodraw", L4)
def kerD : Nat → List Dd
  | 0 => [.choose 0, .draw 0 1 2, .draw 0 2 5, .draw 0 5 6]
  | 1 => [.choose 0, .choose 1]
  | 2 => [.choose 0, .draw 0 1 2, .draw 0 2 5, .draw 0 5 6]
  | _ => [.draw 0 1 2, .draw 0 2 5, .draw 0 5 6, .draw 1 1 3]
def lyDs (i : Nat) : Ly → List Dd
  | .cell _ n => .get i :: (List.range n).map fun x => .put i x
  | .setting _ _ => [.look i]
  | .note _ t => (List.range t.length).map fun m => .note i m
  | .fail _ _ => []
  | .outside _ ar => (List.range ar.length).map fun d => .ask i d
def lysDs (L : List Ly) : Nat → List Dd
  | 0 => []
  | n + 1 => lysDs L n ++ match L[n]? with
    | some l => lyDs n l
    | none => []
def ddsD (l : List Dd) : List D := l.map Dd.d
def S_law_book (cs : Cs) : DSp := fun ds M Φ _ => ∃ k : Int, ds = [.int k] ∧ 0 ≤ k ∧ Φ (.tup [.str (bk4 (k % 4).toNat).1, lysD (bk4 (k % 4).toNat).2]) M
def S_law_deeds (cs : Cs) : DSp := fun ds M Φ _ => ∃ j : Nat, ds = [.str (bk4 j).1, lysD (bk4 j).2] ∧ Φ (.lst (ddsD (kerD j ++ lysDs (bk4 j).2 5))) M
def S_law_starts (cs : Cs) : DSp := fun ds M Φ _ => ∃ (L : List Ly) (m : Nat) (s : List Int), ds = [lysD L, .int ((m : Int) + 1), S3 s] ∧ LOk L ∧ m ≤ L.length ∧ s.length = L.length ∧ Φ (rowsD (startsF L m s)) M
def SeqD (x : D) (s : List Int) : Prop := x = S3 s ∨ x = SL s
def S_law_kept (cs : Cs) : DSp := fun ds M Φ _ => ∃ (L : List Ly) (m : Nat) (s : List Int) (x : D), ds = [lysD L, x, .int ((m : Int) + 1)] ∧ SeqD x s ∧ L.length ≤ 5 ∧ m ≤ L.length ∧ s.length = L.length ∧ Φ (S3 (keepF L s m)) M
def S_law_asked (cs : Cs) : DSp := fun ds M Φ _ => ∃ (L : List Ly) (s : List Int) (i d : Nat) (n : Int) (q : Addr) (tr : List D), ds = [lysD L, SL s, (Dd.ask i d).d, .int n, .ref q] ∧ LOk L ∧ (Dd.ask i d).Ok L ∧ s.length = L.length ∧ 0 ≤ n ∧ M q = some (.lst tr) ∧ tr.length ≤ 100 ∧
  Φ (.tup [.int (n % (arAt L i d : Nat)), SL (aftF L s n (.ask i d))]) (updM M q (.lst (tr ++ [askT L s n i d])))
def S_law_step (cs : Cs) : DSp := fun ds M Φ _ => ∃ (L : List Ly) (s : List Int) (dd : Dd) (n : Int) (q : Addr) (tr : List D), ds = [lysD L, SL s, dd.d, .int n, .ref q] ∧ LOk L ∧ StOk L s ∧ dd.Ok L ∧ 0 ≤ n ∧ M q = some (.lst tr) ∧ tr.length ≤ 100 ∧
  ∀ M', M' q = some (.lst (tr ++ tldF L s n dd)) → (∀ a, a ≠ q → M' a = M a) → Φ (.tup [.int (wayF L s n dd), SL (aftF L s n dd)]) M'
def S_law_back (cs : Cs) : DSp := fun ds M Φ _ => ∃ (L : List Ly) (s old : List Int) (m : Nat), ds = [lysD L, SL s, ni m, SL old] ∧ L.length ≤ 5 ∧ m ≤ L.length ∧ s.length = L.length ∧ old.length = L.length ∧ Φ (SL (backF L s old m L.length)) M
def Row (n : Nat) (r : List Int) : Prop := r.length = n ∧ ∀ x ∈ r, 0 ≤ x ∧ x < 1000
def S_law_states (cs : Cs) : DSp := fun ds M Φ _ => ∃ (b : Addr) (L : List Ly) (r : List Int), ds = [.ref b, lysD L, SL r] ∧ BookAt cs M b L ∧ LOk L ∧ L.length = 5 ∧ Row 8 r ∧ Φ (.bl true) M
def S_law_end (cs : Cs) : DSp := fun ds M Φ _ => ∃ (L : List Ly) (s r : List Int), ds = [lysD L, SL s, SL r] ∧ LOk L ∧ s.length = L.length ∧ Row 3 r ∧ ∀ e : En, e.Ok L → Φ (.tup [e.d, e.out L s]) M
abbrev S_law (cs : Cs) : DSp := lawSp
abbrev ends (Φ : D → Mem → Prop) : DE := { nx := fun _ M' => Φ .non M', rt := Φ }
theorem ar_Book_word_at (cs : Cs) : Arity (S_Book_word_at cs) 2 := by rintro ds M Φ Ψ ⟨_, _, _, _, _, rfl, _⟩; rfl
theorem ar_has_values (cs : Cs) : Arity (S_has_values cs) 2 := by rintro ds M Φ Ψ ⟨_, _, _, _, _, rfl, _⟩; rfl
theorem ar_Book_count_at (cs : Cs) : Arity (S_Book_count_at cs) 2 := by rintro ds M Φ Ψ ⟨_, _, _, _, _, rfl, _⟩; rfl
theorem ar_values_at (cs : Cs) : Arity (S_values_at cs) 2 := by rintro ds M Φ Ψ ⟨_, _, _, _, _, rfl, _⟩; rfl
theorem ar_starts_below (cs : Cs) : Arity (S_starts_below cs) 3 := by rintro ds M Φ Ψ ⟨_, _, _, _, rfl, _⟩; rfl
theorem ar_starts (cs : Cs) : Arity (S_starts cs) 1 := by rintro ds M Φ Ψ ⟨_, _, rfl, _⟩; rfl
theorem ar_place_below (cs : Cs) : Arity (S_place_below cs) 3 := by rintro ds M Φ Ψ ⟨_, _, _, _, _, _, rfl, _⟩; rfl
theorem ar_kept (cs : Cs) : Arity (S_kept cs) 3 := by rintro ds M Φ Ψ ⟨_, _, _, _, rfl, _⟩; rfl
theorem ar_changed (cs : Cs) : Arity (S_changed cs) 3 := by rintro ds M Φ Ψ ⟨_, _, _, rfl, _⟩; rfl
theorem ar_Book_product (cs : Cs) : Arity (S_Book_product cs) 4 := by rintro ds M Φ Ψ ⟨_, _, _, _, _, _, _, _, rfl, _⟩; rfl
theorem ar_noted (cs : Cs) : Arity (S_noted cs) 4 := by rintro ds M Φ Ψ ⟨_, _, _, _, _, _, _, _, rfl, _⟩; rfl
theorem ar_end_at (cs : Cs) : Arity (S_end_at cs) 3 := by rintro ds M Φ Ψ ⟨_, _, _, _, rfl, _⟩; rfl
theorem ar_entries_beneath (cs : Cs) : Arity (S_entries_beneath cs) 3 := by rintro ds M Φ Ψ ⟨_, _, _, _, rfl, _⟩; rfl
theorem ar_Book_ways_at (cs : Cs) : Arity (S_Book_ways_at cs) 3 := by rintro ds M Φ Ψ ⟨_, _, _, _, _, _, _, rfl, _⟩; rfl
theorem ar_asked (cs : Cs) : Arity (S_asked cs) 4 := by rintro ds M Φ Ψ ⟨_, _, _, _, _, _, rfl, _⟩; rfl
theorem ar_way_on (cs : Cs) : Arity (S_way_on cs) 3 := by rintro ds M Φ Ψ ⟨_, _, _, _, rfl, _⟩; rfl
theorem ar_state_after (cs : Cs) : Arity (S_state_after cs) 3 := by rintro ds M Φ Ψ ⟨_, _, _, _, _, rfl, _⟩; rfl
theorem ar_takes_number (cs : Cs) : Arity (S_takes_number cs) 1 := by rintro ds M Φ Ψ ⟨_, rfl, _⟩; rfl
theorem ar_step_of (cs : Cs) : Arity (S_step_of cs) 4 := by rintro ds M Φ Ψ ⟨_, _, _, _, _, rfl, _⟩; rfl
theorem ar_Play_init (cs : Cs) : Arity (S_Play_init cs) 4 := by rintro ds M Φ Ψ ⟨_, _, _, _, _, rfl, _⟩; rfl
theorem ar_Play_number (cs : Cs) : Arity (S_Play_number cs) 1 := by rintro ds M Φ Ψ ⟨_, _, _, _, _, _, _, _, _, rfl, _⟩; rfl
theorem ar_Play_answer (cs : Cs) : Arity (S_Play_answer cs) 2 := by rintro ds M Φ Ψ ⟨_, _, _, _, _, _, _, _, _, _, rfl, _⟩; rfl
theorem ar_Play_restore (cs : Cs) : Arity (S_Play_restore cs) 3 := by rintro ds M Φ Ψ ⟨_, _, _, _, _, _, _, _, _, _, _, rfl, _⟩; rfl
theorem ar_Play_outcome (cs : Cs) : Arity (S_Play_outcome cs) 2 := by rintro ds M Φ Ψ ⟨_, _, _, _, _, _, _, _, _, _, rfl, _⟩; rfl
theorem ar_is_name (cs : Cs) : Arity (S_is_name cs) 1 := by rintro ds M Φ Ψ ⟨_, rfl, _⟩; rfl
theorem ar_is_associative (cs : Cs) : Arity (S_is_associative cs) 1 := by rintro ds M Φ Ψ ⟨_, rfl, _⟩; rfl
theorem ar_is_square (cs : Cs) : Arity (S_is_square cs) 1 := by rintro ds M Φ Ψ ⟨_, rfl, _⟩; rfl
theorem ar_is_monoid (cs : Cs) : Arity (S_is_monoid cs) 1 := by rintro ds M Φ Ψ ⟨_, rfl, _⟩; rfl
theorem ar_is_layer (cs : Cs) : Arity (S_is_layer cs) 1 := by rintro ds M Φ Ψ ⟨_, rfl, _⟩; rfl
theorem ar_states_of (cs : Cs) : Arity (S_states_of cs) 1 := by rintro ds M Φ Ψ ⟨_, rfl, _⟩; rfl
theorem ar_Book_init (cs : Cs) : Arity (S_Book_init cs) 3 := by rintro ds M Φ Ψ ⟨_, _, _, rfl, _⟩; rfl
theorem ar_law_book (cs : Cs) : Arity (S_law_book cs) 1 := by rintro ds M Φ Ψ ⟨_, rfl, _⟩; rfl
theorem ar_law_deeds (cs : Cs) : Arity (S_law_deeds cs) 2 := by rintro ds M Φ Ψ ⟨_, rfl, _⟩; rfl
theorem ar_law_starts (cs : Cs) : Arity (S_law_starts cs) 3 := by rintro ds M Φ Ψ ⟨_, _, _, rfl, _⟩; rfl
theorem ar_law_kept (cs : Cs) : Arity (S_law_kept cs) 3 := by rintro ds M Φ Ψ ⟨_, _, _, _, rfl, _⟩; rfl
theorem ar_law_asked (cs : Cs) : Arity (S_law_asked cs) 5 := by rintro ds M Φ Ψ ⟨_, _, _, _, _, _, _, rfl, _⟩; rfl
theorem ar_law_step (cs : Cs) : Arity (S_law_step cs) 5 := by rintro ds M Φ Ψ ⟨_, _, _, _, _, _, rfl, _⟩; rfl
theorem ar_law_back (cs : Cs) : Arity (S_law_back cs) 4 := by rintro ds M Φ Ψ ⟨_, _, _, _, rfl, _⟩; rfl
theorem ar_law_states (cs : Cs) : Arity (S_law_states cs) 3 := by rintro ds M Φ Ψ ⟨_, _, _, rfl, _⟩; rfl
theorem ar_law_end (cs : Cs) : Arity (S_law_end cs) 3 := by rintro ds M Φ Ψ ⟨_, _, _, rfl, _⟩; rfl
theorem ar_law (cs : Cs) : Arity (S_law cs) 1 := by rintro ds M Φ Ψ ⟨_, rfl, _⟩; rfl
/-! Book.word_at: slots 0 self 1 layer -/
def r_Book_word_at (cs : Cs) : RS := (dRet (dOp dIx (dIxR (dFld cs.Book "layers" (dVar 0)) (dOp (dI fun i j => .int (i - j)) (dVar 1) (dC (.int 1)))) (dC (.int 0))))

/-! has_values: slots 0 book 1 layer -/
def r_has_values (cs : Cs) : RS := (dRet (dOp (dInA false) (dMeth cs.Book "word_at" (S_Book_word_at cs) (dVar 0) (dCons (dVar 1) dNil)) (dTup (dCons (dC (.str (Str.ofString "cell"))) (dCons (dC (.str (Str.ofString "setting"))) dNil)))))

/-! Book.count_at: slots 0 self 1 layer 2 word 3 _ 4 extent -/
def r_Book_count_at_2 (cs : Cs) : RS := (dRet (dVar 4))
def r_Book_count_at_1 (cs : Cs) : RS := dSeq (dIfS (dTest (dOp (dInA false) (dVar 2) (dTup (dCons (dC (.str (Str.ofString "note"))) (dCons (dC (.str (Str.ofString "outside"))) dNil))))) (dRet (dCB dLen (dCons (dVar 4) dNil))) dNext) (r_Book_count_at_2 cs)
def r_Book_count_at (cs : Cs) : RS := dSeq (dUnp [2, 3, 4] (dIxR (dFld cs.Book "layers" (dVar 0)) (dOp (dI fun i j => .int (i - j)) (dVar 1) (dC (.int 1))))) (r_Book_count_at_1 cs)

/-! values_at: slots 0 book 1 layer -/
def r_values_at (cs : Cs) : RS := (dRet (dIf (dTruth (dCall (S_has_values cs) (dCons (dVar 0) (dCons (dVar 1) dNil)))) (dMeth cs.Book "count_at" (S_Book_count_at cs) (dVar 0) (dCons (dVar 1) dNil)) (dC (.int 1))))

/-! starts_below: slots 0 book 1 layer 2 state 3 found 4 number 5 many 6 row 7 entry -/
def b_starts_below_2 (cs : Cs) : RS := (dSeq (dSet 5 (dCall (S_values_at cs) (dCons (dVar 0) (dCons (dVar 4) dNil))))
    (dSet 3 (dFz (dLc2 [6, 7] [7] (dItems (dVar 3)) (tgN 6) dYes (dRng (dVar 5)) (tgN 7) dYes (dTupB (dStar (dVar 6) (dCons (dVar 7) dNil)))))))
def r_starts_below_2 (cs : Cs) : RS := (dRet (dFz (dLc [6] (dItems (dVar 3)) (tgN 6) dYes (dOp dAddT (dVar 6) (dSlA (dVar 2) (dPart (dOp (dI fun i j => .int (i - j)) (dVar 1) (dC (.int 1)))) dNoP)))))
def r_starts_below_1 (cs : Cs) : RS := dSeq (dForR2 4 [4, 5] (dC (.int 1)) (dVar 1) (b_starts_below_2 cs)) (r_starts_below_2 cs)
def r_starts_below (cs : Cs) : RS := dSeq (dSet 3 (dFz (dCons (dTup dNil) dNil))) (r_starts_below_1 cs)

/-! starts: slots 0 book -/
def r_starts (cs : Cs) : RS := (dRet (dCall (S_starts_below cs) (dCons (dVar 0) (dCons (dOp dAddT (dFld cs.Book "size" (dVar 0)) (dC (.int 1))) (dCons (dTup dNil) dNil)))))

/-! place_below: slots 0 book 1 layer 2 state 3 place 4 number -/
def b_place_below_2 (cs : Cs) : RS := (dIfS (dTruth (dCall (S_has_values cs) (dCons (dVar 0) (dCons (dVar 4) dNil)))) (dSet 3 (dOp dAddT (dOp (dIC CMulA fun i j => .int (i * j)) (dVar 3) (dMeth cs.Book "count_at" (S_Book_count_at cs) (dVar 0) (dCons (dVar 4) dNil))) (dOp dIx (dVar 2) (dOp (dI fun i j => .int (i - j)) (dVar 4) (dC (.int 1)))))) dNext)
def r_place_below_2 (cs : Cs) : RS := (dRet (dVar 3))
def r_place_below_1 (cs : Cs) : RS := dSeq (dForR2 4 [4] (dC (.int 1)) (dVar 1) (b_place_below_2 cs)) (r_place_below_2 cs)
def r_place_below (cs : Cs) : RS := dSeq (dSet 3 (dC (.int 0))) (r_place_below_1 cs)

/-! kept: slots 0 book 1 state 2 layer 3 entries 4 number -/
def b_kept_2 (cs : Cs) : RS := (dIfS (dTest (dOp dEqA (dMeth cs.Book "word_at" (S_Book_word_at cs) (dVar 0) (dCons (dVar 4) dNil)) (dC (.str (Str.ofString "setting"))))) (dStoO 3 (dC (.int 0)) (dOp (dI fun i j => .int (i - j)) (dVar 4) (dC (.int 1)))) dNext)
def r_kept_2 (cs : Cs) : RS := (dRet (dTpl (dVar 3)))
def r_kept_1 (cs : Cs) : RS := dSeq (dForR2 4 [4] (dC (.int 1)) (dVar 2) (b_kept_2 cs)) (r_kept_2 cs)
def r_kept (cs : Cs) : RS := dSeq (dSetO 3 (dLst (dSlA (dVar 1) dNoP (dPart (dOp (dI fun i j => .int (i - j)) (dVar 2) (dC (.int 1))))))) (r_kept_1 cs)

/-! changed: slots 0 state 1 layer 2 entry -/
def r_changed (cs : Cs) : RS := (dRet (dTupB (dStar (dSlA (dVar 0) dNoP (dPart (dOp (dI fun i j => .int (i - j)) (dVar 1) (dC (.int 1))))) (dCons (dVar 2) (dStar (dSlA (dVar 0) (dPart (dVar 1)) dNoP) dNil)))))

/-! Book.product: slots 0 self 1 layer 2 first 3 second -/
def r_Book_product (cs : Cs) : RS := (dRet (dOp dIx (dOp dIx (dOp dIx (dIxR (dFld cs.Book "layers" (dVar 0)) (dOp (dI fun i j => .int (i - j)) (dVar 1) (dC (.int 1)))) (dC (.int 2))) (dVar 2)) (dVar 3)))

/-! noted: slots 0 book 1 state 2 layer 3 member 4 entry -/
def r_noted_1 (cs : Cs) : RS := (dRet (dCall (S_changed cs) (dCons (dVar 1) (dCons (dVar 2) (dCons (dVar 4) dNil)))))
def r_noted (cs : Cs) : RS := dSeq (dSet 4 (dMeth cs.Book "product" (S_Book_product cs) (dVar 0) (dCons (dVar 2) (dCons (dOp dIx (dVar 1) (dOp (dI fun i j => .int (i - j)) (dVar 2) (dC (.int 1)))) (dCons (dVar 3) dNil))))) (r_noted_1 cs)

/-! end_at: slots 0 book 1 state 2 deed -/
def r_end_at_1 (cs : Cs) : RS := (dRet (dTup (dCons (dC (.str (Str.ofString "fail"))) (dCons (dOp dIx (dVar 2) (dC (.int 1))) (dCons (dOp dIx (dVar 2) (dC (.int 2))) (dCons (dCall (S_kept cs) (dCons (dVar 0) (dCons (dVar 1) (dCons (dOp dIx (dVar 2) (dC (.int 1))) dNil)))) dNil))))))
def r_end_at (cs : Cs) : RS := dSeq (dIfS (dTest (dOp dEqA (dOp dIx (dVar 2) (dC (.int 0))) (dC (.str (Str.ofString "ret"))))) (dRet (dTup (dCons (dC (.str (Str.ofString "done"))) (dCons (dOp dIx (dVar 2) (dC (.int 1))) (dCons (dCall (S_kept cs) (dCons (dVar 0) (dCons (dVar 1) (dCons (dOp dAddT (dFld cs.Book "size" (dVar 0)) (dC (.int 1))) dNil)))) dNil))))) dNext) (r_end_at_1 cs)

/-! _entries_beneath: slots 0 book 1 layer 2 rest 3 entries 4 number 5 size -/
def b_entries_beneath_2 (cs : Cs) : RS := (dIfS (dTruth (dCall (S_has_values cs) (dCons (dVar 0) (dCons (dVar 4) dNil)))) (dSeq (dSet 5 (dMeth cs.Book "count_at" (S_Book_count_at cs) (dVar 0) (dCons (dVar 4) dNil)))
      (dSeq (dApp 3 (dOp (dIC (fun _ j => 0 < j) fun i j => .int (i % j)) (dVar 2) (dVar 5)))
      (dSet 2 (dOp (dIC CDivA fun i j => .int (i / j)) (dVar 2) (dVar 5))))) (dApp 3 (dC (.int 0))))
def r_entries_beneath_2 (cs : Cs) : RS := (dRet (dTpl (dVar 3)))
def r_entries_beneath_1 (cs : Cs) : RS := dSeq (dForR2 4 [4] (dC (.int 1)) (dVar 1) (b_entries_beneath_2 cs)) (r_entries_beneath_2 cs)
def r_entries_beneath (cs : Cs) : RS := dSeq (dSetO 3 dNil) (r_entries_beneath_1 cs)

/-! Book.ways_at: slots 0 self 1 layer 2 deed -/
def r_Book_ways_at (cs : Cs) : RS := (dRet (dOp dIx (dOp dIx (dIxR (dFld cs.Book "layers" (dVar 0)) (dOp (dI fun i j => .int (i - j)) (dVar 1) (dC (.int 1)))) (dC (.int 2))) (dVar 2)))

/-! _asked: slots 0 book 1 state 2 deed 3 number 4 _ 5 layer 6 outside 7 answers 8 entries -/
def r_asked_3 (cs : Cs) : RS := (dRet (dTup (dCons (dVar 5) (dCons (dVar 6) (dCons (dCall (S_kept cs) (dCons (dVar 0) (dCons (dVar 1) (dCons (dVar 5) dNil)))) (dCons (dOp (dIC (fun _ j => 0 < j) fun i j => .int (i % j)) (dVar 3) (dVar 7)) (dCons (dVar 8) dNil)))))))
def r_asked_2 (cs : Cs) : RS := dSeq (dSet 8 (dCall (S_entries_beneath cs) (dCons (dVar 0) (dCons (dVar 5) (dCons (dOp (dIC CDivA fun i j => .int (i / j)) (dVar 3) (dVar 7)) dNil))))) (r_asked_3 cs)
def r_asked_1 (cs : Cs) : RS := dSeq (dSet 7 (dMeth cs.Book "ways_at" (S_Book_ways_at cs) (dVar 0) (dCons (dVar 5) (dCons (dVar 6) dNil)))) (r_asked_2 cs)
def r_asked (cs : Cs) : RS := dSeq (dUnp [4, 5, 6] (dVar 2)) (r_asked_1 cs)

/-! _way_on: slots 0 state 1 deed 2 number 3 word -/
def r_way_on_4 (cs : Cs) : RS := (dRet (dC (.int 0)))
def r_way_on_3 (cs : Cs) : RS := dSeq (dIfS (dTest (dOp (dInA false) (dVar 3) (dTup (dCons (dC (.str (Str.ofString "get"))) (dCons (dC (.str (Str.ofString "look"))) dNil))))) (dRet (dOp dIx (dVar 0) (dOp (dI fun i j => .int (i - j)) (dOp dIx (dVar 1) (dC (.int 1))) (dC (.int 1))))) dNext) (r_way_on_4 cs)
def r_way_on_2 (cs : Cs) : RS := dSeq (dIfS (dTest (dOp dEqA (dVar 3) (dC (.str (Str.ofString "draw"))))) (dRet (dIf (dTest (dOp dLt (dOp (dIC (fun _ j => 0 < j) fun i j => .int (i % j)) (dVar 2) (dOp dIx (dVar 1) (dC (.int 3)))) (dOp dIx (dVar 1) (dC (.int 2))))) (dC (.int 0)) (dC (.int 1)))) dNext) (r_way_on_3 cs)
def r_way_on_1 (cs : Cs) : RS := dSeq (dIfS (dTest (dOp dEqA (dVar 3) (dC (.str (Str.ofString "choose"))))) (dRet (dOp (dIC (fun _ j => 0 < j) fun i j => .int (i % j)) (dVar 2) (dC (.int 2)))) dNext) (r_way_on_2 cs)
def r_way_on (cs : Cs) : RS := dSeq (dSet 3 (dOp dIx (dVar 1) (dC (.int 0)))) (r_way_on_1 cs)

/-! _state_after: slots 0 book 1 state 2 deed -/
def r_state_after_2 (cs : Cs) : RS := (dRet (dVar 1))
def r_state_after_1 (cs : Cs) : RS := dSeq (dIfS (dTest (dOp dEqA (dOp dIx (dVar 2) (dC (.int 0))) (dC (.str (Str.ofString "note"))))) (dRet (dCall (S_noted cs) (dCons (dVar 0) (dCons (dVar 1) (dCons (dOp dIx (dVar 2) (dC (.int 1))) (dCons (dOp dIx (dVar 2) (dC (.int 2))) dNil)))))) dNext) (r_state_after_2 cs)
def r_state_after (cs : Cs) : RS := dSeq (dIfS (dTest (dOp dEqA (dOp dIx (dVar 2) (dC (.int 0))) (dC (.str (Str.ofString "put"))))) (dRet (dCall (S_changed cs) (dCons (dVar 1) (dCons (dOp dIx (dVar 2) (dC (.int 1))) (dCons (dOp dIx (dVar 2) (dC (.int 2))) dNil))))) dNext) (r_state_after_1 cs)

/-! takes_number: slots 0 deed -/
def r_takes_number (cs : Cs) : RS := (dRet (dOp (dInA false) (dOp dIx (dVar 0) (dC (.int 0))) (dTup (dCons (dC (.str (Str.ofString "choose"))) (dCons (dC (.str (Str.ofString "draw"))) (dCons (dC (.str (Str.ofString "ask"))) dNil))))))

/-! step_of: slots 0 book 1 state 2 deed 3 number 4 told -/
def r_step_of_1 (cs : Cs) : RS := (dRet (dTup (dCons (dCall (S_way_on cs) (dCons (dVar 1) (dCons (dVar 2) (dCons (dVar 3) dNil)))) (dCons (dCall (S_state_after cs) (dCons (dVar 0) (dCons (dVar 1) (dCons (dVar 2) dNil)))) (dCons (dTup dNil) dNil)))))
def r_step_of (cs : Cs) : RS := dSeq (dIfS (dTest (dOp dEqA (dOp dIx (dVar 2) (dC (.int 0))) (dC (.str (Str.ofString "ask"))))) (dSeq (dSet 4 (dCall (S_asked cs) (dCons (dVar 0) (dCons (dVar 1) (dCons (dVar 2) (dCons (dVar 3) dNil))))))
    (dRet (dTup (dCons (dOp dIx (dVar 4) (dC (.int 3))) (dCons (dOp dAddT (dOp dIx (dVar 4) (dC (.int 4))) (dSlA (dVar 1) (dPart (dOp (dI fun i j => .int (i - j)) (dOp dIx (dVar 2) (dC (.int 1))) (dC (.int 1)))) dNoP)) (dCons (dTup (dCons (dVar 4) dNil)) dNil)))))) dNext) (r_step_of_1 cs)

/-! Play.__init__: slots 0 self 1 book 2 start 3 script -/
def r_Play_init_5 (cs : Cs) : RS := (dSetF cs.Play "trail" (dVar 0) (dNewM dNil))
def r_Play_init_4 (cs : Cs) : RS := dSeq (dSetF cs.Play "deeds" (dVar 0) (dC (.int 0))) (r_Play_init_5 cs)
def r_Play_init_3 (cs : Cs) : RS := dSeq (dSetF cs.Play "taken" (dVar 0) (dC (.int 0))) (r_Play_init_4 cs)
def r_Play_init_2 (cs : Cs) : RS := dSeq (dSetF cs.Play "script" (dVar 0) (dTpl (dVar 3))) (r_Play_init_3 cs)
def r_Play_init_1 (cs : Cs) : RS := dSeq (dSetF cs.Play "state" (dVar 0) (dTpl (dVar 2))) (r_Play_init_2 cs)
def r_Play_init (cs : Cs) : RS := dSeq (dSetF cs.Play "book" (dVar 0) (dVar 1)) (r_Play_init_1 cs)

/-! Play._number: slots 0 self -/
def r_Play_number_2 (cs : Cs) : RS := (dRet (dC (.int 0)))
def r_Play_number_1 (cs : Cs) : RS := dSeq (dIfS (dTest (dOp dLe (dFld cs.Play "taken" (dVar 0)) (dLenR (dFld cs.Play "script" (dVar 0))))) (dRet (dIxR (dFld cs.Play "script" (dVar 0)) (dOp (dI fun i j => .int (i - j)) (dFld cs.Play "taken" (dVar 0)) (dC (.int 1))))) dNext) (r_Play_number_2 cs)
def r_Play_number (cs : Cs) : RS := dSeq (dAugF cs.Play "taken" dPlus (dVar 0) (dC (.int 1))) (r_Play_number_1 cs)

/-! Play.answer: slots 0 self 1 deed 2 number 3 way 4 told -/
def r_Play_answer_4 (cs : Cs) : RS := (dRet (dVar 3))
def r_Play_answer_3 (cs : Cs) : RS := dSeq (dAugF cs.Play "deeds" dPlus (dVar 0) (dC (.int 1))) (r_Play_answer_4 cs)
def r_Play_answer_2 (cs : Cs) : RS := dSeq (dExtM (dFld cs.Play "trail" (dVar 0)) (dVar 4)) (r_Play_answer_3 cs)
def r_Play_answer_1 (cs : Cs) : RS := dSeq (dUnpG [gmN 3, gmF cs.Play "state" (dVar 0), gmN 4] (dCall (S_step_of cs) (dCons (dFld cs.Play "book" (dVar 0)) (dCons (dFld cs.Play "state" (dVar 0)) (dCons (dVar 1) (dCons (dVar 2) dNil)))))) (r_Play_answer_2 cs)
def r_Play_answer (cs : Cs) : RS := dSeq (dSet 2 (dIf (dTruth (dCall (S_takes_number cs) (dCons (dVar 1) dNil))) (dMeth cs.Play "_number" (S_Play_number cs) (dVar 0) dNil) (dC (.int 0)))) (r_Play_answer_1 cs)

/-! Play.restore: slots 0 self 1 layer 2 state 3 number -/
def b_Play_restore_1 (cs : Cs) : RS := (dIfS (dTest (dOp (dInA false) (dMeth cs.Book "word_at" (S_Book_word_at cs) (dFld cs.Play "book" (dVar 0)) (dCons (dVar 3) dNil)) (dTup (dCons (dC (.str (Str.ofString "cell"))) (dCons (dC (.str (Str.ofString "note"))) dNil))))) (dSetF cs.Play "state" (dVar 0) (dCall (S_changed cs) (dCons (dFld cs.Play "state" (dVar 0)) (dCons (dVar 3) (dCons (dOp dIx (dVar 2) (dOp (dI fun i j => .int (i - j)) (dVar 3) (dC (.int 1)))) dNil))))) dNext)
def r_Play_restore (cs : Cs) : RS := (dForR2 3 [3] (dOp dAddT (dVar 1) (dC (.int 1))) (dOp dAddT (dFld cs.Book "size" (dFld cs.Play "book" (dVar 0))) (dC (.int 1))) (b_Play_restore_1 cs))

/-! Play.outcome: slots 0 self 1 deed -/
def r_Play_outcome (cs : Cs) : RS := (dRet (dTup (dCons (dTpl (dFld cs.Play "trail" (dVar 0))) (dCons (dCall (S_end_at cs) (dCons (dFld cs.Play "book" (dVar 0)) (dCons (dFld cs.Play "state" (dVar 0)) (dCons (dVar 1) dNil)))) dNil))))

/-! is_name: slots 0 token -/
def r_is_name (cs : Cs) : RS := (dRet (dAndV (dOp dLe (dCB dLen (dCons (dVar 0) dNil)) (dC (.int 6))) (dAndV (dM0 Txt.isascii (dVar 0)) (dAndV (dM0 Txt.isalpha (dVar 0)) (dM0 Txt.islower (dVar 0))))))

/-! _is_associative: slots 0 table 1 members 2 a 3 b 4 c -/
def b_is_associative_4 (cs : Cs) : RS := (dIfS (dTest (dOp dNeA (dOp dIx (dOp dIx (dVar 0) (dOp dIx (dOp dIx (dVar 0) (dVar 2)) (dVar 3))) (dVar 4)) (dOp dIx (dOp dIx (dVar 0) (dVar 2)) (dOp dIx (dOp dIx (dVar 0) (dVar 3)) (dVar 4))))) (dRet (dC (.bl false))) dNext)
def b_is_associative_3 (cs : Cs) : RS := (dForI (tgN 4) [4] (dRngI (dVar 1)) (b_is_associative_4 cs))
def b_is_associative_2 (cs : Cs) : RS := (dForI (tgN 3) [3, 4] (dRngI (dVar 1)) (b_is_associative_3 cs))
def r_is_associative_2 (cs : Cs) : RS := (dRet (dC (.bl true)))
def r_is_associative_1 (cs : Cs) : RS := dSeq (dForI (tgN 2) [2, 3] (dRngI (dVar 1)) (b_is_associative_2 cs)) (r_is_associative_2 cs)
def r_is_associative (cs : Cs) : RS := dSeq (dSet 1 (dRngV (dCB dLen (dCons (dVar 0) dNil)))) (r_is_associative_1 cs)

/-! _is_square: slots 0 table 1 many 2 row -/
def b_is_square_2 (cs : Cs) : RS := (dIfS (dOr (dTest (dOp dNeA (dCB dLen (dCons (dVar 2) dNil)) (dVar 1))) (dOr (dTest (dOp dLt (dCB (dFold min) (dCons (dVar 2) dNil)) (dC (.int 0)))) (dTest (dOp dGe (dCB (dFold max) (dCons (dVar 2) dNil)) (dVar 1))))) (dRet (dC (.bl false))) dNext)
def r_is_square_2 (cs : Cs) : RS := (dRet (dC (.bl true)))
def r_is_square_1 (cs : Cs) : RS := dSeq (dFor 2 [2] (dVar 0) (b_is_square_2 cs)) (r_is_square_2 cs)
def r_is_square (cs : Cs) : RS := dSeq (dSet 1 (dCB dLen (dCons (dVar 0) dNil))) (r_is_square_1 cs)

/-! _is_monoid: slots 0 table 1 member -/
def b_is_monoid_3 (cs : Cs) : RS := (dIfS (dOr (dTest (dOp dNeA (dOp dIx (dOp dIx (dVar 0) (dC (.int 0))) (dVar 1)) (dVar 1))) (dTest (dOp dNeA (dOp dIx (dOp dIx (dVar 0) (dVar 1)) (dC (.int 0))) (dVar 1)))) (dRet (dC (.bl false))) dNext)
def r_is_monoid_2 (cs : Cs) : RS := (dRet (dCall (S_is_associative cs) (dCons (dVar 0) dNil)))
def r_is_monoid_1 (cs : Cs) : RS := dSeq (dForR 1 [1] (dCB dLen (dCons (dVar 0) dNil)) (b_is_monoid_3 cs)) (r_is_monoid_2 cs)
def r_is_monoid (cs : Cs) : RS := dSeq (dIfS (dOr (dNot (dTest (dChain dLe dLe (dC (.int 2)) (dCB dLen (dCons (dVar 0) dNil)) (dC (.int 6))))) (dNot (dTruth (dCall (S_is_square cs) (dCons (dVar 0) dNil))))) (dRet (dC (.bl false))) dNext) (r_is_monoid_1 cs)

/-! _is_layer: slots 0 layer 1 word 2 name 3 extent -/
def r_is_layer_5 (cs : Cs) : RS := (dRet (dChain dLe dLe (dC (.int 2)) (dVar 3) (dC (.int 3))))
def r_is_layer_4 (cs : Cs) : RS := dSeq (dIfS (dTest (dOp dEqA (dVar 1) (dC (.str (Str.ofString "fail"))))) (dRet (dChain dLe dLe (dC (.int 1)) (dVar 3) (dC (.int 3)))) dNext) (r_is_layer_5 cs)
def r_is_layer_3 (cs : Cs) : RS := dSeq (dIfS (dTest (dOp dEqA (dVar 1) (dC (.str (Str.ofString "outside"))))) (dRet (dAndV (dChain dLe dLe (dC (.int 1)) (dCB dLen (dCons (dVar 3) dNil)) (dC (.int 2))) (dAndV (dOp dLe (dC (.int 1)) (dCB (dFold min) (dCons (dVar 3) dNil))) (dOp dLe (dCB (dFold max) (dCons (dVar 3) dNil)) (dC (.int 3)))))) dNext) (r_is_layer_4 cs)
def r_is_layer_2 (cs : Cs) : RS := dSeq (dIfS (dTest (dOp dEqA (dVar 1) (dC (.str (Str.ofString "note"))))) (dRet (dCall (S_is_monoid cs) (dCons (dVar 3) dNil))) dNext) (r_is_layer_3 cs)
def r_is_layer_1 (cs : Cs) : RS := dSeq (dIfS (dOr (dNot (dTruth (dCall (S_is_name cs) (dCons (dVar 2) dNil)))) (dTest (dOp (dInA true) (dVar 1) (dC (strsD ["cell", "setting", "note", "fail", "outside"]))))) (dRet (dC (.bl false))) dNext) (r_is_layer_2 cs)
def r_is_layer (cs : Cs) : RS := dSeq (dUnp [1, 2, 3] (dVar 0)) (r_is_layer_1 cs)

/-! _states_of: slots 0 layers 1 many 2 word 3 _ 4 extent -/
def b_states_of_2 (cs : Cs) : RS := (dIfS (dTest (dOp (dInA false) (dVar 2) (dTup (dCons (dC (.str (Str.ofString "cell"))) (dCons (dC (.str (Str.ofString "setting"))) dNil))))) (dSet 1 (dOp (dIC CMulA fun i j => .int (i * j)) (dVar 1) (dVar 4))) dNext)
def r_states_of_2 (cs : Cs) : RS := (dRet (dVar 1))
def r_states_of_1 (cs : Cs) : RS := dSeq (dForU [2, 3, 4] [2, 3, 4] (dVar 0) (b_states_of_2 cs)) (r_states_of_2 cs)
def r_states_of (cs : Cs) : RS := dSeq (dSet 1 (dC (.int 1))) (r_states_of_1 cs)

/-! Book.__init__: slots 0 self 1 kernel 2 layers 3 at 4 layer -/
def b_Book_init_7 (cs : Cs) (Ψ : DX) : RS := (dSeq (dIfS (dOr (dNot (dTruth (dCall (S_is_layer cs) (dCons (dVar 4) dNil)))) (dTest (dDIn false (dOp dIx (dVar 4) (dC (.int 1))) (dFld cs.Book "numbers" (dVar 0))))) (dRaise cs.BookError ["layer"] (flatX Ψ) (dCons (dOp dAddT (dVar 3) (dC (.int 1))) dNil)) dNext)
    (dDPut (dOp dAddT (dVar 3) (dC (.int 1))) (dFld cs.Book "numbers" (dVar 0)) (dOp dIx (dVar 4) (dC (.int 1)))))
def r_Book_init_6 (cs : Cs) (Ψ : DX) : RS := (dIfS (dTest (dOp dGt (dCall (S_states_of cs) (dCons (dFld cs.Book "layers" (dVar 0)) dNil)) (dC (.int 12)))) (dRaise cs.BookError ["layer"] (flatX Ψ) (dCons (dC (.int 0)) dNil)) dNext)
def r_Book_init_5 (cs : Cs) (Ψ : DX) : RS := dSeq (dForI (tgU [3, 4]) [3, 4] (dEnum (dFld cs.Book "layers" (dVar 0))) (b_Book_init_7 cs Ψ)) (r_Book_init_6 cs Ψ)
def r_Book_init_4 (cs : Cs) (Ψ : DX) : RS := dSeq (dSetF cs.Book "numbers" (dVar 0) dDNew) (r_Book_init_5 cs Ψ)
def r_Book_init_3 (cs : Cs) (Ψ : DX) : RS := dSeq (dSetF cs.Book "size" (dVar 0) (dLenR (dFld cs.Book "layers" (dVar 0)))) (r_Book_init_4 cs Ψ)
def r_Book_init_2 (cs : Cs) (Ψ : DX) : RS := dSeq (dSetF cs.Book "layers" (dVar 0) (dTpl (dVar 2))) (r_Book_init_3 cs Ψ)
def r_Book_init_1 (cs : Cs) (Ψ : DX) : RS := dSeq (dSetF cs.Book "kernel" (dVar 0) (dVar 1)) (r_Book_init_2 cs Ψ)
def r_Book_init (cs : Cs) (Ψ : DX) : RS := dSeq (dIfS (dOr (dTest (dInK true ["none", "choose", "draw", "spread", "twochoose", "twodraw", "mixed"] (dVar 1))) (dTest (dOp dGt (dCB dLen (dCons (dVar 2) dNil)) (dC (.int 5))))) (dRaise cs.BookError ["layer"] (flatX Ψ) (dCons (dC (.int 0)) dNil)) dNext) (r_Book_init_1 cs Ψ)

/-! _law_book: slots 0 _law_k 1 _law_three 2 _law_two 3 _law_first 4 _law_second 5 _law_third 6 _law_fourth -/
def r_law_book_6 (cs : Cs) : RS := (dRet (dOp dIx (dFz (dCons (dVar 3) (dCons (dVar 4) (dCons (dVar 5) (dCons (dVar 6) dNil))))) (dOp (dIC (fun _ j => 0 < j) fun i j => .int (i % j)) (dCB dInt (dCons (dVar 0) dNil)) (dC (.int 4)))))
def r_law_book_5 (cs : Cs) : RS := dSeq (dSet 6 (dTup (dCons (dC (.str (Str.ofString "twodraw"))) (dCons (dTup (dCons (dTup (dCons (dC (.str (Str.ofString "fail"))) (dCons (dC (.str (Str.ofString "f"))) (dCons (dC (.int 1)) dNil)))) (dCons (dTup (dCons (dC (.str (Str.ofString "cell"))) (dCons (dC (.str (Str.ofString "c"))) (dCons (dC (.int 2)) dNil)))) (dCons (dTup (dCons (dC (.str (Str.ofString "cell"))) (dCons (dC (.str (Str.ofString "d"))) (dCons (dC (.int 3)) dNil)))) (dCons (dTup (dCons (dC (.str (Str.ofString "outside"))) (dCons (dC (.str (Str.ofString "o"))) (dCons (dTup (dCons (dC (.int 3)) (dCons (dC (.int 2)) dNil))) dNil)))) (dCons (dVar 1) dNil)))))) dNil)))) (r_law_book_6 cs)
def r_law_book_4 (cs : Cs) : RS := dSeq (dSet 5 (dTup (dCons (dC (.str (Str.ofString "spread"))) (dCons (dTup (dCons (dVar 2) (dCons (dTup (dCons (dC (.str (Str.ofString "outside"))) (dCons (dC (.str (Str.ofString "a"))) (dCons (dTup (dCons (dC (.int 1)) (dCons (dC (.int 2)) dNil))) dNil)))) (dCons (dTup (dCons (dC (.str (Str.ofString "cell"))) (dCons (dC (.str (Str.ofString "c"))) (dCons (dC (.int 3)) dNil)))) (dCons (dVar 1) (dCons (dTup (dCons (dC (.str (Str.ofString "outside"))) (dCons (dC (.str (Str.ofString "b"))) (dCons (dTup (dCons (dC (.int 2)) dNil)) dNil)))) dNil)))))) dNil)))) (r_law_book_5 cs)
def r_law_book_3 (cs : Cs) : RS := dSeq (dSet 4 (dTup (dCons (dC (.str (Str.ofString "twochoose"))) (dCons (dTup (dCons (dTup (dCons (dC (.str (Str.ofString "setting"))) (dCons (dC (.str (Str.ofString "s"))) (dCons (dC (.int 2)) dNil)))) (dCons (dTup (dCons (dC (.str (Str.ofString "cell"))) (dCons (dC (.str (Str.ofString "c"))) (dCons (dC (.int 3)) dNil)))) (dCons (dTup (dCons (dC (.str (Str.ofString "fail"))) (dCons (dC (.str (Str.ofString "f"))) (dCons (dC (.int 3)) dNil)))) (dCons (dTup (dCons (dC (.str (Str.ofString "outside"))) (dCons (dC (.str (Str.ofString "o"))) (dCons (dTup (dCons (dC (.int 3)) dNil)) dNil)))) (dCons (dVar 2) dNil)))))) dNil)))) (r_law_book_4 cs)
def r_law_book_2 (cs : Cs) : RS := dSeq (dSet 3 (dTup (dCons (dC (.str (Str.ofString "mixed"))) (dCons (dTup (dCons (dTup (dCons (dC (.str (Str.ofString "cell"))) (dCons (dC (.str (Str.ofString "c"))) (dCons (dC (.int 2)) dNil)))) (dCons (dVar 1) (dCons (dTup (dCons (dC (.str (Str.ofString "outside"))) (dCons (dC (.str (Str.ofString "o"))) (dCons (dTup (dCons (dC (.int 2)) (dCons (dC (.int 3)) dNil))) dNil)))) (dCons (dTup (dCons (dC (.str (Str.ofString "setting"))) (dCons (dC (.str (Str.ofString "s"))) (dCons (dC (.int 3)) dNil)))) (dCons (dTup (dCons (dC (.str (Str.ofString "fail"))) (dCons (dC (.str (Str.ofString "f"))) (dCons (dC (.int 2)) dNil)))) dNil)))))) dNil)))) (r_law_book_3 cs)
def r_law_book_1 (cs : Cs) : RS := dSeq (dSet 2 (dTup (dCons (dC (.str (Str.ofString "note"))) (dCons (dC (.str (Str.ofString "m"))) (dCons (dTup (dCons (dTup (dCons (dC (.int 0)) (dCons (dC (.int 1)) dNil))) (dCons (dTup (dCons (dC (.int 1)) (dCons (dC (.int 0)) dNil))) dNil))) dNil))))) (r_law_book_2 cs)
def r_law_book (cs : Cs) : RS := dSeq (dSet 1 (dTup (dCons (dC (.str (Str.ofString "note"))) (dCons (dC (.str (Str.ofString "n"))) (dCons (dTup (dCons (dTup (dCons (dC (.int 0)) (dCons (dC (.int 1)) (dCons (dC (.int 2)) dNil)))) (dCons (dTup (dCons (dC (.int 1)) (dCons (dC (.int 1)) (dCons (dC (.int 1)) dNil)))) (dCons (dTup (dCons (dC (.int 2)) (dCons (dC (.int 2)) (dCons (dC (.int 2)) dNil)))) dNil)))) dNil))))) (r_law_book_1 cs)

/-! _law_deeds: slots 0 _law_kernel 1 _law_layers 2 _law_deeds_here 3 _law_at 4 _law_layer 5 _law_i 6 _law_m 7 _law_d -/
def b_law_deeds_10 (cs : Cs) : RS := (dSeq (dSet 4 (dOp dIx (dVar 1) (dVar 3)))
    (dSeq (dIfS (dTest (dOp dEqA (dOp dIx (dVar 4) (dC (.int 0))) (dC (.str (Str.ofString "cell"))))) (dSetO 2 (dCatR (dOp dAddT (dVar 2) (dFz (dCons (dTup (dCons (dC (.str (Str.ofString "get"))) (dCons (dOp dAddT (dVar 3) (dC (.int 1))) dNil))) dNil))) (dFz (dLc [5] (dRng (dOp dIx (dVar 4) (dC (.int 2)))) (tgN 5) dYes (dTup (dCons (dC (.str (Str.ofString "put"))) (dCons (dOp dAddT (dVar 3) (dC (.int 1))) (dCons (dVar 5) dNil)))))))) dNext)
    (dSeq (dIfS (dTest (dOp dEqA (dOp dIx (dVar 4) (dC (.int 0))) (dC (.str (Str.ofString "setting"))))) (dApp 2 (dTup (dCons (dC (.str (Str.ofString "look"))) (dCons (dOp dAddT (dVar 3) (dC (.int 1))) dNil)))) dNext)
    (dSeq (dIfS (dTest (dOp dEqA (dOp dIx (dVar 4) (dC (.int 0))) (dC (.str (Str.ofString "note"))))) (dSetO 2 (dCatO 2 (dFz (dLc [6] (dRng (dCB dLen (dCons (dOp dIx (dVar 4) (dC (.int 2))) dNil))) (tgN 6) dYes (dTup (dCons (dC (.str (Str.ofString "note"))) (dCons (dOp dAddT (dVar 3) (dC (.int 1))) (dCons (dVar 6) dNil)))))))) dNext)
    (dIfS (dTest (dOp dEqA (dOp dIx (dVar 4) (dC (.int 0))) (dC (.str (Str.ofString "outside"))))) (dSetO 2 (dCatO 2 (dFz (dLc [7] (dRng (dCB dLen (dCons (dOp dIx (dVar 4) (dC (.int 2))) dNil))) (tgN 7) dYes (dTup (dCons (dC (.str (Str.ofString "ask"))) (dCons (dOp dAddT (dVar 3) (dC (.int 1))) (dCons (dVar 7) dNil)))))))) dNext)))))
def r_law_deeds_6 (cs : Cs) : RS := (dRet (dVar 2))
def r_law_deeds_5 (cs : Cs) : RS := dSeq (dForR 3 [3, 4] (dCB dLen (dCons (dVar 1) dNil)) (b_law_deeds_10 cs)) (r_law_deeds_6 cs)
def r_law_deeds_4 (cs : Cs) : RS := dSeq (dIfS (dTest (dOp dEqA (dVar 0) (dC (.str (Str.ofString "twodraw"))))) (dApp 2 (dTup (dCons (dC (.str (Str.ofString "draw"))) (dCons (dC (.int 1)) (dCons (dC (.int 1)) (dCons (dC (.int 3)) dNil)))))) dNext) (r_law_deeds_5 cs)
def r_law_deeds_3 (cs : Cs) : RS := dSeq (dIfS (dTest (dOp (dInA false) (dVar 0) (dTup (dCons (dC (.str (Str.ofString "mixed"))) (dCons (dC (.str (Str.ofString "spread"))) (dCons (dC (.str (Str.ofString "twodraw"))) dNil)))))) (dSetO 2 (dCatO 2 (dFz (dCons (dTup (dCons (dC (.str (Str.ofString "draw"))) (dCons (dC (.int 0)) (dCons (dC (.int 1)) (dCons (dC (.int 2)) dNil))))) (dCons (dTup (dCons (dC (.str (Str.ofString "draw"))) (dCons (dC (.int 0)) (dCons (dC (.int 2)) (dCons (dC (.int 5)) dNil))))) (dCons (dTup (dCons (dC (.str (Str.ofString "draw"))) (dCons (dC (.int 0)) (dCons (dC (.int 5)) (dCons (dC (.int 6)) dNil))))) dNil)))))) dNext) (r_law_deeds_4 cs)
def r_law_deeds_2 (cs : Cs) : RS := dSeq (dIfS (dTest (dOp dEqA (dVar 0) (dC (.str (Str.ofString "twochoose"))))) (dApp 2 (dTup (dCons (dC (.str (Str.ofString "choose"))) (dCons (dC (.int 1)) dNil)))) dNext) (r_law_deeds_3 cs)
def r_law_deeds_1 (cs : Cs) : RS := dSeq (dIfS (dTest (dOp (dInA false) (dVar 0) (dTup (dCons (dC (.str (Str.ofString "mixed"))) (dCons (dC (.str (Str.ofString "spread"))) (dCons (dC (.str (Str.ofString "twochoose"))) dNil)))))) (dApp 2 (dTup (dCons (dC (.str (Str.ofString "choose"))) (dCons (dC (.int 0)) dNil)))) dNext) (r_law_deeds_2 cs)
def r_law_deeds (cs : Cs) : RS := dSeq (dSetO 2 dNil) (r_law_deeds_1 cs)

/-! _law_starts: slots 0 _law_layers 1 _law_layer 2 _law_state 3 _law_found 4 _law_at 5 _law_options 6 _law_longer 7 _law_first 8 _law_entry -/
def b_law_starts_10 (cs : Cs) : RS := (dApp 6 (dOp dAddT (dVar 7) (dTup (dCons (dVar 8) dNil))))
def b_law_starts_9 (cs : Cs) : RS := (dFor 8 [8] (dVar 5) (b_law_starts_10 cs))
def b_law_starts_2 (cs : Cs) : RS := (dSeq (dSet 5 (dFz (dCons (dC (.int 0)) dNil)))
    (dSeq (dIfS (dTest (dOp dGe (dOp dAddT (dVar 4) (dC (.int 1))) (dVar 1))) (dSet 5 (dFz (dCons (dOp dIx (dVar 2) (dVar 4)) dNil))) (dIfS (dOr (dTest (dOp dEqA (dOp dIx (dOp dIx (dVar 0) (dVar 4)) (dC (.int 0))) (dC (.str (Str.ofString "cell"))))) (dTest (dOp dEqA (dOp dIx (dOp dIx (dVar 0) (dVar 4)) (dC (.int 0))) (dC (.str (Str.ofString "setting")))))) (dSet 5 (dFz (dLstR (dOp dIx (dOp dIx (dVar 0) (dVar 4)) (dC (.int 2)))))) dNext))
    (dSeq (dSetO 6 dNil)
    (dSeq (dFor 7 [7, 8] (dVar 3) (b_law_starts_9 cs))
    (dSet 3 (dFz (dLst (dVar 6))))))))
def r_law_starts_2 (cs : Cs) : RS := (dRet (dVar 3))
def r_law_starts_1 (cs : Cs) : RS := dSeq (dForR 4 [4, 5, 6, 7] (dCB dLen (dCons (dVar 0) dNil)) (b_law_starts_2 cs)) (r_law_starts_2 cs)
def r_law_starts (cs : Cs) : RS := dSeq (dSet 3 (dFz (dCons (dTup dNil) dNil))) (r_law_starts_1 cs)

/-! _law_kept: slots 0 _law_layers 1 _law_state 2 _law_layer 3 _law_found 4 _law_at -/
def b_law_kept_2 (cs : Cs) : RS := (dIfS (dTest (dOp dEqA (dOp dIx (dOp dIx (dVar 0) (dVar 4)) (dC (.int 0))) (dC (.str (Str.ofString "setting"))))) (dApp 3 (dC (.int 0))) (dApp 3 (dOp dIx (dVar 1) (dVar 4))))
def r_law_kept_2 (cs : Cs) : RS := (dRet (dTpl (dVar 3)))
def r_law_kept_1 (cs : Cs) : RS := dSeq (dForR 4 [4] (dOp (dI fun i j => .int (i - j)) (dVar 2) (dC (.int 1))) (b_law_kept_2 cs)) (r_law_kept_2 cs)
def r_law_kept (cs : Cs) : RS := dSeq (dSetO 3 dNil) (r_law_kept_1 cs)

/-! _law_asked: slots 0 _law_layers 1 _law_state 2 _law_deed 3 _law_number 4 _law_trail 5 _law_before 6 _law_many 7 _law_rest 8 _law_after 9 _law_at -/
def b_law_asked_5 (cs : Cs) : RS := (dSeq (dStoO 8 (dC (.int 0)) (dVar 9))
    (dIfS (dOr (dTest (dOp dEqA (dOp dIx (dOp dIx (dVar 0) (dVar 9)) (dC (.int 0))) (dC (.str (Str.ofString "cell"))))) (dTest (dOp dEqA (dOp dIx (dOp dIx (dVar 0) (dVar 9)) (dC (.int 0))) (dC (.str (Str.ofString "setting")))))) (dSeq (dStoO 8 (dOp (dIC (fun _ j => 0 < j) fun i j => .int (i % j)) (dCB dInt (dCons (dVar 7) dNil)) (dOp dIx (dOp dIx (dVar 0) (dVar 9)) (dC (.int 2)))) (dVar 9))
      (dSet 7 (dOp (dIC CDivA fun i j => .int (i / j)) (dVar 7) (dOp dIx (dOp dIx (dVar 0) (dVar 9)) (dC (.int 2)))))) dNext))
def r_law_asked_6 (cs : Cs) : RS := (dRet (dTup (dCons (dOp (dIC (fun _ j => 0 < j) fun i j => .int (i % j)) (dCB dInt (dCons (dVar 3) dNil)) (dVar 6)) (dCons (dVar 8) dNil))))
def r_law_asked_5 (cs : Cs) : RS := dSeq (dAppM (dVar 4) (dTup (dCons (dOp dIx (dVar 2) (dC (.int 1))) (dCons (dOp dIx (dVar 2) (dC (.int 2))) (dCons (dVar 5) (dCons (dOp (dIC (fun _ j => 0 < j) fun i j => .int (i % j)) (dCB dInt (dCons (dVar 3) dNil)) (dVar 6)) (dCons (dTpl (dSlA (dVar 8) dNoP (dPart (dOp (dI fun i j => .int (i - j)) (dOp dIx (dVar 2) (dC (.int 1))) (dC (.int 1)))))) dNil))))))) (r_law_asked_6 cs)
def r_law_asked_4 (cs : Cs) : RS := dSeq (dForR 9 [9] (dOp (dI fun i j => .int (i - j)) (dOp dIx (dVar 2) (dC (.int 1))) (dC (.int 1))) (b_law_asked_5 cs)) (r_law_asked_5 cs)
def r_law_asked_3 (cs : Cs) : RS := dSeq (dSetO 8 (dLst (dVar 1))) (r_law_asked_4 cs)
def r_law_asked_2 (cs : Cs) : RS := dSeq (dSet 7 (dOp (dIC CDivA fun i j => .int (i / j)) (dVar 3) (dVar 6))) (r_law_asked_3 cs)
def r_law_asked_1 (cs : Cs) : RS := dSeq (dSet 6 (dOp dIx (dOp dIx (dOp dIx (dVar 0) (dOp (dI fun i j => .int (i - j)) (dOp dIx (dVar 2) (dC (.int 1))) (dC (.int 1)))) (dC (.int 2))) (dOp dIx (dVar 2) (dC (.int 2))))) (r_law_asked_2 cs)
def r_law_asked (cs : Cs) : RS := dSeq (dSet 5 (dCall (S_law_kept cs) (dCons (dVar 0) (dCons (dVar 1) (dCons (dOp dIx (dVar 2) (dC (.int 1))) dNil))))) (r_law_asked_1 cs)

/-! _law_step: slots 0 _law_layers 1 _law_state 2 _law_deed 3 _law_number 4 _law_trail 5 _law_after 6 _law_at -/
def r_law_step_7 (cs : Cs) : RS := (dRet (dTup (dCons (dC (.int 0)) (dCons (dVar 5) dNil))))
def r_law_step_6 (cs : Cs) : RS := dSeq (dIfS (dTest (dOp dEqA (dOp dIx (dVar 2) (dC (.int 0))) (dC (.str (Str.ofString "put"))))) (dStoO 5 (dOp dIx (dVar 2) (dC (.int 2))) (dVar 6)) (dStoO 5 (dOp dIx (dOp dIx (dOp dIx (dOp dIx (dVar 0) (dVar 6)) (dC (.int 2))) (dOp dIx (dVar 1) (dVar 6))) (dOp dIx (dVar 2) (dC (.int 2)))) (dVar 6))) (r_law_step_7 cs)
def r_law_step_5 (cs : Cs) : RS := dSeq (dIfS (dOr (dTest (dOp dEqA (dOp dIx (dVar 2) (dC (.int 0))) (dC (.str (Str.ofString "get"))))) (dTest (dOp dEqA (dOp dIx (dVar 2) (dC (.int 0))) (dC (.str (Str.ofString "look")))))) (dRet (dTup (dCons (dOp dIx (dVar 1) (dVar 6)) (dCons (dVar 5) dNil)))) dNext) (r_law_step_6 cs)
def r_law_step_4 (cs : Cs) : RS := dSeq (dSet 6 (dOp (dI fun i j => .int (i - j)) (dOp dIx (dVar 2) (dC (.int 1))) (dC (.int 1)))) (r_law_step_5 cs)
def r_law_step_3 (cs : Cs) : RS := dSeq (dSetO 5 (dLst (dVar 1))) (r_law_step_4 cs)
def r_law_step_2 (cs : Cs) : RS := dSeq (dIfS (dTest (dOp dEqA (dOp dIx (dVar 2) (dC (.int 0))) (dC (.str (Str.ofString "ask"))))) (dRet (dCall (S_law_asked cs) (dCons (dVar 0) (dCons (dVar 1) (dCons (dVar 2) (dCons (dVar 3) (dCons (dVar 4) dNil))))))) dNext) (r_law_step_3 cs)
def r_law_step_1 (cs : Cs) : RS := dSeq (dIfS (dTest (dOp dEqA (dOp dIx (dVar 2) (dC (.int 0))) (dC (.str (Str.ofString "draw"))))) (dRet (dTup (dCons (dCB dInt (dCons (dOp dGe (dOp (dIC (fun _ j => 0 < j) fun i j => .int (i % j)) (dCB dInt (dCons (dVar 3) dNil)) (dOp dIx (dVar 2) (dC (.int 3)))) (dOp dIx (dVar 2) (dC (.int 2)))) dNil)) (dCons (dFz (dLst (dVar 1))) dNil)))) dNext) (r_law_step_2 cs)
def r_law_step (cs : Cs) : RS := dSeq (dIfS (dTest (dOp dEqA (dOp dIx (dVar 2) (dC (.int 0))) (dC (.str (Str.ofString "choose"))))) (dRet (dTup (dCons (dOp (dIC (fun _ j => 0 < j) fun i j => .int (i % j)) (dCB dInt (dCons (dVar 3) dNil)) (dC (.int 2))) (dCons (dFz (dLst (dVar 1))) dNil)))) dNext) (r_law_step_1 cs)

/-! _law_back: slots 0 _law_layers 1 _law_state 2 _law_layer 3 _law_old 4 _law_after 5 _law_at -/
def b_law_back_2 (cs : Cs) : RS := (dIfS (dOr (dTest (dOp dEqA (dOp dIx (dOp dIx (dVar 0) (dVar 5)) (dC (.int 0))) (dC (.str (Str.ofString "cell"))))) (dTest (dOp dEqA (dOp dIx (dOp dIx (dVar 0) (dVar 5)) (dC (.int 0))) (dC (.str (Str.ofString "note")))))) (dStoO 4 (dOp dIx (dVar 3) (dVar 5)) (dVar 5)) dNext)
def r_law_back_2 (cs : Cs) : RS := (dRet (dVar 4))
def r_law_back_1 (cs : Cs) : RS := dSeq (dForR2 5 [5] (dVar 2) (dCB dLen (dCons (dVar 0) dNil)) (b_law_back_2 cs)) (r_law_back_2 cs)
def r_law_back (cs : Cs) : RS := dSeq (dSetO 4 (dLst (dVar 1))) (r_law_back_1 cs)

/-! _law_states: slots 0 _law_book_here 1 _law_layers 2 _law_row_here 3 _law_zero 4 _law_due 5 _law_state 6 _law_at 7 _law_layer 8 _law_beneath 9 _law_member -/
def b_law_states_6 (cs : Cs) : RS := (dIfS (dTest (dOp dEqA (dOp dIx (dOp dIx (dVar 1) (dVar 6)) (dC (.int 0))) (dC (.str (Str.ofString "note"))))) (dStoO 5 (dOp (dIC (fun _ j => 0 < j) fun i j => .int (i % j)) (dCB dInt (dCons (dOp dIx (dVar 2) (dOp dAddT (dC (.int 1)) (dVar 6))) dNil)) (dCB dLen (dCons (dOp dIx (dOp dIx (dVar 1) (dVar 6)) (dC (.int 2))) dNil))) (dVar 6)) dNext)
def b_law_states_14 (cs : Cs) : RS := (dIfS (dTest (dOp dNeA (dCall (S_place_below cs) (dCons (dVar 0) (dCons (dVar 7) (dCons (dOp dIx (dVar 8) (dVar 6)) dNil)))) (dVar 6))) (dRet (dC (.bl false))) dNext)
def b_law_states_21 (cs : Cs) : RS := (dIfS (dTest (dOp dEqA (dOp dIx (dOp dIx (dVar 1) (dVar 6)) (dC (.int 0))) (dC (.str (Str.ofString "note"))))) (dSeq (dSet 9 (dOp (dIC (fun _ j => 0 < j) fun i j => .int (i % j)) (dCB dInt (dCons (dOp dIx (dVar 2) (dC (.int 7))) dNil)) (dCB dLen (dCons (dOp dIx (dOp dIx (dVar 1) (dVar 6)) (dC (.int 2))) dNil))))
      (dSeq (dSet 4 (dOp dAddT (dOp dAddT (dSlA (dVar 5) dNoP (dPart (dVar 6))) (dTup (dCons (dOp dIx (dOp dIx (dOp dIx (dOp dIx (dVar 1) (dVar 6)) (dC (.int 2))) (dOp dIx (dVar 5) (dVar 6))) (dVar 9)) dNil))) (dSlA (dVar 5) (dPart (dOp dAddT (dVar 6) (dC (.int 1)))) dNoP)))
      (dIfS (dTest (dOp dNeA (dCall (S_noted cs) (dCons (dVar 0) (dCons (dVar 5) (dCons (dOp dAddT (dVar 6) (dC (.int 1))) (dCons (dVar 9) dNil))))) (dVar 4))) (dRet (dC (.bl false))) dNext))) dNext)
def r_law_states_13 (cs : Cs) : RS := (dRet (dC (.bl true)))
def r_law_states_12 (cs : Cs) : RS := dSeq (dForR 6 [6] (dCB dLen (dCons (dVar 1) dNil)) (b_law_states_21 cs)) (r_law_states_13 cs)
def r_law_states_11 (cs : Cs) : RS := dSeq (dIfS (dTest (dOp dNeA (dCall (S_changed cs) (dCons (dVar 5) (dCons (dC (.int 2)) (dCons (dC (.int 1)) dNil)))) (dOp dAddT (dTup (dCons (dOp dIx (dVar 5) (dC (.int 0))) (dCons (dC (.int 1)) dNil))) (dSlA (dVar 5) (dPart (dC (.int 2))) dNoP)))) (dRet (dC (.bl false))) dNext) (r_law_states_12 cs)
def r_law_states_10 (cs : Cs) : RS := dSeq (dIfS (dTest (dOp dNeA (dCall (S_kept cs) (dCons (dVar 0) (dCons (dVar 5) (dCons (dVar 7) dNil)))) (dCall (S_law_kept cs) (dCons (dVar 1) (dCons (dVar 5) (dCons (dVar 7) dNil)))))) (dRet (dC (.bl false))) dNext) (r_law_states_11 cs)
def r_law_states_9 (cs : Cs) : RS := dSeq (dForR 6 [6] (dCB dLen (dCons (dVar 8) dNil)) (b_law_states_14 cs)) (r_law_states_10 cs)
def r_law_states_8 (cs : Cs) : RS := dSeq (dIfS (dTest (dOp dNeA (dCall (S_starts_below cs) (dCons (dVar 0) (dCons (dVar 7) (dCons (dVar 5) dNil)))) (dVar 8))) (dRet (dC (.bl false))) dNext) (r_law_states_9 cs)
def r_law_states_7 (cs : Cs) : RS := dSeq (dSet 8 (dCall (S_law_starts cs) (dCons (dVar 1) (dCons (dVar 7) (dCons (dVar 5) dNil))))) (r_law_states_8 cs)
def r_law_states_6 (cs : Cs) : RS := dSeq (dSet 7 (dOp dAddT (dC (.int 1)) (dOp (dIC (fun _ j => 0 < j) fun i j => .int (i % j)) (dOp dIx (dVar 2) (dC (.int 6))) (dOp dAddT (dCB dLen (dCons (dVar 1) dNil)) (dC (.int 1)))))) (r_law_states_7 cs)
def r_law_states_5 (cs : Cs) : RS := dSeq (dSet 5 (dTpl (dVar 5))) (r_law_states_6 cs)
def r_law_states_4 (cs : Cs) : RS := dSeq (dForR 6 [6] (dCB dLen (dCons (dVar 1) dNil)) (b_law_states_6 cs)) (r_law_states_5 cs)
def r_law_states_3 (cs : Cs) : RS := dSeq (dSetO 5 (dLst (dOp dIx (dVar 4) (dOp (dIC (fun _ j => 0 < j) fun i j => .int (i % j)) (dCB dInt (dCons (dOp dIx (dVar 2) (dC (.int 0))) dNil)) (dCB dLen (dCons (dVar 4) dNil)))))) (r_law_states_4 cs)
def r_law_states_2 (cs : Cs) : RS := dSeq (dIfS (dTest (dOp dNeA (dCall (S_starts cs) (dCons (dVar 0) dNil)) (dVar 4))) (dRet (dC (.bl false))) dNext) (r_law_states_3 cs)
def r_law_states_1 (cs : Cs) : RS := dSeq (dSet 4 (dCall (S_law_starts cs) (dCons (dVar 1) (dCons (dOp dAddT (dCB dLen (dCons (dVar 1) dNil)) (dC (.int 1))) (dCons (dVar 3) dNil))))) (r_law_states_2 cs)
def r_law_states (cs : Cs) : RS := dSeq (dSet 3 (dOp dRepT (dTup (dCons (dC (.int 0)) dNil)) (dCB dLen (dCons (dVar 1) dNil)))) (r_law_states_1 cs)

/-! _law_end: slots 0 _law_layers 1 _law_state 2 _law_row_here 3 _law_kinds 4 _law_at 5 _law_layer 6 _law_kind 7 _law_text -/
def r_law_end_3 (cs : Cs) : RS := (dRet (dTup (dCons (dTup (dCons (dC (.str (Str.ofString "ret"))) (dCons (dVar 7) dNil))) (dCons (dTup (dCons (dC (.str (Str.ofString "done"))) (dCons (dVar 7) (dCons (dCall (S_law_kept cs) (dCons (dVar 0) (dCons (dVar 1) (dCons (dOp dAddT (dCB dLen (dCons (dVar 0) dNil)) (dC (.int 1))) dNil)))) dNil)))) dNil))))
def r_law_end_2 (cs : Cs) : RS := dSeq (dSet 7 (dOp dIx (dFz (dCons (dC (.str (Str.ofString "0"))) (dCons (dC (.str (Str.ofString "(1 0)"))) (dCons (dC (.str (Str.ofString "12"))) dNil)))) (dOp (dIC (fun _ j => 0 < j) fun i j => .int (i % j)) (dOp dIx (dVar 2) (dC (.int 1))) (dC (.int 3))))) (r_law_end_3 cs)
def r_law_end_1 (cs : Cs) : RS := dSeq (dIfS (dAnd (dTest (dOp dEqA (dOp (dIC (fun _ j => 0 < j) fun i j => .int (i % j)) (dOp dIx (dVar 2) (dC (.int 0))) (dC (.int 3))) (dC (.int 0)))) (dTest (dEqR true (dVar 3) (dFz dNil)))) (dSeq (dSet 5 (dOp dIx (dVar 3) (dOp (dIC (fun _ j => 0 < j) fun i j => .int (i % j)) (dCB dInt (dCons (dOp dIx (dVar 2) (dC (.int 1))) dNil)) (dCB dLen (dCons (dVar 3) dNil)))))
    (dSeq (dSet 6 (dOp (dIC (fun _ j => 0 < j) fun i j => .int (i % j)) (dCB dInt (dCons (dOp dIx (dVar 2) (dC (.int 2))) dNil)) (dOp dIx (dOp dIx (dVar 0) (dOp (dI fun i j => .int (i - j)) (dVar 5) (dC (.int 1)))) (dC (.int 2)))))
    (dRet (dTup (dCons (dTup (dCons (dC (.str (Str.ofString "fail"))) (dCons (dVar 5) (dCons (dVar 6) dNil)))) (dCons (dTup (dCons (dC (.str (Str.ofString "fail"))) (dCons (dVar 5) (dCons (dVar 6) (dCons (dCall (S_law_kept cs) (dCons (dVar 0) (dCons (dVar 1) (dCons (dVar 5) dNil)))) dNil))))) dNil)))))) dNext) (r_law_end_2 cs)
def r_law_end (cs : Cs) : RS := dSeq (dSet 3 (dFz (dLc [4] (dRng (dCB dLen (dCons (dVar 0) dNil))) (tgN 4) (dTest (dOp dEqA (dOp dIx (dOp dIx (dVar 0) (dVar 4)) (dC (.int 0))) (dC (.str (Str.ofString "fail"))))) (dOp dAddT (dVar 4) (dC (.int 1)))))) (r_law_end_1 cs)

/-! law: slots 0 _law_script 1 _law_row_here 2 _law_kernel 3 _law_layers 4 _law_book_here 5 _law_start 6 _law_numbers 7 _law_number 8 _law_handed 9 _law_play 10 _law_deeds_here 11 _law_state 12 _law_seen 13 _law_trail 14 _law_taken 15 _law_at 16 _law_drawn 17 _law_deed 18 _law_answer 19 _law_told 20 _law_layer 21 _law_old 22 _law_end_here 23 _law_outcome -/
def b_law_16 (cs : Cs) : RS := (dSeq (dSet 16 (dCall S_law_row (dCons (dVar 0) (dCons (dOp dAddT (dC (.int 15)) (dVar 15)) (dCons (dC (.int 3)) dNil)))))
    (dSeq (dSet 17 (dOp dIx (dVar 10) (dOp (dIC (fun _ j => 0 < j) fun i j => .int (i % j)) (dCB dInt (dCons (dOp dIx (dVar 16) (dC (.int 0))) dNil)) (dCB dLen (dCons (dVar 10) dNil)))))
    (dSeq (dSet 7 (dC (.int 0)))
    (dSeq (dIfS (dTest (dOp (dInA false) (dOp dIx (dVar 17) (dC (.int 0))) (dTup (dCons (dC (.str (Str.ofString "choose"))) (dCons (dC (.str (Str.ofString "draw"))) (dCons (dC (.str (Str.ofString "ask"))) dNil)))))) (dSeq (dIfS (dTest (dOp dLt (dVar 14) (dCB dLen (dCons (dVar 6) dNil)))) (dSet 7 (dOp dIx (dVar 6) (dVar 14))) dNext)
      (dSet 14 (dOp dAddT (dVar 14) (dC (.int 1))))) dNext)
    (dSeq (dUnp [18, 11] (dCall (S_law_step cs) (dCons (dVar 3) (dCons (dVar 11) (dCons (dVar 17) (dCons (dVar 7) (dCons (dVar 13) dNil)))))))
    (dSeq (dSet 19 (dMeth cs.Play "answer" (S_Play_answer cs) (dVar 9) (dCons (dVar 17) dNil)))
    (dSeq (dIfS (dOr (dNot (dTruth (dIsi "int" (dVar 19)))) (dOr (dTruth (dIsi "bool" (dVar 19))) (dTest (dOp dNeA (dVar 19) (dVar 18))))) (dRet (dC (.bl false))) dNext)
    (dSeq (dIfS (dTest (dOp dEqA (dOp (dIC (fun _ j => 0 < j) fun i j => .int (i % j)) (dOp dIx (dVar 16) (dC (.int 1))) (dC (.int 9))) (dC (.int 0)))) (dSeq (dSet 20 (dOp dAddT (dC (.int 1)) (dOp (dIC (fun _ j => 0 < j) fun i j => .int (i % j)) (dCB dInt (dCons (dOp dIx (dVar 16) (dC (.int 2))) dNil)) (dCB dLen (dCons (dVar 3) dNil)))))
      (dSeq (dSet 21 (dIxO 12 (dOp (dIC (fun _ j => 0 < j) fun i j => .int (i % j)) (dCB dInt (dCons (dOp dIx (dVar 16) (dC (.int 2))) dNil)) (dLenO 12))))
      (dSeq (dSet 11 (dCall (S_law_back cs) (dCons (dVar 3) (dCons (dVar 11) (dCons (dVar 20) (dCons (dVar 21) dNil))))))
      (dDrop (dMeth cs.Play "restore" (S_Play_restore cs) (dVar 9) (dCons (dVar 20) (dCons (dTpl (dVar 21)) dNil))))))) dNext)
    (dSeq (dApp 12 (dVar 11))
    (dIfS (dOr (dTest (dOp dNeA (dFld cs.Play "state" (dVar 9)) (dTpl (dVar 11)))) (dOr (dTest (dOp dNeA (dFld cs.Play "taken" (dVar 9)) (dVar 14))) (dOr (dTest (dOp dNeA (dFld cs.Play "deeds" (dVar 9)) (dOp dAddT (dVar 15) (dC (.int 1))))) (dTest (dEqR true (dFld cs.Play "trail" (dVar 9)) (dVar 13)))))) (dRet (dC (.bl false))) dNext))))))))))
def r_law_17 (cs : Cs) : RS := (dRet (dAndV (dOp dEqA (dVar 23) (dTup (dCons (dTpl (dVar 13)) (dCons (dVar 22) dNil)))) (dAndV (dIsi "tuple" (dOp dIx (dVar 23) (dC (.int 0)))) (dOp dEqA (dVar 8) (dVar 6)))))
def r_law_16 (cs : Cs) : RS := dSeq (dSet 23 (dMeth cs.Play "outcome" (S_Play_outcome cs) (dVar 9) (dCons (dVar 17) dNil))) (r_law_17 cs)
def r_law_15 (cs : Cs) : RS := dSeq (dUnp [17, 22] (dCall (S_law_end cs) (dCons (dVar 3) (dCons (dVar 11) (dCons (dCall S_law_row (dCons (dVar 0) (dCons (dC (.int 40)) (dCons (dC (.int 3)) dNil)))) dNil))))) (r_law_16 cs)
def r_law_14 (cs : Cs) : RS := dSeq (dForR 15 [7, 15, 16, 18, 19] (dOp (dIC (fun _ j => 0 < j) fun i j => .int (i % j)) (dOp dIx (dVar 1) (dC (.int 3))) (dC (.int 21))) (b_law_16 cs)) (r_law_15 cs)
def r_law_13 (cs : Cs) : RS := dSeq (dSet 14 (dC (.int 0))) (r_law_14 cs)
def r_law_12 (cs : Cs) : RS := dSeq (dSetM 13 dNil) (r_law_13 cs)
def r_law_11 (cs : Cs) : RS := dSeq (dSetO 12 (dCons (dVar 11) dNil)) (r_law_12 cs)
def r_law_10 (cs : Cs) : RS := dSeq (dSet 11 (dFz (dLst (dVar 5)))) (r_law_11 cs)
def r_law_9 (cs : Cs) : RS := dSeq (dSet 10 (dCall (S_law_deeds cs) (dCons (dVar 2) (dCons (dVar 3) dNil)))) (r_law_10 cs)
def r_law_8 (cs : Cs) : RS := dSeq (dSet 9 (dMake cs.Play (S_Play_init cs) (dCons (dVar 4) (dCons (dVar 5) (dCons (dVar 8) dNil))))) (r_law_9 cs)
def r_law_7 (cs : Cs) : RS := dSeq (dSet 8 (dFz (dLst (dVar 6)))) (r_law_8 cs)
def r_law_6 (cs : Cs) : RS := dSeq (dSet 6 (dFz (dLc [7] (dItems (dSlA (dVar 0) (dPart (dC (.int 2))) (dPart (dOp dAddT (dC (.int 2)) (dOp (dIC (fun _ j => 0 < j) fun i j => .int (i % j)) (dOp dIx (dVar 1) (dC (.int 2))) (dC (.int 13))))))) (tgN 7) dYes (dCB dAbs (dCons (dCB dInt (dCons (dVar 7) dNil)) dNil))))) (r_law_7 cs)
def r_law_5 (cs : Cs) : RS := dSeq (dSet 5 (dOp dIx (dVar 5) (dOp (dIC (fun _ j => 0 < j) fun i j => .int (i % j)) (dCB dInt (dCons (dOp dIx (dVar 1) (dC (.int 1))) dNil)) (dCB dLen (dCons (dVar 5) dNil))))) (r_law_6 cs)
def r_law_4 (cs : Cs) : RS := dSeq (dSet 5 (dCall (S_law_starts cs) (dCons (dVar 3) (dCons (dOp dAddT (dCB dLen (dCons (dVar 3) dNil)) (dC (.int 1))) (dCons (dOp dRepT (dTup (dCons (dC (.int 0)) dNil)) (dCB dLen (dCons (dVar 3) dNil))) dNil))))) (r_law_5 cs)
def r_law_3 (cs : Cs) : RS := dSeq (dIfS (dNot (dTruth (dCall (S_law_states cs) (dCons (dVar 4) (dCons (dVar 3) (dCons (dCall S_law_row (dCons (dVar 0) (dCons (dC (.int 1)) (dCons (dC (.int 8)) dNil)))) dNil)))))) (dRet (dC (.bl false))) dNext) (r_law_4 cs)
def r_law_2 (cs : Cs) : RS := dSeq (dSet 4 (dMakeX cs.Book (S_Book_init cs) noX (dCons (dVar 2) (dCons (dVar 3) dNil)))) (r_law_3 cs)
def r_law_1 (cs : Cs) : RS := dSeq (dUnp [2, 3] (dCall (S_law_book cs) (dCons (dOp dIx (dVar 1) (dC (.int 0))) dNil))) (r_law_2 cs)
def r_law (cs : Cs) : RS := dSeq (dSet 1 (dCall S_law_row (dCons (dVar 0) (dCons (dC (.int 0)) (dCons (dC (.int 12)) dNil))))) (r_law_1 cs)
end My

set_option Elab.async false
set_option linter.all false
set_option maxRecDepth 100000
set_option maxHeartbeats 4000000
namespace My
open PySem PySem.Spec PyProof.Rows L2 DL
open Evl (Ex)
/-! ### small things -/
theorem ff {P : Prop} (h : false = true) : P := Bool.noConfusion h
theorem tf {P : Prop} (h : true = false) : P := Bool.noConfusion h
theorem bsI {k : Bool} {Φ : Bool → Prop} (h : Φ k) : bs k Φ := by
  cases k
  · exact ⟨ff, fun _ => h⟩
  · exact ⟨fun _ => h, tf⟩
theorem bsE {k b : Bool} {Φ : Bool → Prop} (e : k = b) (h : Φ b) : bs k Φ := by
  subst e
  exact bsI h
theorem ix_lay {L : List Ly} {k : Int} {i : Nat} {l : Ly} (h : LayAt L k i l) : atI (L.map Ly.d) (k - 1) = some l.d := by
  rw [h.1, show ((i : Int) + 1 - 1) = (i : Nat) by omega]
  refine atI_nat ?_
  rw [List.getElem?_map, h.2] <;> rfl
theorem ix_nat {xs : List D} {i : Nat} {k : Int} {x : D} (hk : k = (i : Nat)) (h : xs[i]? = some x) : atI xs k = some x := by
  rw [hk]
  exact atI_nat h
theorem row_at {r : List Nat} {i x : Nat} (h : r[i]? = some x) : (r.map ni)[i]? = some (ni x) := by
  rw [List.getElem?_map, h] <;> rfl
theorem tab_at {t : List (List Nat)} {i : Nat} {r : List Nat} (h : t[i]? = some r) : (t.map rowD)[i]? = some (rowD r) := by
  rw [List.getElem?_map, h] <;> rfl
theorem sz {n : Nat} (h : n ≤ 100000) : n ≤ sizeLine := by rw [sizeLine_eq]; omega
theorem szl {n : Nat} (h : n ≤ 100000) : n < sizeLine := by rw [sizeLine_eq]; omega
theorem w_val (l : Ly) : inD (.str l.w) [.str (Str.ofString "cell"), .str (Str.ofString "setting")] = l.hv := by cases l <;> (simp only [Ly.w, Ly.hv, Ly.isCN, Ly.isSet]; decide +kernel)
theorem w_no (l : Ly) : inD (.str l.w) [.str (Str.ofString "note"), .str (Str.ofString "outside")] = (match l with | .note _ _ => true | .outside _ _ => true | _ => false) := by cases l <;> (simp only [Ly.w, Ly.hv, Ly.isCN, Ly.isSet]; decide +kernel)
theorem w_cn (l : Ly) : inD (.str l.w) [.str (Str.ofString "cell"), .str (Str.ofString "note")] = l.isCN := by cases l <;> (simp only [Ly.w, Ly.hv, Ly.isCN, Ly.isSet]; decide +kernel)
theorem w_set (l : Ly) : decide (l.w = Str.ofString "setting") = l.isSet := by cases l <;> first | exact decide_eq_true rfl | exact decide_eq_false (by simp only [Ly.w]; decide +kernel)
theorem w_cell (l : Ly) : decide (l.w = Str.ofString "cell") = (match l with | .cell _ _ => true | _ => false) := by cases l <;> first | exact decide_eq_true rfl | exact decide_eq_false (by simp only [Ly.w]; decide +kernel)
theorem w_note (l : Ly) : decide (l.w = Str.ofString "note") = (match l with | .note _ _ => true | _ => false) := by cases l <;> first | exact decide_eq_true rfl | exact decide_eq_false (by simp only [Ly.w]; decide +kernel)
theorem w_out (l : Ly) : decide (l.w = Str.ofString "outside") = (match l with | .outside _ _ => true | _ => false) := by cases l <;> first | exact decide_eq_true rfl | exact decide_eq_false (by simp only [Ly.w]; decide +kernel)
theorem w_fail (l : Ly) : decide (l.w = Str.ofString "fail") = (match l with | .fail _ _ => true | _ => false) := by cases l <;> first | exact decide_eq_true rfl | exact decide_eq_false (by simp only [Ly.w]; decide +kernel)
/-! ### the book -/
theorem red_Book_word_at (cs : Cs) : ∀ ds M Φ Ψ, S_Book_word_at cs ds M Φ Ψ → r_Book_word_at cs (ends Φ) (startD 2 ds) M := by
  rintro ds M Φ Ψ ⟨b, L, k, i, l, rfl, ⟨h5, kern, d, hb⟩, hl, q⟩
  exact ⟨_, _, hb, rfl, _, ix_lay hl, _, rfl, q⟩
theorem red_has_values (cs : Cs) : ∀ ds M Φ Ψ, S_has_values cs ds M Φ Ψ → r_has_values cs (ends Φ) (startD 2 ds) M := by
  rintro ds M Φ Ψ ⟨b, L, k, i, l, rfl, ⟨h5, kern, d, hb⟩, hl, q⟩
  refine ⟨⟨_, hb, rfl⟩, b, L, k, i, l, rfl, ⟨h5, kern, d, hb⟩, hl, rfl, rfl, ?_⟩
  show Φ (.bl (inD _ _)) M
  rw [w_val]
  exact q
theorem red_Book_count_at (cs : Cs) : ∀ ds M Φ Ψ, S_Book_count_at cs ds M Φ Ψ → r_Book_count_at cs (ends Φ) (startD 5 ds) M := by
  rintro ds M Φ Ψ ⟨b, L, k, i, l, rfl, ⟨h5, kern, d, hb⟩, hl, q⟩
  refine ⟨_, _, hb, rfl, _, ix_lay hl, rfl, rfl, rfl, bsE (w_no l) ?_⟩
  cases l with
  | note nm t =>
    have e : ((t.map rowD).length : Int) = (t.length : Nat) := by rw [List.length_map]
    show Φ (.int _) M
    rw [e]
    exact q
  | outside nm ar =>
    have e : ((ar.map ni).length : Int) = (ar.length : Nat) := by rw [List.length_map]
    show Φ (.int _) M
    rw [e]
    exact q
  | _ => exact q
theorem red_values_at (cs : Cs) : ∀ ds M Φ Ψ, S_values_at cs ds M Φ Ψ → r_values_at cs (ends Φ) (startD 2 ds) M := by
  rintro ds M Φ Ψ ⟨b, L, k, i, l, rfl, ⟨h5, kern, d, hb⟩, hl, q⟩
  refine ⟨b, L, k, i, l, rfl, ⟨h5, kern, d, hb⟩, hl, bsI ?_⟩
  unfold Ly.vals at q
  cases e : l.hv with
  | true =>
    rw [e] at q
    exact ⟨⟨_, hb, rfl⟩, b, L, k, i, l, rfl, ⟨h5, kern, d, hb⟩, hl, q⟩
  | false =>
    rw [e] at q
    exact q
theorem red_Book_product (cs : Cs) : ∀ ds M Φ Ψ, S_Book_product cs ds M Φ Ψ → r_Book_product cs (ends Φ) (startD 4 ds) M := by
  rintro ds M Φ Ψ ⟨b, L, k, i, nm, t, x, y, rfl, ⟨h5, kern, d, hb⟩, hl, ht, hx, hy, q⟩
  obtain ⟨_, r, h1, h2⟩ := tabAt_lt ht hx hy
  exact ⟨_, _, hb, rfl, _, ix_lay hl, _, rfl, _, ix_nat rfl (tab_at h1), _, ix_nat rfl (row_at h2), q⟩
theorem red_Book_ways_at (cs : Cs) : ∀ ds M Φ Ψ, S_Book_ways_at cs ds M Φ Ψ → r_Book_ways_at cs (ends Φ) (startD 3 ds) M := by
  rintro ds M Φ Ψ ⟨b, L, k, i, d', nm, ar, rfl, ⟨h5, kern, d, hb⟩, hL, hl, hd, q⟩
  obtain ⟨_, _, h3⟩ := ar_pos hL hl.2 hd
  exact ⟨_, _, hb, rfl, _, ix_lay hl, _, rfl, _, ix_nat rfl (row_at h3), q⟩
/-! ### states -/
theorem cut_lo {s : List Int} {m : Nat} {k : Int} (hk : k = (m : Nat)) (h : m ≤ s.length) : DL.cutD (stD s) none (some k) = stD (s.take m) := by
  subst hk
  unfold DL.cutD
  rw [HT.sIx_nat, HT.sIx_none, stD_len, List.drop_zero, Nat.sub_zero, Nat.min_eq_left h]
  unfold stD
  rw [List.map_take]
theorem cut_hi {s : List Int} {m : Nat} {k : Int} (hk : k = (m : Nat)) : DL.cutD (stD s) (some k) none = stD (s.drop m) := by
  subst hk
  unfold DL.cutD
  rw [HT.sIx_nat, HT.sIx_none, stD_len]
  by_cases h : m ≤ s.length
  · rw [Nat.min_eq_left h, List.take_of_length_le (by rw [List.length_drop, stD_len]; exact Nat.le_refl _)]
    unfold stD
    rw [List.map_drop]
  · rw [Nat.min_eq_right (by omega), Nat.sub_self, List.take_zero, List.drop_of_length_le (show s.length ≤ m by omega)] <;> rfl
theorem set_split {s : List Int} {i : Nat} {x : Int} (h : i < s.length) : s.take i ++ x :: s.drop (i + 1) = s.set i x := (List.set_eq_take_append_cons_drop ..).trans (if_pos h) |>.symm
theorem red_changed (cs : Cs) : ∀ ds M Φ Ψ, S_changed cs ds M Φ Ψ → r_changed cs (ends Φ) (startD 3 ds) M := by
  rintro ds M Φ Ψ ⟨s, i, x, rfl, hi, hl, q⟩
  have e : DL.cutD (stD s) none (some ((i : Int) + 1 - 1)) ++ D.int x :: (DL.cutD (stD s) (some ((i : Int) + 1)) none ++ []) = stD (s.set i x) := by
    rw [cut_lo (show (i : Int) + 1 - 1 = (i : Nat) by omega) (Nat.le_of_lt hi), cut_hi (show (i : Int) + 1 = ((i + 1 : Nat) : Int) by omega), List.append_nil, ← set_split hi, ← stD_app] <;> rfl
  show _ ∧ Φ (.tup _) M
  refine ⟨?_, ?_⟩
  · show (DL.cutD (stD s) none (some ((i : Int) + 1 - 1)) ++ D.int x :: (DL.cutD (stD s) (some ((i : Int) + 1)) none ++ [])).length ≤ sizeLine
    rw [e, stD_len, List.length_set]
    exact sz (by omega)
  · show Φ (.tup (DL.cutD (stD s) none (some ((i : Int) + 1 - 1)) ++ D.int x :: (DL.cutD (stD s) (some ((i : Int) + 1)) none ++ []))) M
    rw [e]
    exact q
theorem red_noted (cs : Cs) : ∀ ds M Φ Ψ, S_noted cs ds M Φ Ψ → r_noted cs (ends Φ) (startD 5 ds) M := by
  rintro ds M Φ Ψ ⟨b, L, s, i, nm, t, x, m, rfl, ⟨h5, kern, d, hb⟩, hl, ht, hx, hxl, hm, hs, q⟩
  refine ⟨⟨_, hb, rfl⟩, _, ix_nat (show (i : Int) + 1 - 1 = (i : Nat) by omega) (stD_at hx), b, L, _, i, nm, t, x, m, rfl, ⟨h5, kern, d, hb⟩, ⟨rfl, hl⟩, ht, hxl, hm, ?_⟩
  exact ⟨s, i, _, rfl, lt_of_some hx, hs, q⟩
end My

set_option Elab.async false
set_option linter.all false
set_option maxRecDepth 100000
set_option maxHeartbeats 4000000
namespace My
open PySem PySem.Spec PyProof.Rows L2 DL
open Evl (Ex)
theorem own_ix {n i : Nat} {k : Int} (hk : k = (i : Nat)) (h : i < n) : ixN n k = some i := by
  rw [hk]
  exact Evl.ixN_nat h
theorem at_lt {L : List Ly} {i : Nat} (h : i < L.length) : L[i]? = some L[i] := List.getElem?_eq_getElem h
theorem red_kept (cs : Cs) : ∀ ds M Φ Ψ, S_kept cs ds M Φ Ψ → r_kept cs (ends Φ) (startD 5 ds) M := by
  rintro ds M Φ Ψ ⟨b, L, m, s, rfl, hb, hm, hs, q⟩
  obtain ⟨h5, kern, d, hbk⟩ := id hb
  show r_kept_1 cs (ends Φ) [.d (.ref b), .d (S3 s), .d (.int ((m : Int) + 1)), .own (DL.cutD (stD s) none (some ((m : Int) + 1 - 1))), .un] M
  rw [cut_lo (show (m : Int) + 1 - 1 = (m : Nat) by omega) (by omega), ← keptF_zero (L := L) (show m ≤ s.length by omega)]
  refine ⟨⟨by decide, by decide, by omega, by omega⟩, ?_⟩
  rw [show ((m : Int) + 1 - 1).toNat = m by omega]
  refine loop_by (fun i => [.d (.ref b), .d (S3 s), .d (.int ((m : Int) + 1)), .own (stD (keptF L s m i)), .un]) rfl ?_ ?_
  · intro i x hx
    obtain ⟨hi, rfl⟩ := rangeD_some hx
    have hl := at_lt (show i < L.length by omega)
    refine ⟨⟨_, hbk, rfl⟩, b, L, _, i, _, rfl, hb, ⟨by omega, hl⟩, fun h => ?_, fun h => ?_⟩
    · have e : (L[i]'(by omega)).isSet = true := (w_set _).symm.trans h
      refine ⟨⟨_, rfl⟩, i, own_ix (show 1 + (i : Int) - 1 = (i : Nat) by omega) (by rw [stD_len, keptF_len]; exact hi), ?_, rfl⟩
      show [_, _, _, Sl.own ((stD (keptF L s m i)).set i (.int 0)), Sl.un] = _
      rw [stD_set, keptF_set hi (by rw [setAt_of hl, e])]
    · have e : (L[i]'(by omega)).isSet = false := (w_set _).symm.trans h
      refine ⟨?_, rfl⟩
      show [_, _, _, Sl.own (stD (keptF L s m i)), Sl.un] = _
      rw [keptF_skip (by rw [setAt_of hl, e])]
  · rw [rangeD_len]
    exact q
theorem red_place_below (cs : Cs) : ∀ ds M Φ Ψ, S_place_below cs ds M Φ Ψ → r_place_below cs (ends Φ) (startD 5 ds) M := by
  rintro ds M Φ Ψ ⟨b, L, m, j, r, u, rfl, hb, hL, hm, hj, q⟩
  obtain ⟨h5, kern, d, hbk⟩ := id hb
  obtain ⟨hr, hv⟩ := rowsF_mem (List.mem_of_getElem? hj)
  have lo : ∀ i, i ≤ m → 0 ≤ radF L r i ∧ radF L r i < 3 ^ i := by
    intro i
    induction i with
    | zero => intro _; exact ⟨Int.le_refl _, by show (0 : Int) < 3 ^ 0; decide⟩
    | succ i ih =>
      intro hi
      obtain ⟨h1, h2⟩ := ih (by omega)
      obtain ⟨x, h3, h4⟩ := hv i (by omega)
      obtain ⟨_, h5⟩ := valAt_le hL i
      have e : r.getD i 0 = (x : Int) := by rw [List.getD_eq_getElem?_getD, h3] <;> rfl
      unfold radF
      rw [e]
      have h6 : radF L r i * (valAt L i : Nat) + (x : Int) < (radF L r i + 1) * (valAt L i : Nat) := by
        rw [Int.add_mul, Int.one_mul]
        omega
      have h7 : (radF L r i + 1) * ((valAt L i : Nat) : Int) ≤ 3 ^ i * 3 := Int.mul_le_mul (by omega) (by omega) (by omega) (by omega)
      have h8 : 0 ≤ radF L r i * ((valAt L i : Nat) : Int) := Int.mul_nonneg h1 (by omega)
      refine ⟨by omega, ?_⟩
      rw [Int.pow_succ]
      omega
  have hlen : m ≤ 5 := Nat.le_trans hm hL.1
  refine ⟨⟨by decide, by decide, by omega, by omega⟩, ?_⟩
  rw [show ((m : Int) + 1 - 1).toNat = m by omega]
  refine loop_by (fun i => [.d (.ref b), .d (.int ((m : Int) + 1)), .d (S3 (r ++ u)), .d (.int (radF L r i)), .un]) rfl ?_ ?_
  · intro i x hx
    obtain ⟨hi, rfl⟩ := rangeD_some hx
    have hl := at_lt (show i < L.length by omega)
    obtain ⟨y, h3, h4⟩ := hv i hi
    have e : r.getD i 0 = (y : Int) := by rw [List.getD_eq_getElem?_getD, h3] <;> rfl
    refine ⟨b, L, _, i, _, rfl, hb, ⟨by omega, hl⟩, bsI ?_⟩
    cases ev : (L[i]'(by omega)).hv with
    | true =>
      have cv : (L[i]'(by omega)).cnt = valAt L i := by
        rw [valAt_of hl]
        unfold Ly.vals
        rw [ev] <;> rfl
      have hlo := lo i (by omega)
      have p3 : (3 : Int) ^ i ≤ 3 ^ 5 := by
        have : (3 : Nat) ^ i ≤ 3 ^ 5 := Nat.pow_le_pow_right (by decide) (by omega)
        exact_mod_cast this
      refine ⟨⟨_, hbk, rfl⟩, b, L, _, i, _, rfl, hb, ⟨by omega, hl⟩, .inl (.inl ⟨by omega, by omega⟩), _, ix_nat (show 1 + (i : Int) - 1 = (i : Nat) by omega) (stD_at (s := r ++ u) (x := (y : Int)) (by rw [List.getElem?_append_left (by omega)]; exact h3)), ?_, rfl⟩
      show [_, _, _, Sl.d (.int (radF L r i * ((L[i]'(by omega)).cnt : Nat) + (y : Int))), Sl.un] = _
      rw [cv]
      show _ = [_, _, _, Sl.d (.int (radF L r i * (valAt L i : Nat) + r.getD i 0)), Sl.un]
      rw [e]
    | false =>
      refine ⟨?_, rfl⟩
      have cv : valAt L i = 1 := by
        rw [valAt_of hl]
        unfold Ly.vals
        rw [ev] <;> rfl
      have y0 : y = 0 := by rw [cv] at h4; omega
      show [_, _, _, Sl.d (.int (radF L r i)), Sl.un] = [_, _, _, Sl.d (.int (radF L r i * (valAt L i : Nat) + r.getD i 0)), Sl.un]
      rw [e, cv, y0]
      show _ = [_, _, _, Sl.d (.int (radF L r i * 1 + 0)), Sl.un]
      rw [Int.mul_one, Int.add_zero]
  · rw [rangeD_len]
    have e := rad_rows hj
    show Φ (.int (radF L r m)) M
    rw [e]
    exact q
theorem red_entries_beneath (cs : Cs) : ∀ ds M Φ Ψ, S_entries_beneath cs ds M Φ Ψ → r_entries_beneath cs (ends Φ) (startD 6 ds) M := by
  rintro ds M Φ Ψ ⟨b, L, m, r, rfl, hb, hL, hm, hr, q⟩
  obtain ⟨h5, kern, d, hbk⟩ := id hb
  have hlen : m ≤ 5 := Nat.le_trans hm hL.1
  refine ⟨⟨by decide, by decide, by omega, by omega⟩, ?_⟩
  rw [show ((m : Int) + 1 - 1).toNat = m by omega]
  refine ⟨fun i Δ M' => ∃ z, Δ = [.d (.ref b), .d (.int ((m : Int) + 1)), .d (.int (leftF L r i)), .own (stD (entF L r i)), .un, z] ∧ M' = M, ⟨_, rfl, rfl⟩, ?_, ?_⟩
  · rintro i x Δ1 M1 hx ⟨z, rfl, rfl⟩
    obtain ⟨hi, rfl⟩ := rangeD_some hx
    have hl := at_lt (show i < L.length by omega)
    have hvl := Ly.vals_le (hL.at hl)
    have push : ∀ {y : Int}, y = (if hvAt L i then (leftF L r i) % (valAt L i : Nat) else 0) → stD (entF L r i) ++ [.int y] = stD (entF L r (i + 1)) := fun {y} e => by
      show _ = stD (entF L r i ++ [if hvAt L i then (leftF L r i) % (valAt L i : Nat) else 0])
      rw [← stD_app, e] <;> rfl
    refine ⟨b, L, _, i, _, rfl, hb, ⟨by omega, hl⟩, bsI ?_⟩
    cases ev : (L[i]'(by omega)).hv with
    | true =>
      have cv : (L[i]'(by omega)).cnt = valAt L i := by
        rw [valAt_of hl]
        unfold Ly.vals
        rw [ev] <;> rfl
      have v1 := valAt_le hL i
      have hz : ((0 : Int) < ((L[i]'(by omega)).cnt : Nat)) := by rw [cv]; omega
      refine ⟨⟨_, hbk, rfl⟩, b, L, _, i, _, rfl, hb, ⟨by omega, hl⟩, ⟨_, rfl⟩, hz, ⟨by rw [stD_len, entF_len]; exact szl (by omega), ⟨hz, .inl (by rw [cv]; omega)⟩, ?_⟩⟩
      refine ⟨.d (ni (L[i]'(by omega)).cnt), ?_, rfl⟩
      show [_, _, Sl.d (.int (leftF L r i / ((L[i]'(by omega)).cnt : Nat))), Sl.own (stD (entF L r i) ++ [.int (leftF L r i % ((L[i]'(by omega)).cnt : Nat))]), Sl.un, Sl.d (ni (L[i]'(by omega)).cnt)] = _
      rw [push (by rw [hvAt_of hl, ev, cv] <;> rfl)]
      have e2 : leftF L r (i + 1) = leftF L r i / ((L[i]'(by omega)).cnt : Nat) := by
        show entF.leftF L r (i + 1) = _
        rw [cv]
        show (if hvAt L i then entF.leftF L r i / (valAt L i : Nat) else entF.leftF L r i) = _
        rw [hvAt_of hl, ev] <;> rfl
      rw [e2]
    | false =>
      refine ⟨⟨_, rfl⟩, by rw [stD_len, entF_len]; exact szl (by omega), z, ?_, rfl⟩
      show [_, _, Sl.d (.int (leftF L r i)), Sl.own (stD (entF L r i) ++ [.int 0]), Sl.un, z] = _
      rw [push (by rw [hvAt_of hl, ev] <;> rfl)]
      have e2 : leftF L r (i + 1) = leftF L r i := by
        show (if hvAt L i then entF.leftF L r i / (valAt L i : Nat) else entF.leftF L r i) = _
        rw [hvAt_of hl, ev] <;> rfl
      rw [e2]
  · rintro Δ1 M1 ⟨z, h, rfl⟩
    rw [rangeD_len] at h
    subst h
    exact q
end My

set_option Elab.async false
set_option linter.all false
set_option maxRecDepth 100000
set_option maxHeartbeats 4000000
namespace My
open PySem PySem.Spec PyProof.Rows L2 DL
open Evl (Ex)
/-! ### comprehensions -/
theorem lcGo_fm {vs : List Nat} {tg : RG} {rt : RT} {r : RE} {f : D → Option D} {Δ0 : List Sl} {M : Mem} {Ψ : List D → List Sl → Mem → Prop} : ∀ {xs acc : List D},
    (∀ x ∈ xs, ∀ (Θ : D → List Sl → Mem → Prop) (Θ' : List Sl → Mem → Prop), (∀ Δ3 d, wipeD Δ3 vs = Δ0 → f x = some d → Θ d Δ3 M) → (∀ Δ3, wipeD Δ3 vs = Δ0 → f x = none → Θ' Δ3 M) →
      tg x Δ0 fun Δ1 => rt Δ1 M fun b Δ2 M2 => match b with
        | true => r Δ2 M2 Θ
        | false => Θ' Δ2 M2) → Ψ (acc ++ xs.filterMap f) Δ0 M → lcGo vs tg rt r xs Δ0 acc M Ψ
  | [], acc, _, k => by
    rw [List.filterMap_nil, List.append_nil] at k
    exact k
  | x :: xs, acc, h, k => by
    have ih := fun acc' => lcGo_fm (xs := xs) (acc := acc') (Ψ := Ψ) (fun y hy => h y (List.mem_cons_of_mem _ hy))
    refine h x List.mem_cons_self (fun d Δ3 M3 => lcGo vs tg rt r xs (wipeD Δ3 vs) (acc ++ [d]) M3 Ψ) (fun Δ2 M2 => lcGo vs tg rt r xs (wipeD Δ2 vs) acc M2 Ψ) ?_ ?_
    · intro Δ3 d e ef
      show lcGo vs tg rt r xs (wipeD Δ3 vs) (acc ++ [d]) M Ψ
      rw [e]
      refine ih _ ?_
      rw [List.filterMap_cons, ef] at k
      rw [List.append_assoc]
      exact k
    · intro Δ3 e ef
      show lcGo vs tg rt r xs (wipeD Δ3 vs) acc M Ψ
      rw [e]
      refine ih _ ?_
      rw [List.filterMap_cons, ef] at k
      exact k
theorem lcGo_map {vs : List Nat} {tg : RG} {r : RE} {f : D → D} {Δ0 : List Sl} {M : Mem} {Ψ : List D → List Sl → Mem → Prop} {xs acc : List D}
    (h : ∀ x ∈ xs, ∀ (Θ : D → List Sl → Mem → Prop), (∀ Δ3, wipeD Δ3 vs = Δ0 → Θ (f x) Δ3 M) → tg x Δ0 fun Δ1 => r Δ1 M Θ) (k : Ψ (acc ++ xs.map f) Δ0 M) : lcGo vs tg dYes r xs Δ0 acc M Ψ := by
  refine lcGo_fm (f := fun x => some (f x)) (fun x hx Θ Θ' h1 h2 => ?_) ?_
  · exact h x hx Θ fun Δ3 e => h1 Δ3 _ e rfl
  · rw [List.filterMap_eq_map']
    exact k
theorem lcGo2_map {vs us : List Nat} {tg tg1 : RG} {ri1 : RI} {r : RE} {f : D → List D} {Δ0 : List Sl} {M : Mem} {Ψ : List D → List Sl → Mem → Prop} {N : Nat} : ∀ {xs acc : List D}, (∀ x ∈ xs, (f x).length ≤ N) → acc.length + xs.length * N < sizeLine →
    (∀ x ∈ xs, ∀ (acc : List D) (Θ : List D → List Sl → Mem → Prop), acc.length + N < sizeLine → (∀ Δ3, wipeD Δ3 vs = Δ0 → Θ (acc ++ f x) Δ3 M) →
      tg x Δ0 fun Δ1 => ri1 Δ1 M fun es Δ3 M3 => acc.length + es.length < sizeLine ∧ lcGo us tg1 dYes r es (wipeD Δ3 us) acc M3 Θ) → Ψ (acc ++ xs.flatMap f) Δ0 M → lcGo2 vs us tg dYes ri1 tg1 dYes r xs Δ0 acc M Ψ
  | [], acc, _, _, _, k => by
    rw [List.flatMap_nil, List.append_nil] at k
    exact k
  | x :: xs, acc, hN, hz, h, k => by
    have hx := hN x List.mem_cons_self
    rw [List.length_cons, Nat.add_mul, Nat.one_mul] at hz
    refine h x List.mem_cons_self acc (fun acc' Δ4 M4 => lcGo2 vs us tg dYes ri1 tg1 dYes r xs (wipeD Δ4 vs) acc' M4 Ψ) (by omega) fun Δ3 e => ?_
    show lcGo2 vs us tg dYes ri1 tg1 dYes r xs (wipeD Δ3 vs) (acc ++ f x) M Ψ
    rw [e]
    refine lcGo2_map (fun y hy => hN y (List.mem_cons_of_mem _ hy)) (by rw [List.length_append]; omega) (fun y hy => h y (List.mem_cons_of_mem _ hy)) ?_
    rw [List.flatMap_cons] at k
    rw [List.append_assoc]
    exact k
theorem pow5 {n : Nat} (h : n ≤ 5) : 3 ^ n ≤ 243 := Nat.le_trans (Nat.pow_le_pow_right (by decide) h) (by decide)
theorem rows_map (L : List Ly) (i : Nat) : (rowsF L (i + 1)).map S3 = ((rowsF L i).map S3).flatMap fun x => match x with
    | .tup ds => (rangeD 0 (valAt L i)).map fun e => .tup (ds ++ [e])
    | _ => [] := by
  show ((rowsF L i).flatMap (ext1 (valAt L i))).map S3 = _
  rw [List.map_flatMap, List.flatMap_map]
  congr 1
  funext r
  show (ext1 (valAt L i) r).map S3 = (rangeD 0 (valAt L i)).map fun e => D.tup (stD r ++ [e])
  unfold ext1 rangeD
  rw [List.map_map, List.map_map]
  congr 1
  funext e
  show D.tup (stD (r ++ [((e : Nat) : Int)])) = D.tup (stD r ++ [D.int (0 + (e : Nat))])
  rw [Int.zero_add, ← stD_app] <;> rfl
theorem red_starts_below (cs : Cs) : ∀ ds M Φ Ψ, S_starts_below cs ds M Φ Ψ → r_starts_below cs (ends Φ) (startD 8 ds) M := by
  rintro ds M Φ Ψ ⟨b, L, m, s, rfl, hb, hL, hm, hs, q⟩
  have hlen : m ≤ 5 := Nat.le_trans hm hL.1
  refine ⟨⟨by decide, by decide, by omega, by omega⟩, ?_⟩
  rw [show ((m : Int) + 1 - 1).toNat = m by omega]
  refine loop_by (fun i => [.d (.ref b), .d (.int ((m : Int) + 1)), .d (S3 s), .d (rowsD (rowsF L i)), .un, .un, .un, .un]) rfl ?_ ?_
  · intro i x hx
    obtain ⟨hi, rfl⟩ := rangeD_some hx
    have hl := at_lt (show i < L.length by omega)
    have hr := rowsF_len hL i
    have p5 := pow5 (show i ≤ 5 by omega)
    have hv := valAt_le hL i
    refine ⟨b, L, _, i, _, rfl, hb, ⟨by omega, hl⟩, ?_⟩
    rw [← valAt_of hl]
    show lcGo2 [6, 7] [7] (tgN 6) dYes (dRng (dVar 5)) (tgN 7) dYes (dTupB (dStar (dVar 6) (dCons (dVar 7) dNil))) ((rowsF L i).map S3) [.d (.ref b), .d (.int ((m : Int) + 1)), .d (S3 s), .d (rowsD (rowsF L i)), .d (.int (1 + (i : Nat))), .d (ni (valAt L i)), .un, .un] [] M _
    refine lcGo2_map (N := 3) (f := fun x => match x with
      | .tup ds => (rangeD 0 (valAt L i)).map fun e => .tup (ds ++ [e])
      | _ => []) ?_ ?_ ?_ ?_
    · intro y hy
      obtain ⟨r, hr, rfl⟩ := List.mem_map.mp hy
      show ((rangeD 0 (valAt L i)).map _).length ≤ 3
      rw [List.length_map, rangeD_len]
      exact hv.2
    · rw [List.length_map]
      exact szl (by rw [List.length_nil]; omega)
    · intro y hy acc Θ ha k
      obtain ⟨r, hr', rfl⟩ := List.mem_map.mp hy
      have hrl := (rowsF_mem hr').1
      refine ⟨⟨by omega, by omega⟩, ?_, ?_⟩
      · rw [rangeD_len, Int.toNat_natCast]
        omega
      · rw [Int.toNat_natCast]
        refine lcGo_map (f := fun e => .tup (stD r ++ [e])) (fun e he Θ2 k2 => ?_) (k _ rfl)
        refine ⟨?_, k2 _ rfl⟩
        show (stD r ++ [e]).length ≤ sizeLine
        rw [List.length_append, stD_len]
        exact sz (by rw [hrl]; show i + 1 ≤ 100000; omega)
    · rw [List.nil_append, ← rows_map]
      exact ⟨rfl, rfl⟩
  · rw [rangeD_len]
    have hr := rowsF_len hL m
    have p5 := pow5 hlen
    show ((rowsF L m).map S3).length < sizeLine ∧ lcGo [6] (tgN 6) dYes _ ((rowsF L m).map S3) [.d (.ref b), .d (.int ((m : Int) + 1)), .d (S3 s), .d (rowsD (rowsF L m)), .un, .un, .un, .un] [] M _
    refine ⟨by rw [List.length_map]; exact szl (by omega), ?_⟩
    refine lcGo_map (f := fun x => match x with
      | .tup ds => .tup (ds ++ stD (s.drop m))
      | _ => x) (fun x hx Θ k => ?_) ?_
    · obtain ⟨r, hr', rfl⟩ := List.mem_map.mp hx
      have hrl := (rowsF_mem hr').1
      have k' := k [.d (.ref b), .d (.int ((m : Int) + 1)), .d (S3 s), .d (rowsD (rowsF L m)), .un, .un, .d (S3 r), .un] rfl
      show dAddT (S3 r) (.tup (DL.cutD (stD s) (some ((m : Int) + 1 - 1)) none)) fun d => Θ d [.d (.ref b), .d (.int ((m : Int) + 1)), .d (S3 s), .d (rowsD (rowsF L m)), .un, .un, .d (S3 r), .un] M
      rw [cut_hi (show (m : Int) + 1 - 1 = (m : Nat) by omega)]
      exact ⟨by rw [stD_len, stD_len, List.length_drop]; exact sz (by omega), k'⟩
    · have e : ((rowsF L m).map S3).map (fun x => match x with
          | .tup ds => D.tup (ds ++ stD (s.drop m))
          | _ => x) = (startsF L m s).map S3 := by
        unfold startsF
        rw [List.map_map, List.map_map]
        congr 1
        funext r
        show D.tup (stD r ++ stD (s.drop m)) = D.tup (stD (r ++ s.drop m))
        rw [stD_app]
      rw [List.nil_append, e]
      exact q
theorem red_starts (cs : Cs) : ∀ ds M Φ Ψ, S_starts cs ds M Φ Ψ → r_starts cs (ends Φ) (startD 1 ds) M := by
  rintro ds M Φ Ψ ⟨b, L, rfl, hb, hL, q⟩
  obtain ⟨h5, kern, d, hbk⟩ := id hb
  refine ⟨_, _, hbk, rfl, b, L, L.length, [], rfl, hb, hL, Nat.le_refl _, by decide, ?_⟩
  have e : startsF L L.length [] = rowsF L L.length := by
    unfold startsF
    rw [List.drop_nil]
    conv => rhs; rw [← List.map_id (rowsF L L.length)]
    congr 1
    funext r
    exact List.append_nil r
  rw [e]
  exact q
end My

set_option Elab.async false
set_option linter.all false
set_option maxRecDepth 100000
set_option maxHeartbeats 4000000
namespace My
open PySem PySem.Spec PyProof.Rows L2 DL
open Evl (Ex)
/-! ### ends, deeds -/
theorem red_end_at (cs : Cs) : ∀ ds M Φ Ψ, S_end_at cs ds M Φ Ψ → r_end_at cs (ends Φ) (startD 3 ds) M := by
  rintro ds M Φ Ψ ⟨b, L, s, e, rfl, hb, hs, he, q⟩
  obtain ⟨h5, kern, d, hbk⟩ := id hb
  cases e with
  | ret x =>
    refine ⟨_, rfl, fun _ => ?_, fun h => absurd h (by decide +kernel)⟩
    exact ⟨_, rfl, _, _, hbk, rfl, b, L, L.length, s, rfl, hb, Nat.le_refl _, hs, q⟩
  | fail i j =>
    have hi : i < L.length := he
    refine ⟨_, rfl, fun h => absurd h (by decide +kernel), fun _ => ?_⟩
    refine ⟨_, rfl, _, rfl, _, rfl, b, L, i, s, ?_, hb, by omega, hs, q⟩
    show [D.ref b, S3 s, ni (i + 1)] = [D.ref b, S3 s, .int ((i : Int) + 1)]
    rfl
theorem red_asked (cs : Cs) : ∀ ds M Φ Ψ, S_asked cs ds M Φ Ψ → r_asked cs (ends Φ) (startD 9 ds) M := by
  rintro ds M Φ Ψ ⟨b, L, s, n, i, d', rfl, hb, hL, hd, hs, hn, q⟩
  obtain ⟨h5, kern, d, hbk⟩ := id hb
  obtain ⟨nm, ar, e, hdl⟩ := hd
  have hi : i < L.length := lt_of_some e
  obtain ⟨a1, a2, a3⟩ := ar_pos hL e hdl
  have hz : (0 : Int) < ((arAt L i d' : Nat) : Int) := by omega
  refine ⟨rfl, ⟨_, hbk, rfl⟩, b, L, _, i, d', nm, ar, rfl, hb, hL, ⟨(by show ((i + 1 : Nat) : Int) = (i : Int) + 1; omega), e⟩, hdl, ?_⟩
  refine ⟨⟨hz, .inl (by omega)⟩, b, L, i, n / (arAt L i d' : Nat), rfl, hb, hL, by omega, Int.ediv_nonneg hn (by omega), ?_⟩
  exact ⟨b, L, i, s, rfl, hb, by omega, hs, hz, q⟩
theorem red_way_on (cs : Cs) : ∀ ds M Φ Ψ, S_way_on cs ds M Φ Ψ → r_way_on cs (ends Φ) (startD 4 ds) M := by
  rintro ds M Φ Ψ ⟨L, s, dd, n, rfl, hd, ha, hs, q⟩
  cases dd with
  | choose p =>
    refine ⟨_, rfl, fun _ => ?_, fun h => absurd h (by decide +kernel)⟩
    exact ⟨(by show (0 : Int) < 2; decide), q⟩
  | draw p a b =>
    have hb : 1 ≤ b := hd
    refine ⟨_, rfl, fun h => absurd h (by decide +kernel), fun _ => ⟨fun _ => ?_, fun h => absurd h (by decide +kernel)⟩⟩
    refine ⟨_, rfl, (by show (0 : Int) < (b : Nat); omega), _, rfl, fun h => ?_, fun h => ?_⟩
    · have q' : Φ (.int (if n % (b : Nat) < (a : Nat) then 0 else 1)) M := q
      rw [if_pos (of_decide_eq_true h)] at q'
      exact q'
    · have q' : Φ (.int (if n % (b : Nat) < (a : Nat) then 0 else 1)) M := q
      rw [if_neg (of_decide_eq_false h)] at q'
      exact q'
  | get i =>
    have hi : i < L.length := hd
    refine ⟨_, rfl, fun h => absurd h (by decide +kernel), fun _ => ⟨fun h => absurd h (by decide +kernel), fun _ => ⟨rfl, rfl, fun _ => ?_, fun h => absurd h (by decide +kernel)⟩⟩⟩
    exact ⟨_, rfl, _, ix_nat (show ((i + 1 : Nat) : Int) - 1 = (i : Nat) by omega) (stD_at (getD_at (by omega))), q⟩
  | look i =>
    have hi : i < L.length := hd
    refine ⟨_, rfl, fun h => absurd h (by decide +kernel), fun _ => ⟨fun h => absurd h (by decide +kernel), fun _ => ⟨rfl, rfl, fun _ => ?_, fun h => absurd h (by decide +kernel)⟩⟩⟩
    exact ⟨_, rfl, _, ix_nat (show ((i + 1 : Nat) : Int) - 1 = (i : Nat) by omega) (stD_at (getD_at (by omega))), q⟩
  | put i x =>
    exact ⟨_, rfl, fun h => absurd h (by decide +kernel), fun _ => ⟨fun h => absurd h (by decide +kernel), fun _ => ⟨rfl, rfl, fun h => absurd h (by decide +kernel), fun _ => q⟩⟩⟩
  | note i m =>
    exact ⟨_, rfl, fun h => absurd h (by decide +kernel), fun _ => ⟨fun h => absurd h (by decide +kernel), fun _ => ⟨rfl, rfl, fun h => absurd h (by decide +kernel), fun _ => q⟩⟩⟩
  | ask i d => cases ha
theorem red_state_after (cs : Cs) : ∀ ds M Φ Ψ, S_state_after cs ds M Φ Ψ → r_state_after cs (ends Φ) (startD 3 ds) M := by
  rintro ds M Φ Ψ ⟨b, L, s, dd, n, rfl, hb, hL, hs, hd, ha, q⟩
  have s100 : s.length ≤ 100 := by rw [hs.1]; exact Nat.le_trans hL.1 (by decide)
  cases dd with
  | put i x =>
    obtain ⟨nm, k, e⟩ := hd
    have hi : i < s.length := by rw [hs.1]; exact lt_of_some e
    refine ⟨_, rfl, fun _ => ?_, fun h => absurd h (by decide +kernel)⟩
    exact ⟨_, rfl, _, rfl, s, i, (x : Nat), rfl, hi, s100, q⟩
  | note i m =>
    obtain ⟨nm, t, e, hm⟩ := hd
    obtain ⟨x, h1, h2⟩ := hs.2 i nm t e
    refine ⟨_, rfl, fun h => absurd h (by decide +kernel), fun _ => ⟨_, rfl, fun _ => ?_, fun h => absurd h (by decide +kernel)⟩⟩
    refine ⟨_, rfl, _, rfl, b, L, s, i, nm, t, x, m, rfl, hb, e, hL.at e, h1, h2, hm, s100, ?_⟩
    have q' : Φ (S3 (s.set i (tbAt L i (s.getD i 0).toNat m : Nat))) M := q
    have e1 : s.getD i 0 = (x : Int) := by rw [List.getD_eq_getElem?_getD, h1] <;> rfl
    have e2 : tbAt L i (s.getD i 0).toNat m = tabAt t x m := by
      rw [e1]
      unfold tbAt
      rw [e] <;> rfl
    rw [e2] at q'
    exact q'
  | ask i d => cases ha
  | _ => exact ⟨_, rfl, fun h => absurd h (by decide +kernel), fun _ => ⟨_, rfl, fun h => absurd h (by decide +kernel), fun _ => q⟩⟩
theorem red_takes_number (cs : Cs) : ∀ ds M Φ Ψ, S_takes_number cs ds M Φ Ψ → r_takes_number cs (ends Φ) (startD 1 ds) M := by
  rintro ds M Φ Ψ ⟨dd, rfl, q⟩
  have key : ∀ x : Str, inD (.str x) [.str (Str.ofString "choose"), .str (Str.ofString "draw"), .str (Str.ofString "ask")] = dd.tk → Φ (.bl (inD (.str x) [.str (Str.ofString "choose"), .str (Str.ofString "draw"), .str (Str.ofString "ask")])) M := fun x e => by
    rw [e]
    exact q
  cases dd <;> exact ⟨_, rfl, rfl, rfl, key _ (by simp only [Dd.tk]; decide +kernel)⟩
theorem red_step_of (cs : Cs) : ∀ ds M Φ Ψ, S_step_of cs ds M Φ Ψ → r_step_of cs (ends Φ) (startD 5 ds) M := by
  rintro ds M Φ Ψ ⟨b, L, s, dd, n, rfl, hb, hL, hs, hd, hn, q⟩
  cases dd with
  | ask i d =>
    obtain ⟨nm, ar, e, hdl⟩ := id hd
    have hi : i < L.length := lt_of_some e
    refine ⟨_, rfl, fun _ => ?_, fun h => absurd h (by decide +kernel)⟩
    refine ⟨b, L, s, n, i, d, rfl, hb, hL, hd, hs.1, hn, ?_⟩
    refine ⟨_, rfl, _, rfl, _, rfl, ?_⟩
    show dAddT (S3 (entF L (n / (arAt L i d : Nat)) i)) (.tup (DL.cutD (stD s) (some (((i + 1 : Nat) : Int) - 1)) none)) (fun y => Φ (.tup [.int (n % (arAt L i d : Nat)), y, .tup [askT L s n i d]]) M)
    rw [cut_hi (show ((i + 1 : Nat) : Int) - 1 = (i : Nat) by omega)]
    refine ⟨by rw [stD_len, stD_len, entF_len, List.length_drop, hs.1]; exact sz (by have := hL.1; omega), ?_⟩
    rw [stD_app]
    exact q
  | _ =>
    refine ⟨_, rfl, fun h => absurd h (by decide +kernel), fun _ => ?_⟩
    exact ⟨L, s, _, n, rfl, hd, rfl, hs.1, b, L, s, _, n, rfl, hb, hL, hs, hd, rfl, q⟩
end My

set_option Elab.async false
set_option linter.all false
set_option maxRecDepth 100000
set_option maxHeartbeats 4000000
namespace My
open PySem PySem.Spec PyProof.Rows L2 DL
open Evl (Ex)
/-! ### the play -/
theorem BookAt.mono {cs : Cs} {M M' : Mem} {b : Addr} {L : List Ly} (h : BookAt cs M b L) (e : M' b = M b) : BookAt cs M' b L := by
  obtain ⟨h5, kern, d, hb⟩ := h
  exact ⟨h5, kern, d, by rw [e]; exact hb⟩
theorem PlayAt.mono {cs : Cs} {M M' : Mem} {p b q : Addr} {L : List Ly} {s sc : List Int} {tk dn : Nat} {tr : List D} (h : PlayAt cs M p b q L s sc tk dn tr) (e : ∀ a, a = b ∨ a = p ∨ a = q → M' a = M a) : PlayAt cs M' p b q L s sc tk dn tr :=
  ⟨h.bk.mono (e b (.inl rfl)), by rw [e p (.inr (.inl rfl))]; exact h.pl, by rw [e q (.inr (.inr rfl))]; exact h.tr, h.bp, h.bq, h.qp⟩
/-- a field of the play is stored -/
theorem PlayAt.put {cs : Cs} {M : Mem} {p b q : Addr} {L : List Ly} {s sc s' sc' : List Int} {tk dn tk' dn' : Nat} {tr : List D} (h : PlayAt cs M p b q L s sc tk dn tr) : PlayAt cs (updM M p (.ins cs.Play (plF b s' sc' tk' dn' q))) p b q L s' sc' tk' dn' tr :=
  ⟨h.bk.mono (updM_ne h.bp), updM_same, by rw [updM_ne h.qp]; exact h.tr, h.bp, h.bq, h.qp⟩
theorem PlayAt.putT {cs : Cs} {M : Mem} {p b q : Addr} {L : List Ly} {s sc : List Int} {tk dn : Nat} {tr tr' : List D} (h : PlayAt cs M p b q L s sc tk dn tr) : PlayAt cs (updM M q (.lst tr')) p b q L s sc tk dn tr' :=
  ⟨h.bk.mono (updM_ne h.bq), by rw [updM_ne (Ne.symm h.qp)]; exact h.pl, updM_same, h.bp, h.bq, h.qp⟩
theorem red_Play_init (cs : Cs) : ∀ ds M Φ Ψ, S_Play_init cs ds M Φ Ψ → r_Play_init cs (ends Φ) (startD 4 ds) M := by
  rintro ds M Φ Ψ ⟨p, b, L, s, sc, rfl, hp, hb, q⟩
  have bp : b ≠ p := fun e => by
    subst e
    obtain ⟨_, kern, d, hb⟩ := hb
    rw [hp] at hb
    have h2 : ([] : List (Str × D)) = bkF kern L d := (OD.ins.inj (Option.some.inj hb)).2
    unfold bkF at h2
    cases h2
  refine ⟨_, hp, (by show 0 < 1000; decide), ?_⟩
  refine ⟨_, updM_same, (by show 1 < 1000; decide), ?_⟩
  refine ⟨_, updM_same, (by show 2 < 1000; decide), ?_⟩
  refine ⟨_, updM_same, (by show 3 < 1000; decide), ?_⟩
  refine ⟨_, updM_same, (by show 4 < 1000; decide), ?_⟩
  intro t ht
  rw [updM_updM, updM_updM, updM_updM, updM_updM] at ht ⊢
  have tp : t ≠ p := fun e => by
    subst e
    rw [updM_same] at ht
    cases ht
  refine ⟨_, by rw [updM_ne (Ne.symm tp), updM_same], (by show 5 < 1000; decide), ?_⟩
  have tb : b ≠ t := fun e => by
    subst e
    rw [updM_ne bp] at ht
    obtain ⟨_, kern, d, hb⟩ := hb
    rw [ht] at hb
    cases hb
  refine q _ t ⟨hb.mono ?_, updM_same, ?_, bp, tb, tp⟩
  · rw [updM_ne bp, updM_ne tb, updM_ne bp]
  · rw [updM_ne tp, updM_same]
theorem red_Play_number (cs : Cs) : ∀ ds M Φ Ψ, S_Play_number cs ds M Φ Ψ → r_Play_number cs (ends Φ) (startD 1 ds) M := by
  rintro ds M Φ Ψ ⟨p, b, q, L, s, sc, tk, dn, tr, rfl, h, k⟩
  have k1 := k (updM M p (.ins cs.Play (plF b s sc (tk + 1) dn q))) h.put (fun a ha => updM_ne ha)
  refine ⟨_, _, h.pl, rfl, _, h.pl, (by show 6 < 1000; decide), ?_⟩
  show r_Play_number_1 cs (ends Φ) [.d (.ref p)] (updM M p (.ins cs.Play (plF b s sc (tk + 1) dn q)))
  refine ⟨_, _, updM_same, rfl, _, _, updM_same, rfl, fun hc => ?_, fun hc => ?_⟩
  · have hc := of_decide_eq_true hc
    have hl : tk < sc.length := by
      rw [show ((stD sc).length : Int) = (sc.length : Nat) by rw [stD_len]] at hc
      omega
    exact ⟨_, _, updM_same, rfl, _, _, updM_same, rfl, _, ix_nat (show ((tk + 1 : Nat) : Int) - 1 = (tk : Nat) by omega) (stD_at (getD_at hl)), k1⟩
  · have hc := of_decide_eq_false hc
    have hl : sc.length ≤ tk := by
      rw [show ((stD sc).length : Int) = (sc.length : Nat) by rw [stD_len]] at hc
      omega
    have e : sc.getD tk 0 = 0 := by rw [List.getD_eq_getElem?_getD, List.getElem?_eq_none hl] <;> rfl
    rw [e] at k1
    exact k1
theorem red_Play_answer (cs : Cs) : ∀ ds M Φ Ψ, S_Play_answer cs ds M Φ Ψ → r_Play_answer cs (ends Φ) (startD 5 ds) M := by
  rintro ds M Φ Ψ ⟨p, b, q, L, s, sc, tk, dn, tr, dd, rfl, h, hL, hs, hd, hsc, htr, k⟩
  have nn : 0 ≤ numF sc tk dd := by
    unfold numF
    split
    · by_cases c : tk < sc.length
      · exact hsc _ (List.mem_of_getElem? (getD_at c))
      · rw [List.getD_eq_getElem?_getD, List.getElem?_eq_none (by omega)]
        exact Int.le_refl _
    · exact Int.le_refl _
  -- behind the number
  have rest : ∀ M1 tk1, PlayAt cs M1 p b q L s sc tk1 dn tr → (∀ a, a ≠ p → M1 a = M a) → tk1 = (if dd.tk then tk + 1 else tk) →
      r_Play_answer_1 cs (ends Φ) [.d (.ref p), .d dd.d, .d (.int (numF sc tk dd)), .un, .un] M1 := by
    intro M1 tk1 h1 hM e1
    refine ⟨_, _, h1.pl, rfl, _, _, h1.pl, rfl, b, L, s, dd, _, rfl, h1.bk, hL, hs, hd, nn, rfl, _, h1.pl, (by show 6 < 1000; decide), ?_⟩
    show r_Play_answer_2 cs (ends Φ) [.d (.ref p), .d dd.d, .d (.int (numF sc tk dd)), .d (.int (wayF L s (numF sc tk dd) dd)), .d (.tup (tldF L s (numF sc tk dd) dd))] (updM M1 p (.ins cs.Play (plF b (aftF L s (numF sc tk dd) dd) sc tk1 dn q)))
    have h2 := h1.put (s' := aftF L s (numF sc tk dd) dd) (sc' := sc) (tk' := tk1) (dn' := dn)
    have tl : (tldF L s (numF sc tk dd) dd).length ≤ 1 := by
      cases dd <;> first | exact Nat.zero_le _ | exact Nat.le_refl _
    refine ⟨_, _, h2.pl, rfl, ⟨_, h2.tr⟩, _, h2.tr, sz (by omega), ?_⟩
    have h3 := h2.putT (tr' := tr ++ tldF L s (numF sc tk dd) dd)
    refine ⟨_, _, h3.pl, rfl, _, h3.pl, (by show 6 < 1000; decide), ?_⟩
    have h4 := h3.put (s' := aftF L s (numF sc tk dd) dd) (sc' := sc) (tk' := tk1) (dn' := dn + 1)
    rw [e1] at h4
    have k1 := k _ h4 (fun a h5 h6 => by rw [updM_ne h5, updM_ne h6, updM_ne h5, hM a h5])
    rw [← e1] at k1
    exact k1
  refine ⟨dd, rfl, bsI ?_⟩
  cases ht : dd.tk with
  | true =>
    refine ⟨⟨_, h.pl, rfl⟩, p, b, q, L, s, sc, tk, dn, tr, rfl, h, fun M1 h1 hM => ?_⟩
    have e : numF sc tk dd = sc.getD tk 0 := by unfold numF; rw [if_pos ht]
    have r1 := rest M1 (tk + 1) h1 hM (by rw [if_pos ht])
    rw [e] at r1
    exact r1
  | false =>
    have e : numF sc tk dd = 0 := by unfold numF; rw [if_neg (by rw [ht]; decide)]
    have r1 := rest M tk h (fun _ _ => rfl) (by rw [if_neg (by rw [ht]; decide)])
    rw [e] at r1
    exact r1
theorem red_Play_restore (cs : Cs) : ∀ ds M Φ Ψ, S_Play_restore cs ds M Φ Ψ → r_Play_restore cs (ends Φ) (startD 4 ds) M := by
  rintro ds M Φ Ψ ⟨p, b, q, L, s, sc, tk, dn, tr, m, old, rfl, h, hm, h5, hs, ho, k⟩
  obtain ⟨_, kern, d, hbk⟩ := id h.bk
  refine ⟨_, _, h.pl, rfl, _, _, hbk, rfl, ⟨by omega, by omega, by omega, by omega⟩, ?_⟩
  rw [show ((L.length : Int) + 1 - ((m : Int) + 1)).toNat = L.length - m by omega]
  refine ⟨fun i Δ M' => Δ = [.d (.ref p), .d (ni m), .d (S3 old), .un] ∧ PlayAt cs M' p b q L (backF L s old m (m + i)) sc tk dn tr ∧ ∀ a, a ≠ p → M' a = M a, ⟨rfl, ?_, fun _ _ => rfl⟩, ?_, ?_⟩
  · rw [backF_zero hs (by omega)]
    exact h
  · rintro i x Δ1 M1 hx ⟨rfl, h1, hM⟩
    obtain ⟨hi, rfl⟩ := rangeD_some hx
    have hl := at_lt (show m + i < L.length by omega)
    obtain ⟨_, kern1, d1, hb1⟩ := id h1.bk
    refine ⟨_, _, h1.pl, rfl, ⟨_, hb1, rfl⟩, b, L, _, m + i, _, rfl, h1.bk, ⟨by omega, hl⟩, rfl, rfl, bsE (w_cn _) ?_⟩
    cases e : (L[m + i]'(by omega)).isCN with
    | true =>
      refine ⟨_, _, h1.pl, rfl, _, ix_nat (show (m : Int) + 1 + (i : Int) - 1 = ((m + i : Nat) : Int) by omega) (stD_at (getD_at (by omega))), backF L s old m (m + i), m + i, old.getD (m + i) 0, ?_, by rw [backF_len]; omega, by rw [backF_len]; omega, _, h1.pl, (by show 6 < 1000; decide), rfl, ?_, fun a ha => ?_⟩
      · show [S3 _, D.int ((m : Int) + 1 + (i : Nat)), D.int _] = [S3 _, D.int (((m + i : Nat) : Int) + 1), D.int _]
        rw [show (m : Int) + 1 + (i : Nat) = ((m + i : Nat) : Int) + 1 by omega]
      · rw [backF_set (by omega) (by omega) (by rw [cnAt_of hl, e])]
        exact h1.put
      · rw [updM_ne ha, hM a ha]
    | false =>
      refine ⟨rfl, ?_, hM⟩
      rw [backF_skip (by rw [cnAt_of hl, e])] at h1
      exact h1
  · rintro Δ1 M1 ⟨rfl, h1, hM⟩
    rw [rangeD_len, show m + (L.length - m) = L.length by omega] at h1
    exact k M1 h1 hM
theorem red_Play_outcome (cs : Cs) : ∀ ds M Φ Ψ, S_Play_outcome cs ds M Φ Ψ → r_Play_outcome cs (ends Φ) (startD 2 ds) M := by
  rintro ds M Φ Ψ ⟨p, b, q, L, s, sc, tk, dn, tr, e, rfl, h, hs, he, k⟩
  exact ⟨_, _, h.pl, rfl, _, h.tr, _, _, h.pl, rfl, _, _, h.pl, rfl, b, L, s, e, rfl, h.bk, hs, he, k⟩
end My

set_option Elab.async false
set_option linter.all false
set_option maxRecDepth 100000
set_option maxHeartbeats 4000000
namespace My
open PySem PySem.Spec PyProof.Rows L2 DL
open Evl (Ex)
/-! ### the book's checks -/
theorem dF {p : Prop} [Decidable p] {P : Prop} (h : p) (e : decide p = false) : P := absurd h (of_decide_eq_false e)
theorem bF {b : Bool} {P : Prop} (h : b = true) (e : b = false) : P := tf (h.symm.trans e)
theorem neI {i j : Int} {P : Prop} (e : i = j) (h : (!decide (i = j)) = true) : P := by
  rw [decide_eq_true e] at h
  cases h
theorem red_is_name (cs : Cs) : ∀ ds M Φ Ψ, S_is_name cs ds M Φ Ψ → r_is_name cs (ends Φ) (startD 1 ds) M := by
  rintro ds M Φ Ψ ⟨x, rfl, ⟨h1, h2, h3, h4⟩, q⟩
  refine ⟨sz (by omega), fun _ => ⟨fun _ => ⟨fun _ => ?_, fun e => bF h3 e⟩, fun e => bF h2 e⟩, fun e => dF (by show ((x.length : Nat) : Int) ≤ 6; omega) e⟩
  show Φ (.bl (Txt.islower x)) M
  rw [h4]
  exact q
theorem red_is_associative (cs : Cs) : ∀ ds M Φ Ψ, S_is_associative cs ds M Φ Ψ → r_is_associative cs (ends Φ) (startD 5 ds) M := by
  rintro ds M Φ Ψ ⟨t, rfl, ht, ha, q⟩
  have h6 : t.length ≤ 6 := ht.2.1
  show r_is_associative_1 cs (ends Φ) [.d (tabD t), .d (.rng 0 ((t.map rowD).length : Nat)), .un, .un, .un] M
  rw [List.length_map]
  have bd : (-(2 ^ 62 : Int) ≤ 0 ∧ (0 : Int) < 2 ^ 62 ∧ -(2 ^ 62 : Int) ≤ (t.length : Nat) ∧ ((t.length : Nat) : Int) < 2 ^ 62) := ⟨by decide, by decide, by omega, by omega⟩
  have e0 : (((t.length : Nat) : Int) - 0).toNat = t.length := by omega
  refine ⟨bd, ?_⟩
  rw [e0]
  refine loop_by (j := 2) (fun _ => [.d (tabD t), .d (.rng 0 (t.length : Nat)), .un, .un, .un]) rfl ?_ q
  intro a x hx
  obtain ⟨hi, rfl⟩ := rangeD_some hx
  refine ⟨bd, ?_⟩
  rw [e0]
  refine loop_by (j := 3) (fun _ => [.d (tabD t), .d (.rng 0 (t.length : Nat)), .d (.int (0 + (a : Int))), .un, .un]) rfl ?_ ⟨rfl, rfl⟩
  intro b x hx
  obtain ⟨hj, rfl⟩ := rangeD_some hx
  refine ⟨bd, ?_⟩
  rw [e0]
  refine loop_by (j := 4) (fun _ => [.d (tabD t), .d (.rng 0 (t.length : Nat)), .d (.int (0 + (a : Int))), .d (.int (0 + (b : Int))), .un]) rfl ?_ ⟨rfl, rfl⟩
  intro c x hx
  obtain ⟨hk, rfl⟩ := rangeD_some hx
  obtain ⟨l1, ra, a1, a2⟩ := tabAt_lt ht hi hj
  obtain ⟨_, rv, v1, v2⟩ := tabAt_lt ht l1 hk
  obtain ⟨l3, rb, b1, b2⟩ := tabAt_lt ht hj hk
  obtain ⟨_, rc, c1, c2⟩ := tabAt_lt ht hi l3
  rw [a1] at c1
  cases c1
  refine ⟨_, ix_nat (Int.zero_add _) (tab_at a1), _, ix_nat (Int.zero_add _) (row_at a2), _, ix_nat rfl (tab_at v1), _, ix_nat (Int.zero_add _) (row_at v2), _, ix_nat (Int.zero_add _) (tab_at a1), _, ix_nat (Int.zero_add _) (tab_at b1), _, ix_nat (Int.zero_add _) (row_at b2), _, ix_nat rfl (row_at c2), fun h => ?_, fun _ => ⟨rfl, rfl⟩⟩
  exact neI (by rw [ha a b c hi hj hk]) h
theorem fold_lo {lo : Int} : ∀ {ns : List Int} {n : Int}, lo ≤ n → (∀ x ∈ ns, lo ≤ x) → lo ≤ ns.foldl min n
  | [], _, h, _ => h
  | m :: ns, n, h, g => fold_lo (ns := ns) (by have := g m (List.mem_cons_self ..); omega) fun x hx => g x (List.mem_cons_of_mem _ hx)
theorem fold_hi {hi : Int} : ∀ {ns : List Int} {n : Int}, n ≤ hi → (∀ x ∈ ns, x ≤ hi) → ns.foldl max n ≤ hi
  | [], _, h, _ => h
  | m :: ns, n, h, g => fold_hi (ns := ns) (by have := g m (List.mem_cons_self ..); omega) fun x hx => g x (List.mem_cons_of_mem _ hx)
theorem row_lo {lo : Int} {ns : List Int} (h0 : ns ≠ []) (h : ∀ x ∈ ns, lo ≤ x) : lo ≤ foldI min ns := by
  cases ns with
  | nil => exact absurd rfl h0
  | cons n ns => exact fold_lo (h n (List.mem_cons_self ..)) fun x hx => h x (List.mem_cons_of_mem _ hx)
theorem row_hi {hi : Int} {ns : List Int} (h0 : ns ≠ []) (h : ∀ x ∈ ns, x ≤ hi) : foldI max ns ≤ hi := by
  cases ns with
  | nil => exact absurd rfl h0
  | cons n ns => exact fold_hi (h n (List.mem_cons_self ..)) fun x hx => h x (List.mem_cons_of_mem _ hx)
theorem row_ints (r : List Nat) : intsOf (r.map ni) = some (r.map fun x : Nat => (x : Int)) := by
  have := intsOf_map (r.map fun x : Nat => (x : Int))
  rw [List.map_map] at this
  exact this
theorem red_is_square (cs : Cs) : ∀ ds M Φ Ψ, S_is_square cs ds M Φ Ψ → r_is_square cs (ends Φ) (startD 3 ds) M := by
  rintro ds M Φ Ψ ⟨t, rfl, ht, q⟩
  show r_is_square_1 cs (ends Φ) [.d (tabD t), .d (.int ((t.map rowD).length : Nat)), .un] M
  rw [List.length_map]
  refine loop_by (j := 2) (fun _ => [.d (tabD t), .d (ni t.length), .un]) rfl ?_ q
  intro i x hx
  rw [List.getElem?_map] at hx
  obtain ⟨r, hr, rfl⟩ := Option.map_eq_some_iff.mp hx
  have hm := ht.2.2 r (List.mem_of_getElem? hr)
  have ne : (r.map fun x : Nat => (x : Int)) ≠ [] := by
    intro e
    have e2 := congrArg List.length e
    rw [List.length_map, hm.1] at e2
    have h2 := ht.1
    rw [List.length_nil] at e2
    omega
  refine ⟨fun h => neI (by rw [List.length_map, hm.1]) h, fun _ => ⟨_, row_ints r, ne, fun h => ?_, fun _ => ⟨_, row_ints r, ne, fun h => ?_, fun _ => ⟨rfl, rfl⟩⟩⟩⟩
  · have := row_lo (lo := 0) ne fun x hx => by
      obtain ⟨y, _, rfl⟩ := List.mem_map.mp hx
      omega
    have := of_decide_eq_true h
    omega
  · have g := row_hi (hi := (t.length : Int) - 1) ne fun x hx => by
      obtain ⟨y, hy, rfl⟩ := List.mem_map.mp hx
      have := hm.2 y hy
      omega
    have h := of_decide_eq_true h
    exact absurd (show ((t.length : Nat) : Int) ≤ foldI max (r.map fun x : Nat => (x : Int)) from h) (by omega)
theorem red_is_monoid (cs : Cs) : ∀ ds M Φ Ψ, S_is_monoid cs ds M Φ Ψ → r_is_monoid cs (ends Φ) (startD 2 ds) M := by
  rintro ds M Φ Ψ ⟨t, rfl, ht, ha, hu, q⟩
  have h2 : 2 ≤ t.length := ht.1
  have h6 : t.length ≤ 6 := ht.2.1
  have el : (t.map rowD).length = t.length := List.length_map ..
  refine ⟨fun _ => ⟨fun _ => ?_, fun e => dF (by show (((t.map rowD).length : Nat) : Int) ≤ 6; omega) e⟩, fun e => dF (by show (2 : Int) ≤ ((t.map rowD).length : Nat); omega) e⟩
  refine ⟨t, rfl, ht, bsI ?_⟩
  show r_is_monoid_1 cs (ends Φ) [.d (tabD t), .un] M
  refine ⟨⟨by omega, by omega⟩, ?_⟩
  rw [el, Int.toNat_natCast]
  refine loop_by (j := 1) (fun _ => [.d (tabD t), .un]) rfl ?_ ⟨t, rfl, ht, ha, q⟩
  intro m x hx
  obtain ⟨hi, rfl⟩ := rangeD_some hx
  obtain ⟨_, r0, a1, a2⟩ := tabAt_lt ht (show 0 < t.length by omega) hi
  obtain ⟨_, rm, b1, b2⟩ := tabAt_lt ht hi (show 0 < t.length by omega)
  obtain ⟨u1, u2⟩ := hu m hi
  refine ⟨_, ix_nat rfl (tab_at a1), _, ix_nat (Int.zero_add _) (row_at a2), fun h => neI (by rw [u1, Int.zero_add]) h, fun _ => ⟨_, ix_nat (Int.zero_add _) (tab_at b1), _, ix_nat rfl (row_at b2), fun h => neI (by rw [u2, Int.zero_add]) h, fun _ => ⟨rfl, rfl⟩⟩⟩
theorem red_is_layer (cs : Cs) : ∀ ds M Φ Ψ, S_is_layer cs ds M Φ Ψ → r_is_layer cs (ends Φ) (startD 4 ds) M := by
  rintro ds M Φ Ψ ⟨l, rfl, ⟨hok, hnm, hm⟩, q⟩
  have fin : ∀ {a b : Int}, a ≤ b → Φ (.bl (decide (a ≤ b))) M := fun h => by
    rw [decide_eq_true h]
    exact q
  cases l with
  | cell nm n =>
    obtain ⟨g1, g2⟩ : 2 ≤ n ∧ n ≤ 3 := hok
    refine ⟨rfl, nm, rfl, hnm, bsI ⟨rfl, rfl, bsE (b := false) (by simp only [Ly.w]; decide +kernel) ⟨fun h => tf (h.symm.trans (w_note (.cell nm n))), fun _ => ⟨fun h => tf (h.symm.trans (w_out (.cell nm n))), fun _ => ⟨fun h => tf (h.symm.trans (w_fail (.cell nm n))), fun _ => ?_⟩⟩⟩⟩⟩
    exact ⟨fun _ => fin (a := (n : Nat)) (b := 3) (by omega), fun e => dF (by show (2 : Int) ≤ (n : Nat); omega) e⟩
  | setting nm n =>
    obtain ⟨g1, g2⟩ : 2 ≤ n ∧ n ≤ 3 := hok
    refine ⟨rfl, nm, rfl, hnm, bsI ⟨rfl, rfl, bsE (b := false) (by simp only [Ly.w]; decide +kernel) ⟨fun h => tf (h.symm.trans (w_note (.setting nm n))), fun _ => ⟨fun h => tf (h.symm.trans (w_out (.setting nm n))), fun _ => ⟨fun h => tf (h.symm.trans (w_fail (.setting nm n))), fun _ => ?_⟩⟩⟩⟩⟩
    exact ⟨fun _ => fin (a := (n : Nat)) (b := 3) (by omega), fun e => dF (by show (2 : Int) ≤ (n : Nat); omega) e⟩
  | note nm t =>
    refine ⟨rfl, nm, rfl, hnm, bsI ⟨rfl, rfl, bsE (b := false) (by simp only [Ly.w]; decide +kernel) ⟨fun _ => ?_, fun h => tf ((w_note (.note nm t)).symm.trans h)⟩⟩⟩
    exact ⟨t, rfl, hok, hm.1, hm.2, q⟩
  | fail nm n =>
    obtain ⟨g1, g2⟩ : 1 ≤ n ∧ n ≤ 3 := hok
    refine ⟨rfl, nm, rfl, hnm, bsI ⟨rfl, rfl, bsE (b := false) (by simp only [Ly.w]; decide +kernel) ⟨fun h => tf (h.symm.trans (w_note (.fail nm n))), fun _ => ⟨fun h => tf (h.symm.trans (w_out (.fail nm n))), fun _ => ⟨fun _ => ?_, fun h => tf ((w_fail (.fail nm n)).symm.trans h)⟩⟩⟩⟩⟩
    exact ⟨fun _ => fin (a := (n : Nat)) (b := 3) (by omega), fun e => dF (by show (1 : Int) ≤ (n : Nat); omega) e⟩
  | outside nm ar =>
    obtain ⟨g1, g2, g3⟩ : 1 ≤ ar.length ∧ ar.length ≤ 2 ∧ ∀ x ∈ ar, 1 ≤ x ∧ x ≤ 3 := hok
    have el : (ar.map ni).length = ar.length := List.length_map ..
    have ne : (ar.map fun x : Nat => (x : Int)) ≠ [] := by
      intro e
      have e2 := congrArg List.length e
      rw [List.length_map, List.length_nil] at e2
      omega
    refine ⟨rfl, nm, rfl, hnm, bsI ⟨rfl, rfl, bsE (b := false) (by simp only [Ly.w]; decide +kernel) ⟨fun h => tf (h.symm.trans (w_note (.outside nm ar))), fun _ => ⟨fun _ => ?_, fun h => tf ((w_out (.outside nm ar)).symm.trans h)⟩⟩⟩⟩
    refine ⟨fun _ => ⟨fun _ => ?_, fun e => dF (by show (((ar.map ni).length : Nat) : Int) ≤ 2; omega) e⟩, fun e => dF (by show (1 : Int) ≤ ((ar.map ni).length : Nat); omega) e⟩
    refine ⟨_, row_ints ar, ne, fun _ => ⟨_, row_ints ar, ne, fin (b := 3) ?_⟩, fun e => dF (p := (1 : Int) ≤ foldI min (ar.map fun x : Nat => (x : Int))) ?_ e⟩
    · refine row_hi ne fun x hx => ?_
      obtain ⟨y, hy, rfl⟩ := List.mem_map.mp hx
      have := g3 y hy
      omega
    · refine row_lo ne fun x hx => ?_
      obtain ⟨y, hy, rfl⟩ := List.mem_map.mp hx
      have := g3 y hy
      omega
theorem prodF_app : ∀ (L K : List Ly), prodF (L ++ K) = prodF L * prodF K
  | [], K => (Nat.one_mul _).symm
  | l :: L, K => by
    show l.vals * prodF (L ++ K) = l.vals * prodF L * prodF K
    rw [prodF_app L K, Nat.mul_assoc]
theorem take_succ {α : Type} {L : List α} {i : Nat} {l : α} (h : L[i]? = some l) : L.take (i + 1) = L.take i ++ [l] := by
  rw [List.take_add_one, h] <;> rfl
theorem prodF_take {L : List Ly} {i : Nat} {l : Ly} (h : L[i]? = some l) : prodF (L.take (i + 1)) = prodF (L.take i) * l.vals := by
  rw [take_succ h, prodF_app]
  show _ * (l.vals * 1) = _
  rw [Nat.mul_one]
theorem prodF_le {L : List Ly} (h : LOk L) : ∀ i, i ≤ 5 → prodF (L.take i) ≤ 3 ^ i
  | 0, _ => by rw [List.take_zero] <;> exact Nat.le_refl _
  | i + 1, hi => by
    have h1 := prodF_le h i (by omega)
    cases e : L[i]? with
    | none =>
      have g : L.length ≤ i := List.getElem?_eq_none_iff.mp e
      rw [List.take_of_length_le g] at h1
      rw [List.take_of_length_le (by omega), Nat.pow_succ]
      omega
    | some l =>
      rw [prodF_take e, Nat.pow_succ]
      have g := (Ly.vals_le (h.at e))
      exact Nat.mul_le_mul h1 (by omega)
theorem red_states_of (cs : Cs) : ∀ ds M Φ Ψ, S_states_of cs ds M Φ Ψ → r_states_of cs (ends Φ) (startD 5 ds) M := by
  rintro ds M Φ Ψ ⟨L, rfl, hL, q⟩
  refine ⟨fun i Δ M' => Δ = [.d (lysD L), .d (ni (prodF (L.take i))), .un, .un, .un] ∧ M' = M, ⟨rfl, rfl⟩, ?_, ?_⟩
  · rintro i x Δ1 M1 hx ⟨rfl, rfl⟩
    rw [List.getElem?_map] at hx
    obtain ⟨l, hl, rfl⟩ := Option.map_eq_some_iff.mp hx
    have hi : i < L.length := lt_of_some hl
    have h5 := hL.1
    have p := prodF_le hL i (by omega)
    have p5 := pow5 (show i ≤ 5 by omega)
    have e1 := prodF_take hl
    have up : ∀ {k : Nat}, k = prodF (L.take (i + 1)) → ([.d (lysD L), .d (ni k), .un, .un, .un] : List Sl) = [.d (lysD L), .d (ni (prodF (L.take (i + 1)))), .un, .un, .un] := fun e => by rw [e]
    refine ⟨rfl, rfl, rfl, bsE (w_val l) ?_⟩
    have hk := hL.at hl
    have big : ∀ {n : Nat}, n ≤ 3 → prodF (L.take (i + 1)) = prodF (L.take i) * n → ([.d (lysD L), .d (.int (((prodF (L.take i) : Nat) : Int) * (n : Nat))), .un, .un, .un] : List Sl) = [.d (lysD L), .d (ni (prodF (L.take (i + 1)))), .un, .un, .un] := fun h e => by
      rw [e]
      show _ = [_, Sl.d (.int (((prodF (L.take i) * _ : Nat)) : Int)), _, _, _]
      rw [Int.natCast_mul]
    cases l with
    | cell nm n =>
      obtain ⟨g1, g2⟩ : 2 ≤ n ∧ n ≤ 3 := hk
      exact ⟨.inl (.inl ⟨by omega, by omega⟩), big g2 e1, rfl⟩
    | setting nm n =>
      obtain ⟨g1, g2⟩ : 2 ≤ n ∧ n ≤ 3 := hk
      exact ⟨.inl (.inl ⟨by omega, by omega⟩), big g2 e1, rfl⟩
    | _ => exact ⟨up (by rw [e1]; exact (Nat.mul_one _).symm), rfl⟩
  · rintro Δ1 M1 ⟨rfl, rfl⟩
    rw [List.length_map, List.take_length]
    exact q
end My

set_option Elab.async false
set_option linter.all false
set_option maxRecDepth 100000
set_option maxHeartbeats 4000000
namespace My
open PySem PySem.Spec PyProof.Rows L2 DL
open Evl (Ex)
/-! ### a new book -/
theorem notin_take {L : List Ly} (h : (L.map Ly.nm).Nodup) {i : Nat} {l : Ly} (e : L[i]? = some l) : l.nm ∉ (L.take i).map Ly.nm := by
  intro hm
  obtain ⟨j, hj⟩ := List.mem_iff_getElem?.mp hm
  rw [List.getElem?_map] at hj
  obtain ⟨l2, h2, h3⟩ := Option.map_eq_some_iff.mp hj
  have hji : j < i := by
    have := lt_of_some h2
    rw [List.length_take] at this
    omega
  rw [List.getElem?_take, if_pos hji] at h2
  have hjl : j < (L.map Ly.nm).length := by rw [List.length_map]; exact lt_of_some h2
  have := (List.getElem?_inj (j := i) hjl h).mp (by rw [List.getElem?_map, List.getElem?_map, h2, e]; show some _ = some _; rw [h3])
  omega
theorem getD_none {kvs : List (Key × D)} {k : Key} (h : k ∉ kvs.map Prod.fst) : getD kvs k = none := by
  unfold getD
  rw [List.find?_eq_none.mpr]
  · rfl
  · intro x hx hd
    exact h (List.mem_map.mpr ⟨x, hx, of_decide_eq_true hd⟩)
theorem putKD_new {kvs : List (Key × D)} {k : Key} {d : D} (h : k ∉ kvs.map Prod.fst) : putKD kvs k d = kvs ++ [(k, d)] := by
  unfold putKD
  rw [if_neg]
  intro ha
  obtain ⟨x, hx, hd⟩ := List.any_eq_true.mp ha
  exact h (List.mem_map.mpr ⟨x, hx, of_decide_eq_true hd⟩)
theorem red_Book_init (cs : Cs) : ∀ ds M Φ Ψ, S_Book_init cs ds M Φ Ψ → r_Book_init cs Ψ (ends Φ) (startD 5 ds) M := by
  rintro ds M Φ Ψ ⟨b, kern, L, rfl, hb, hk, hL, hG, hN, h12, q⟩
  have h5 := hL.1
  have el : (L.map Ly.d).length = L.length := List.length_map ..
  refine ⟨hk, fun h => ff h, fun _ => ⟨fun h => ?_, fun _ => ?_⟩⟩
  · have h : ((L.map Ly.d).length : Nat) > (5 : Int) := of_decide_eq_true h
    omega
  refine ⟨_, hb, (by show 0 < 1000; decide), ?_⟩
  refine ⟨_, updM_same, (by show 1 < 1000; decide), ?_⟩
  refine ⟨_, _, updM_same, rfl, ?_⟩
  refine ⟨_, updM_same, (by show 2 < 1000; decide), ?_⟩
  intro d hd
  rw [updM_updM, updM_updM] at hd ⊢
  have db : d ≠ b := fun e => by
    subst e
    rw [updM_same] at hd
    cases hd
  refine ⟨_, by rw [updM_ne (Ne.symm db), updM_same], (by show 3 < 1000; decide), ?_⟩
  refine ⟨_, _, updM_same, rfl, ?_⟩
  refine ⟨fun i Δ M' => Δ = [.d (.ref b), .d (.str kern), .d (lysD L), .un, .un] ∧ M' b = some (.ins cs.Book (bkF kern L d)) ∧ ∃ kvs, M' d = some (.dct kvs) ∧ kvs.map Prod.fst = (L.take i).map fun l => (.inr l.nm : Key), ⟨rfl, ?_, [], ?_, rfl⟩, ?_, ?_⟩
  · rw [updM_same]
    unfold bkF
    rw [← el] <;> rfl
  · rw [updM_ne db, updM_same]
  · rintro i x Δ1 M1 hx ⟨rfl, h1, kvs, h2, h3⟩
    obtain ⟨y, hy, rfl⟩ := enumD_get 0 i _ x hx
    rw [List.getElem?_map] at hy
    obtain ⟨l, hl, rfl⟩ := Option.map_eq_some_iff.mp hy
    have hi := lt_of_some hl
    have fresh : (.inr l.nm : Key) ∉ kvs.map Prod.fst := by
      rw [h3]
      intro hm
      obtain ⟨l2, g1, g2⟩ := List.mem_map.mp hm
      exact notin_take hN hl (List.mem_map.mpr ⟨l2, g1, Sum.inr.inj g2⟩)
    have kl : kvs.length ≤ 5 := by
      have := congrArg List.length h3
      rw [List.length_map, List.length_map, List.length_take] at this
      omega
    refine ⟨rfl, l, rfl, hG l (List.mem_of_getElem? hl), bsI ⟨_, rfl, _, _, h1, rfl, kvs, _, h2, rfl, ?_⟩⟩
    refine ⟨fun h => bF h (by rw [getD_none fresh] <;> rfl), fun _ => ?_⟩
    refine ⟨_, _, h1, rfl, _, rfl, kvs, _, h2, rfl, by omega, rfl, ?_, ?_⟩
    · rw [updM_ne (Ne.symm db)]
      exact h1
    · refine ⟨_, updM_same, ?_⟩
      rw [putKD_new fresh, List.map_append, h3, take_succ hl, List.map_append] <;> rfl
  · rintro Δ1 M1 ⟨rfl, h1, _⟩
    refine ⟨_, _, h1, rfl, L, rfl, hL, fun h => ?_, fun _ => ?_⟩
    · have h : ((prodF L : Nat) : Int) > 12 := of_decide_eq_true h
      omega
    · exact q _ ⟨h5, kern, d, h1⟩
end My

set_option Elab.async false
set_option linter.all false
set_option maxRecDepth 100000
set_option maxHeartbeats 4000000
namespace My
open PySem PySem.Spec PyProof.Rows L2 DL
open Evl (Ex)
/-! ### the law's own -/
theorem red_law_book (cs : Cs) : ∀ ds M Φ Ψ, S_law_book cs ds M Φ Ψ → r_law_book cs (ends Φ) (startD 7 ds) M := by
  rintro ds M Φ Ψ ⟨k, rfl, hk, q⟩
  obtain ⟨m, hm⟩ : ∃ m : Nat, k % 4 = m := ⟨(k % 4).toNat, by omega⟩
  rw [hm, Int.toNat_natCast] at q
  have h4 : m < 4 := by omega
  refine ⟨(by show (0 : Int) < 4; decide), _, ix_nat (i := m) hm ?_, q⟩
  match m, h4 with
  | 0, _ => rfl
  | 1, _ => rfl
  | 2, _ => rfl
  | 3, _ => rfl
theorem keep_step {L : List Ly} {s : List Int} {m i : Nat} {x : Int} (h : i < m) (e : (if setAt L i = true then 0 else s.getD i 0) = x) : stD ((keepF L s m).take i) ++ [.int x] = stD ((keepF L s m).take (i + 1)) := by
  have h1 : (keepF L s m)[i]? = some x := by
    show (keptF L s m m)[i]? = _
    rw [keptF_at h, ← e]
    congr 1
    by_cases c : setAt L i = true
    · rw [if_pos ⟨h, c⟩, if_pos c]
    · rw [if_neg (fun z => c z.2), if_neg c]
  rw [take_succ h1, ← stD_app] <;> rfl
theorem red_law_kept (cs : Cs) : ∀ ds M Φ Ψ, S_law_kept cs ds M Φ Ψ → r_law_kept cs (ends Φ) (startD 5 ds) M := by
  rintro ds M Φ Ψ ⟨L, m, s, x, rfl, hx, h5, hm, hs, q⟩
  have kl : (keepF L s m).length = m := keptF_len ..
  have fin : Φ (.tup (stD ((keepF L s m).take m))) M := by
    rw [List.take_of_length_le (by omega)]
    exact q
  have em : ((m : Int) + 1 - 1).toNat = m := by omega
  rcases hx with rfl | rfl
  · refine ⟨⟨by omega, by omega⟩, ?_⟩
    rw [em]
    refine loop_by (j := 4) (fun i => [.d (lysD L), .d (S3 s), .d (.int ((m : Int) + 1)), .own (stD ((keepF L s m).take i)), .un]) rfl ?_ ?_
    · intro i x hx
      obtain ⟨hi, rfl⟩ := rangeD_some hx
      obtain ⟨l, hl⟩ : ∃ l, L[i]? = some l := ⟨_, at_lt (by omega)⟩
      have at1 : (L.map Ly.d)[i]? = some l.d := by rw [List.getElem?_map, hl] <;> rfl
      have lt : (stD ((keepF L s m).take i)).length < sizeLine := by
        rw [stD_len, List.length_take, sizeLine_eq]
        omega
      refine ⟨_, ix_nat (Int.zero_add _) at1, _, rfl, fun h => ?_, fun h => ?_⟩
      · have e : l.isSet = true := (w_set _).symm.trans h
        refine ⟨⟨_, rfl⟩, lt, ?_, rfl⟩
        show [_, _, _, Sl.own (stD ((keepF L s m).take i) ++ [.int 0]), Sl.un] = _
        rw [keep_step hi (by rw [setAt_of hl, e] <;> rfl)]
      · have e : l.isSet = false := (w_set _).symm.trans h
        refine ⟨⟨_, rfl⟩, _, ix_nat (Int.zero_add _) (stD_at (getD_at (by omega))), lt, ?_, rfl⟩
        show [_, _, _, Sl.own (stD ((keepF L s m).take i) ++ [.int (s.getD i 0)]), Sl.un] = _
        rw [keep_step hi (by rw [setAt_of hl, e] <;> rfl)]
    · rw [rangeD_len]
      exact fin
  · refine ⟨⟨by omega, by omega⟩, ?_⟩
    rw [em]
    refine loop_by (j := 4) (fun i => [.d (lysD L), .d (SL s), .d (.int ((m : Int) + 1)), .own (stD ((keepF L s m).take i)), .un]) rfl ?_ ?_
    · intro i x hx
      obtain ⟨hi, rfl⟩ := rangeD_some hx
      obtain ⟨l, hl⟩ : ∃ l, L[i]? = some l := ⟨_, at_lt (by omega)⟩
      have at1 : (L.map Ly.d)[i]? = some l.d := by rw [List.getElem?_map, hl] <;> rfl
      have lt : (stD ((keepF L s m).take i)).length < sizeLine := by
        rw [stD_len, List.length_take, sizeLine_eq]
        omega
      refine ⟨_, ix_nat (Int.zero_add _) at1, _, rfl, fun h => ?_, fun h => ?_⟩
      · have e : l.isSet = true := (w_set _).symm.trans h
        refine ⟨⟨_, rfl⟩, lt, ?_, rfl⟩
        show [_, _, _, Sl.own (stD ((keepF L s m).take i) ++ [.int 0]), Sl.un] = _
        rw [keep_step hi (by rw [setAt_of hl, e] <;> rfl)]
      · have e : l.isSet = false := (w_set _).symm.trans h
        refine ⟨⟨_, rfl⟩, _, ix_nat (Int.zero_add _) (stD_at (getD_at (by omega))), lt, ?_, rfl⟩
        show [_, _, _, Sl.own (stD ((keepF L s m).take i) ++ [.int (s.getD i 0)]), Sl.un] = _
        rw [keep_step hi (by rw [setAt_of hl, e] <;> rfl)]
    · rw [rangeD_len]
      exact fin
theorem red_law_back (cs : Cs) : ∀ ds M Φ Ψ, S_law_back cs ds M Φ Ψ → r_law_back cs (ends Φ) (startD 6 ds) M := by
  rintro ds M Φ Ψ ⟨L, s, old, m, rfl, h5, hm, hs, ho, q⟩
  show dForR2 5 [5] (dVar 2) (dC (.int ((L.map Ly.d).length : Nat))) (b_law_back_2 cs) { ends Φ with nx := fun Δ2 M2 => r_law_back_2 cs (ends Φ) Δ2 M2 } [.d (lysD L), .d (SL s), .d (ni m), .d (SL old), .own (stD s), .un] M
  rw [List.length_map]
  have h0 : ([.d (lysD L), .d (SL s), .d (ni m), .d (SL old), .own (stD s), .un] : List Sl) = [.d (lysD L), .d (SL s), .d (ni m), .d (SL old), .own (stD (backF L s old m (m + 0))), .un] := by rw [backF_zero (i := m + 0) hs (by omega)]
  refine ⟨⟨by omega, by omega, by omega, by omega⟩, ?_⟩
  rw [show ((L.length : Nat) - (m : Int)).toNat = L.length - m by omega]
  refine loop_by (j := 5) (fun i => [.d (lysD L), .d (SL s), .d (ni m), .d (SL old), .own (stD (backF L s old m (m + i))), .un]) h0 ?_ ?_
  · intro i x hx
    obtain ⟨hi, rfl⟩ := rangeD_some hx
    obtain ⟨l, hl⟩ : ∃ l, L[m + i]? = some l := ⟨_, at_lt (by omega)⟩
    have e1 : (m : Int) + (i : Int) = ((m + i : Nat) : Int) := by omega
    have at1 : (L.map Ly.d)[m + i]? = some l.d := by rw [List.getElem?_map, hl] <;> rfl
    have put : cnAt L (m + i) = true → ([.d (lysD L), .d (SL s), .d (ni m), .d (SL old), .own ((stD (backF L s old m (m + i))).set (m + i) (.int (old.getD (m + i) 0))), .un] : List Sl) = [.d (lysD L), .d (SL s), .d (ni m), .d (SL old), .own (stD (backF L s old m (m + (i + 1)))), .un] := fun c => by
      rw [stD_set, backF_set (by omega) (by omega) c] <;> rfl
    have skip : cnAt L (m + i) = false → ([.d (lysD L), .d (SL s), .d (ni m), .d (SL old), .own (stD (backF L s old m (m + i))), .un] : List Sl) = [.d (lysD L), .d (SL s), .d (ni m), .d (SL old), .own (stD (backF L s old m (m + (i + 1)))), .un] := fun c => by
      rw [backF_skip c] <;> rfl
    have len : m + i < (stD (backF L s old m (m + i))).length := by
      rw [stD_len, backF_len]
      omega
    refine ⟨_, ix_nat e1 at1, _, rfl, ?_⟩
    have cn := cnAt_of hl
    cases l with
    | cell nm n => exact ⟨fun _ => ⟨_, ix_nat e1 (stD_at (getD_at (by omega))), ⟨_, rfl⟩, m + i, own_ix e1 len, put cn, rfl⟩, fun h => tf ((w_cell (.cell nm n)).symm.trans h)⟩
    | note nm t => exact ⟨fun h => tf (h.symm.trans (w_cell (.note nm t))), fun _ => ⟨_, ix_nat e1 at1, _, rfl, fun _ => ⟨_, ix_nat e1 (stD_at (getD_at (by omega))), ⟨_, rfl⟩, m + i, own_ix e1 len, put cn, rfl⟩, fun h => tf ((w_note (.note nm t)).symm.trans h)⟩⟩
    | setting nm n => exact ⟨fun h => tf (h.symm.trans (w_cell (.setting nm n))), fun _ => ⟨_, ix_nat e1 at1, _, rfl, fun h => tf (h.symm.trans (w_note (.setting nm n))), fun _ => ⟨skip cn, rfl⟩⟩⟩
    | fail nm n => exact ⟨fun h => tf (h.symm.trans (w_cell (.fail nm n))), fun _ => ⟨_, ix_nat e1 at1, _, rfl, fun h => tf (h.symm.trans (w_note (.fail nm n))), fun _ => ⟨skip cn, rfl⟩⟩⟩
    | outside nm ar => exact ⟨fun h => tf (h.symm.trans (w_cell (.outside nm ar))), fun _ => ⟨_, ix_nat e1 at1, _, rfl, fun h => tf (h.symm.trans (w_note (.outside nm ar))), fun _ => ⟨skip cn, rfl⟩⟩⟩
  · rw [rangeD_len, show m + (L.length - m) = L.length by omega]
    exact q
end My

set_option Elab.async false
set_option linter.all false
set_option maxRecDepth 100000
set_option maxHeartbeats 4000000
namespace My
open PySem PySem.Spec PyProof.Rows L2 DL
open Evl (Ex)
/-! ### the law's steps -/
theorem ent_set {L : List Ly} {s : List Int} {r x : Int} {j : Nat} (h : j < s.length) : (entF L r j ++ s.drop j).set j x = entF L r j ++ x :: s.drop (j + 1) := by
  rw [List.set_append_right _ _ (by rw [entF_len]; exact Nat.le_refl _), entF_len, Nat.sub_self, List.drop_eq_getElem_cons h] <;> rfl
theorem ent_next {L : List Ly} {s : List Int} {r x : Int} {j : Nat} (e : (if hvAt L j then (leftF L r j) % (valAt L j : Nat) else 0) = x) : entF L r j ++ x :: s.drop (j + 1) = entF L r (j + 1) ++ s.drop (j + 1) := by
  rw [← e]
  show _ = (entF L r j ++ [_]) ++ s.drop (j + 1)
  rw [List.append_assoc] <;> rfl
theorem red_law_asked (cs : Cs) : ∀ ds M Φ Ψ, S_law_asked cs ds M Φ Ψ → r_law_asked cs (ends Φ) (startD 10 ds) M := by
  rintro ds M Φ Ψ ⟨L, s, i, d, n, q, tr, rfl, hL, hd, hs, hn, hM, htr, k⟩
  obtain ⟨nm, ar, e, hdl⟩ := hd
  have hi : i < L.length := lt_of_some e
  have h5 := hL.1
  obtain ⟨a1, a2, a3⟩ := ar_pos hL e hdl
  have hz : (0 : Int) < ((arAt L i d : Nat) : Int) := by omega
  have ei : ((i + 1 : Nat) : Int) - 1 = (i : Nat) := by omega
  refine ⟨_, rfl, L, i, s, _, rfl, .inr rfl, h5, by omega, hs, ?_⟩
  refine ⟨_, rfl, _, ix_nat ei (show (L.map Ly.d)[i]? = some (Ly.outside nm ar).d by rw [List.getElem?_map, e] <;> rfl), _, rfl, _, rfl, _, ix_nat rfl (row_at a3), ⟨hz, .inl (by omega)⟩, _, rfl, ?_⟩
  refine ⟨⟨by omega, by omega⟩, ?_⟩
  rw [show (((i + 1 : Nat) : Int) - 1).toNat = i by omega]
  have h0 : ([.d (lysD L), .d (SL s), .d (Dd.ask i d).d, .d (.int n), .d (.ref q), .d (S3 (keepF L s i)), .d (ni (arAt L i d)), .d (.int (n / (arAt L i d : Nat))), .own (stD s), .un] : List Sl) = [.d (lysD L), .d (SL s), .d (Dd.ask i d).d, .d (.int n), .d (.ref q), .d (S3 (keepF L s i)), .d (ni (arAt L i d)), .d (.int (leftF L (n / (arAt L i d : Nat)) 0)), .own (stD (entF L (n / (arAt L i d : Nat)) 0 ++ s.drop 0)), .un] := rfl
  refine loop_by (j := 9) (fun j => [.d (lysD L), .d (SL s), .d (Dd.ask i d).d, .d (.int n), .d (.ref q), .d (S3 (keepF L s i)), .d (ni (arAt L i d)), .d (.int (leftF L (n / (arAt L i d : Nat)) j)), .own (stD (entF L (n / (arAt L i d : Nat)) j ++ s.drop j)), .un]) h0 ?_ ?_
  · intro j x hx
    obtain ⟨hj, rfl⟩ := rangeD_some hx
    obtain ⟨l, hl⟩ : ∃ l, L[j]? = some l := ⟨_, at_lt (by omega)⟩
    have at1 : (L.map Ly.d)[j]? = some l.d := by rw [List.getElem?_map, hl] <;> rfl
    have len : j < (stD (entF L (n / (arAt L i d : Nat)) j ++ s.drop j)).length := by
      rw [stD_len, List.length_append, entF_len, List.length_drop]
      omega
    have len2 : j < ((stD (entF L (n / (arAt L i d : Nat)) j ++ s.drop j)).set j (.int 0)).length := by
      rw [List.length_set]
      exact len
    have hv := hvAt_of hl
    have vl := valAt_of hl
    have okl := hL.at hl
    refine ⟨⟨_, rfl⟩, j, own_ix (Int.zero_add _) len, _, ix_nat (Int.zero_add _) at1, _, rfl, ?_⟩
    have keep : l.hv = false → ([.d (lysD L), .d (SL s), .d (Dd.ask i d).d, .d (.int n), .d (.ref q), .d (S3 (keepF L s i)), .d (ni (arAt L i d)), .d (.int (leftF L (n / (arAt L i d : Nat)) j)), .own ((stD (entF L (n / (arAt L i d : Nat)) j ++ s.drop j)).set j (.int 0)), .un] : List Sl) = [.d (lysD L), .d (SL s), .d (Dd.ask i d).d, .d (.int n), .d (.ref q), .d (S3 (keepF L s i)), .d (ni (arAt L i d)), .d (.int (leftF L (n / (arAt L i d : Nat)) (j + 1))), .own (stD (entF L (n / (arAt L i d : Nat)) (j + 1) ++ s.drop (j + 1))), .un] := fun c => by
      have e2 : leftF L (n / (arAt L i d : Nat)) (j + 1) = leftF L (n / (arAt L i d : Nat)) j := by
        show (if hvAt L j then entF.leftF L (n / (arAt L i d : Nat)) j / (valAt L j : Nat) else entF.leftF L (n / (arAt L i d : Nat)) j) = _
        rw [hv, c] <;> rfl
      rw [stD_set, ent_set (by omega), ent_next (by rw [hv, c] <;> rfl), e2]
    have put : ∀ {w : Nat}, l.hv = true → valAt L j = w → ([.d (lysD L), .d (SL s), .d (Dd.ask i d).d, .d (.int n), .d (.ref q), .d (S3 (keepF L s i)), .d (ni (arAt L i d)), .d (.int (leftF L (n / (arAt L i d : Nat)) j / (w : Nat))), .own (((stD (entF L (n / (arAt L i d : Nat)) j ++ s.drop j)).set j (.int 0)).set j (.int (leftF L (n / (arAt L i d : Nat)) j % (w : Nat)))), .un] : List Sl) = [.d (lysD L), .d (SL s), .d (Dd.ask i d).d, .d (.int n), .d (.ref q), .d (S3 (keepF L s i)), .d (ni (arAt L i d)), .d (.int (leftF L (n / (arAt L i d : Nat)) (j + 1))), .own (stD (entF L (n / (arAt L i d : Nat)) (j + 1) ++ s.drop (j + 1))), .un] := fun {w} c ew => by
      subst ew
      have e2 : leftF L (n / (arAt L i d : Nat)) (j + 1) = leftF L (n / (arAt L i d : Nat)) j / (valAt L j : Nat) := by
        show (if hvAt L j then entF.leftF L (n / (arAt L i d : Nat)) j / (valAt L j : Nat) else entF.leftF L (n / (arAt L i d : Nat)) j) = _
        rw [hv, c] <;> rfl
      rw [List.set_set, stD_set, ent_set (by omega), ent_next (by rw [hv, c] <;> rfl), e2]
    cases l with
    | cell nm n' =>
      obtain ⟨g1, g2⟩ : 2 ≤ n' ∧ n' ≤ 3 := okl
      exact ⟨fun _ => ⟨_, ix_nat (Int.zero_add _) at1, _, rfl, (by show (0 : Int) < (n' : Nat); omega), ⟨_, rfl⟩, j, own_ix (Int.zero_add _) len2, _, ix_nat (Int.zero_add _) at1, _, rfl, ⟨by show (0 : Int) < (n' : Nat); omega, .inl (by show (n' : Nat) < (1073741824 : Int); omega)⟩, put rfl vl, rfl⟩, fun h => tf ((w_cell (.cell nm n')).symm.trans h)⟩
    | setting nm n' =>
      obtain ⟨g1, g2⟩ : 2 ≤ n' ∧ n' ≤ 3 := okl
      exact ⟨fun h => tf (h.symm.trans (w_cell (.setting nm n'))), fun _ => ⟨_, ix_nat (Int.zero_add _) at1, _, rfl, fun _ => ⟨_, ix_nat (Int.zero_add _) at1, _, rfl, (by show (0 : Int) < (n' : Nat); omega), ⟨_, rfl⟩, j, own_ix (Int.zero_add _) len2, _, ix_nat (Int.zero_add _) at1, _, rfl, ⟨by show (0 : Int) < (n' : Nat); omega, .inl (by show (n' : Nat) < (1073741824 : Int); omega)⟩, put rfl vl, rfl⟩, fun h => tf ((w_set (.setting nm n')).symm.trans h)⟩⟩
    | note nm t => exact ⟨fun h => tf (h.symm.trans (w_cell (.note nm t))), fun _ => ⟨_, ix_nat (Int.zero_add _) at1, _, rfl, fun h => tf (h.symm.trans (w_set (.note nm t))), fun _ => ⟨keep rfl, rfl⟩⟩⟩
    | fail nm n' => exact ⟨fun h => tf (h.symm.trans (w_cell (.fail nm n'))), fun _ => ⟨_, ix_nat (Int.zero_add _) at1, _, rfl, fun h => tf (h.symm.trans (w_set (.fail nm n'))), fun _ => ⟨keep rfl, rfl⟩⟩⟩
    | outside nm ar' => exact ⟨fun h => tf (h.symm.trans (w_cell (.outside nm ar'))), fun _ => ⟨_, ix_nat (Int.zero_add _) at1, _, rfl, fun h => tf (h.symm.trans (w_set (.outside nm ar'))), fun _ => ⟨keep rfl, rfl⟩⟩⟩
  · rw [rangeD_len]
    refine ⟨⟨_, hM⟩, _, rfl, _, rfl, hz, _, rfl, ?_⟩
    have cut : DL.cutD (stD (entF L (n / (arAt L i d : Nat)) i ++ s.drop i)) none (some (((i + 1 : Nat) : Int) - 1)) = stD (entF L (n / (arAt L i d : Nat)) i) := by
      rw [cut_lo ei (by rw [List.length_append, entF_len]; omega), List.take_append_of_le_length (by rw [entF_len]; exact Nat.le_refl _), List.take_of_length_le (by rw [entF_len]; exact Nat.le_refl _)]
    refine ⟨tr, hM, szl (by omega), hz, ?_⟩
    show Φ (.tup [.int (n % (arAt L i d : Nat)), SL (aftF L s n (.ask i d))]) (updM M q (.lst (tr ++ [.tup [ni (i + 1), ni d, S3 (keepF L s i), .int (n % (arAt L i d : Nat)), .tup (DL.cutD (stD (entF L (n / (arAt L i d : Nat)) i ++ s.drop i)) none (some (((i + 1 : Nat) : Int) - 1)))]])))
    rw [cut]
    exact k
theorem red_law_step (cs : Cs) : ∀ ds M Φ Ψ, S_law_step cs ds M Φ Ψ → r_law_step cs (ends Φ) (startD 7 ds) M := by
  rintro ds M Φ Ψ ⟨L, s, dd, n, q, tr, rfl, hL, hs, hd, hn, hM, htr, k⟩
  have h5 := hL.1
  have ss : s.length = L.length := hs.1
  have k0 : tldF L s n dd = [] → Φ (.tup [.int (wayF L s n dd), SL (aftF L s n dd)]) M := fun e => k M (by rw [e, List.append_nil]; exact hM) fun _ _ => rfl
  cases dd with
  | choose p => exact ⟨_, rfl, fun _ => ⟨(by show (0 : Int) < 2; decide), k0 rfl⟩, fun h => absurd h (by decide +kernel)⟩
  | draw p a b =>
    have hb : 1 ≤ b := hd
    refine ⟨_, rfl, fun h => absurd h (by decide +kernel), fun _ => ⟨_, rfl, fun _ => ?_, fun h => absurd h (by decide +kernel)⟩⟩
    refine ⟨_, rfl, (by show (0 : Int) < (b : Nat); omega), _, rfl, ?_⟩
    have k1 : Φ (.tup [.int (if n % (b : Nat) < (a : Nat) then 0 else 1), SL s]) M := k0 rfl
    show Φ (.tup [.int (if decide (n % (b : Nat) ≥ (a : Nat)) = true then 1 else 0), SL s]) M
    by_cases c : n % (b : Nat) < (a : Nat)
    · rw [if_pos c] at k1
      rw [if_neg (by rw [decide_eq_true_eq]; omega)]
      exact k1
    · rw [if_neg c] at k1
      rw [if_pos (by rw [decide_eq_true_eq]; omega)]
      exact k1
  | ask i d =>
    refine ⟨_, rfl, fun h => absurd h (by decide +kernel), fun _ => ⟨_, rfl, fun h => absurd h (by decide +kernel), fun _ => ⟨_, rfl, fun _ => ?_, fun h => absurd h (by decide +kernel)⟩⟩⟩
    exact ⟨L, s, i, d, n, q, tr, rfl, hL, hd, ss, hn, hM, htr, k _ updM_same fun a ha => updM_ne ha⟩
  | get i =>
    have hi : i < L.length := hd
    refine ⟨_, rfl, fun h => absurd h (by decide +kernel), fun _ => ⟨_, rfl, fun h => absurd h (by decide +kernel), fun _ => ⟨_, rfl, fun h => absurd h (by decide +kernel), fun _ => ?_⟩⟩⟩
    refine ⟨_, rfl, _, rfl, fun _ => ?_, fun h => absurd h (by decide +kernel)⟩
    exact ⟨_, ix_nat (show ((i + 1 : Nat) : Int) - 1 = (i : Nat) by omega) (stD_at (getD_at (by omega))), k0 rfl⟩
  | look i =>
    have hi : i < L.length := hd
    refine ⟨_, rfl, fun h => absurd h (by decide +kernel), fun _ => ⟨_, rfl, fun h => absurd h (by decide +kernel), fun _ => ⟨_, rfl, fun h => absurd h (by decide +kernel), fun _ => ?_⟩⟩⟩
    refine ⟨_, rfl, _, rfl, fun h => absurd h (by decide +kernel), fun _ => ⟨_, rfl, fun _ => ?_, fun h => absurd h (by decide +kernel)⟩⟩
    exact ⟨_, ix_nat (show ((i + 1 : Nat) : Int) - 1 = (i : Nat) by omega) (stD_at (getD_at (by omega))), k0 rfl⟩
  | put i x =>
    obtain ⟨nm, m, e⟩ := hd
    have hi := lt_of_some e
    have ei : ((i + 1 : Nat) : Int) - 1 = (i : Nat) := by omega
    refine ⟨_, rfl, fun h => absurd h (by decide +kernel), fun _ => ⟨_, rfl, fun h => absurd h (by decide +kernel), fun _ => ⟨_, rfl, fun h => absurd h (by decide +kernel), fun _ => ?_⟩⟩⟩
    refine ⟨_, rfl, _, rfl, fun h => absurd h (by decide +kernel), fun _ => ⟨_, rfl, fun h => absurd h (by decide +kernel), fun _ => ?_⟩⟩
    refine ⟨_, rfl, fun _ => ?_, fun h => absurd h (by decide +kernel)⟩
    refine ⟨_, rfl, ⟨_, rfl⟩, i, own_ix ei (by rw [stD_len]; omega), ?_⟩
    show Φ (.tup [.int 0, .lst ((stD s).set i (.int (x : Nat)))]) M
    rw [stD_set]
    exact k0 rfl
  | note i m =>
    obtain ⟨nm, t, e, hm⟩ := hd
    have hi := lt_of_some e
    have ei : ((i + 1 : Nat) : Int) - 1 = (i : Nat) := by omega
    obtain ⟨x, h1, h2⟩ := hs.2 i nm t e
    obtain ⟨_, r, t1, t2⟩ := tabAt_lt (hL.at e) h2 hm
    have e1 : s.getD i 0 = (x : Int) := by rw [List.getD_eq_getElem?_getD, h1] <;> rfl
    have e2 : tbAt L i (s.getD i 0).toNat m = tabAt t x m := by
      rw [e1]
      unfold tbAt
      rw [e] <;> rfl
    refine ⟨_, rfl, fun h => absurd h (by decide +kernel), fun _ => ⟨_, rfl, fun h => absurd h (by decide +kernel), fun _ => ⟨_, rfl, fun h => absurd h (by decide +kernel), fun _ => ?_⟩⟩⟩
    refine ⟨_, rfl, _, rfl, fun h => absurd h (by decide +kernel), fun _ => ⟨_, rfl, fun h => absurd h (by decide +kernel), fun _ => ?_⟩⟩
    refine ⟨_, rfl, fun h => absurd h (by decide +kernel), fun _ => ?_⟩
    refine ⟨_, ix_nat ei (show (L.map Ly.d)[i]? = some (Ly.note nm t).d by rw [List.getElem?_map, e] <;> rfl), _, rfl, _, ix_nat ei (stD_at h1), _, ix_nat rfl (tab_at t1), _, rfl, _, ix_nat rfl (row_at t2), ⟨_, rfl⟩, i, own_ix ei (by rw [stD_len]; omega), ?_⟩
    show Φ (.tup [.int 0, .lst ((stD s).set i (ni (tabAt t x m)))]) M
    rw [stD_set]
    have k1 : Φ (.tup [.int 0, SL (s.set i (tbAt L i (s.getD i 0).toNat m : Nat))]) M := k0 rfl
    rw [e2] at k1
    exact k1
end My

set_option Elab.async false
set_option linter.all false
set_option maxRecDepth 100000
set_option maxHeartbeats 4000000
namespace My
open PySem PySem.Spec PyProof.Rows L2 DL
open Evl (Ex)
/-! ### the law's starts -/
theorem rangeD_st (n : Nat) : rangeD 0 n = stD ((List.range n).map fun x : Nat => (x : Int)) := by
  unfold rangeD stD
  rw [List.map_map]
  refine List.map_congr_left fun x _ => ?_
  show D.int (0 + (x : Int)) = D.int (x : Int)
  rw [Int.zero_add]
theorem starts_in (cs : Cs) {De : DE} {M : Mem} {A B C T : Sl} {R : List (List Int)} {O : List Int} (h1 : R.length ≤ 1000) (h2 : O.length ≤ 3) (h3 : ∀ r ∈ R, r.length ≤ 1000)
    (k : ∀ G, De.nx [A, B, C, .d (rowsD (R.flatMap fun r => O.map fun x => r ++ [x])), T, .d (.lst (stD O)), G, .un, .un] M) :
    dSeq (dFor 7 [7, 8] (dVar 3) (b_law_starts_9 cs)) (dSet 3 (dFz (dLst (dVar 6)))) De [A, B, C, .d (rowsD R), T, .d (.lst (stD O)), .own [], .un, .un] M := by
  have gl : ∀ i, ((R.take i).flatMap fun r => O.map fun x => r ++ [x]).length ≤ 3000 := fun i => by
    rw [flat_len (k := O.length) fun x _ => List.length_map ..]
    have := Nat.mul_le_mul (show (R.take i).length ≤ 1000 by rw [List.length_take]; omega) h2
    omega
  refine loop_by (j := 7) (fun i => [A, B, C, .d (rowsD R), T, .d (.lst (stD O)), .own (((R.take i).flatMap fun r => O.map fun x => r ++ [x]).map S3), .un, .un]) rfl ?_ ?_
  · intro i x hx
    rw [List.getElem?_map] at hx
    obtain ⟨r, hr, rfl⟩ := Option.map_eq_some_iff.mp hx
    have h0 : ([A, B, C, .d (rowsD R), T, .d (.lst (stD O)), .own (((R.take i).flatMap fun r => O.map fun x => r ++ [x]).map S3), .d (S3 r), .un] : List Sl) = [A, B, C, .d (rowsD R), T, .d (.lst (stD O)), .own (((R.take i).flatMap fun r => O.map fun x => r ++ [x]).map S3 ++ ((O.take 0).map fun x => S3 (r ++ [x]))), .d (S3 r), .un] := by
      rw [List.take_zero, List.map_nil, List.append_nil]
    refine loop_by (j := 8) (fun m => [A, B, C, .d (rowsD R), T, .d (.lst (stD O)), .own (((R.take i).flatMap fun r => O.map fun x => r ++ [x]).map S3 ++ ((O.take m).map fun x => S3 (r ++ [x]))), .d (S3 r), .un]) h0 ?_ ?_
    · intro m y hy
      unfold stD at hy
      rw [List.getElem?_map] at hy
      obtain ⟨o, ho, rfl⟩ := Option.map_eq_some_iff.mp hy
      have hr3 := h3 r (List.mem_of_getElem? hr)
      have g := gl i
      refine ⟨⟨_, rfl⟩, ?_, ?_, ?_, rfl⟩
      · show (stD r).length + 1 ≤ sizeLine
        rw [stD_len]
        exact sz (by omega)
      · rw [List.length_append, List.length_map, List.length_map, List.length_take]
        exact szl (by omega)
      · show [A, B, C, _, T, _, Sl.own ((((R.take i).flatMap fun r => O.map fun x => r ++ [x]).map S3 ++ ((O.take m).map fun x => S3 (r ++ [x]))) ++ [.tup (stD r ++ stD [o])]), _, _] = _
        rw [stD_app, take_succ ho, List.map_append, List.append_assoc] <;> rfl
    · rw [stD_len, List.take_of_length_le (Nat.le_refl _)]
      refine ⟨?_, rfl⟩
      show [A, B, C, _, T, _, Sl.own (((R.take i).flatMap fun r => O.map fun x => r ++ [x]).map S3 ++ (O.map fun x => S3 (r ++ [x]))), _, _] = _
      rw [take_succ hr, List.flatMap_append, List.map_append, List.flatMap_cons, List.flatMap_nil, List.append_nil, List.map_map] <;> rfl
  · rw [List.length_map, List.take_of_length_le (Nat.le_refl _)]
    exact k _
def optF (L : List Ly) (m : Nat) (s : List Int) (i : Nat) : List Int := if i < m then (List.range (valAt L i)).map fun x : Nat => (x : Int) else [s.getD i 0]
def longF (L : List Ly) (m : Nat) (s : List Int) (i : Nat) : List (List Int) := (rowsF L (min i m)).map (· ++ (s.drop m).take (i - m))
theorem long_next {L : List Ly} {m i : Nat} {s : List Int} (h : i < s.length) : ((longF L m s i).flatMap fun r => (optF L m s i).map fun x => r ++ [x]) = longF L m s (i + 1) := by
  unfold longF optF
  by_cases c : i < m
  · rw [if_pos c, Nat.min_eq_left (by omega), Nat.min_eq_left (by omega), show i - m = 0 by omega, show i + 1 - m = 0 by omega, List.take_zero]
    have e : ∀ R : List (List Int), R.map (· ++ []) = R := fun R => by
      refine (List.map_congr_left fun x _ => List.append_nil x).trans (List.map_id R)
    rw [e, e]
    show _ = (rowsF L i).flatMap (ext1 (valAt L i))
    congr 1
    funext r
    rw [List.map_map] <;> rfl
  · rw [if_neg c, Nat.min_eq_right (by omega), Nat.min_eq_right (by omega), List.flatMap_map]
    have e : (s.drop m)[i - m]? = some (s.getD i 0) := by
      rw [List.getElem?_drop, show m + (i - m) = i by omega]
      exact getD_at h
    rw [show i + 1 - m = (i - m) + 1 by omega, take_succ e, List.map_eq_flatMap]
    congr 1
    funext r
    show [r ++ _ ++ [_]] = [r ++ (_ ++ [_])]
    rw [List.append_assoc]
theorem long_len {L : List Ly} (hL : LOk L) {m : Nat} (hm : m ≤ L.length) (s : List Int) (i : Nat) : (longF L m s i).length ≤ 243 := by
  have h5 := hL.1
  unfold longF
  rw [List.length_map]
  exact Nat.le_trans (rowsF_len hL _).2 (pow5 (by omega))
theorem long_row {L : List Ly} {m : Nat} {s : List Int} {i : Nat} {r : List Int} (h : r ∈ longF L m s i) : r.length ≤ m + s.length := by
  obtain ⟨r0, h0, rfl⟩ := List.mem_map.mp h
  have := (rowsF_mem h0).1
  rw [List.length_append, List.length_take, List.length_drop]
  omega
theorem opt_len {L : List Ly} (hL : LOk L) (m : Nat) (s : List Int) (i : Nat) : (optF L m s i).length ≤ 3 := by
  have := valAt_le hL i
  unfold optF
  split
  · rw [List.length_map, List.length_range]
    omega
  · exact (by decide : 1 ≤ 3)
theorem red_law_starts (cs : Cs) : ∀ ds M Φ Ψ, S_law_starts cs ds M Φ Ψ → r_law_starts cs (ends Φ) (startD 9 ds) M := by
  rintro ds M Φ Ψ ⟨L, m, s, rfl, hL, hm, hs, q⟩
  have h5 := hL.1
  show r_law_starts_1 cs (ends Φ) [.d (lysD L), .d (.int ((m : Int) + 1)), .d (S3 s), .d (rowsD [[]]), .un, .un, .un, .un, .un] M
  show dSeq (dForR 4 [4, 5, 6, 7] (dC (.int ((L.map Ly.d).length : Nat))) (b_law_starts_2 cs)) (r_law_starts_2 cs) (ends Φ) _ M
  rw [List.length_map]
  refine ⟨⟨by omega, by omega⟩, ?_⟩
  rw [Int.toNat_natCast]
  have h0 : ([.d (lysD L), .d (.int ((m : Int) + 1)), .d (S3 s), .d (rowsD [[]]), .un, .un, .un, .un, .un] : List Sl) = [.d (lysD L), .d (.int ((m : Int) + 1)), .d (S3 s), .d (rowsD (longF L m s 0)), .un, .un, .un, .un, .un] := by
    unfold longF
    rw [Nat.zero_min, Nat.zero_sub, List.take_zero] <;> rfl
  refine loop_by (j := 4) (fun i => [.d (lysD L), .d (.int ((m : Int) + 1)), .d (S3 s), .d (rowsD (longF L m s i)), .un, .un, .un, .un, .un]) h0 ?_ ?_
  · intro i x hx
    obtain ⟨hi, rfl⟩ := rangeD_some hx
    obtain ⟨l, hl⟩ : ∃ l, L[i]? = some l := ⟨_, at_lt hi⟩
    have at1 : (L.map Ly.d)[i]? = some l.d := by rw [List.getElem?_map, hl] <;> rfl
    have ll := long_len hL hm s i
    have inn := starts_in cs (De := { nx := fun Δ2 M2 => fgt [4, 5, 6, 7] Δ2 = [.d (lysD L), .d (.int ((m : Int) + 1)), .d (S3 s), .d (rowsD (longF L m s (i + 1))), .un, .un, .un, .un, .un] ∧ M2 = M, rt := Φ, bk := fun Δ1 M1 => r_law_starts_2 cs (ends Φ) Δ1 M1, ct := fun Δ2 M2 => fgt [4, 5, 6, 7] Δ2 = [.d (lysD L), .d (.int ((m : Int) + 1)), .d (S3 s), .d (rowsD (longF L m s (i + 1))), .un, .un, .un, .un, .un] ∧ M2 = M }) (M := M) (A := .d (lysD L)) (B := .d (.int ((m : Int) + 1))) (C := .d (S3 s)) (T := .d (.int (0 + (i : Int)))) (R := longF L m s i) (O := optF L m s i) (by omega) (opt_len hL m s i) (fun r hr => by have := long_row hr; omega) (fun G => by
      rw [long_next (by omega)]
      exact ⟨rfl, rfl⟩)
    refine ⟨fun h => ?_, fun h => ?_⟩
    · have c : ¬ i < m := by
        have := of_decide_eq_true h
        omega
      refine ⟨_, ix_nat (Int.zero_add _) (stD_at (getD_at (by omega))), ?_⟩
      unfold optF at inn
      rw [if_neg c] at inn
      exact inn
    · have c : i < m := by
        have := of_decide_eq_false h
        omega
      unfold optF at inn
      rw [if_pos c, ← rangeD_st, valAt_of hl] at inn
      have okl := hL.at hl
      refine ⟨_, ix_nat (Int.zero_add _) at1, _, rfl, ?_⟩
      cases l with
      | cell nm n =>
        obtain ⟨g1, g2⟩ : 2 ≤ n ∧ n ≤ 3 := okl
        exact ⟨fun _ => ⟨_, ix_nat (Int.zero_add _) at1, _, rfl, ⟨by show (0 : Int) ≤ (n : Nat); omega, by show ((n : Nat) : Int) ≤ 16777216; omega⟩, inn⟩, fun h => tf ((w_cell (.cell nm n)).symm.trans h)⟩
      | setting nm n =>
        obtain ⟨g1, g2⟩ : 2 ≤ n ∧ n ≤ 3 := okl
        exact ⟨fun h => tf (h.symm.trans (w_cell (.setting nm n))), fun _ => ⟨_, ix_nat (Int.zero_add _) at1, _, rfl, fun _ => ⟨_, ix_nat (Int.zero_add _) at1, _, rfl, ⟨by show (0 : Int) ≤ (n : Nat); omega, by show ((n : Nat) : Int) ≤ 16777216; omega⟩, inn⟩, fun h => tf ((w_set (.setting nm n)).symm.trans h)⟩⟩
      | note nm t => exact ⟨fun h => tf (h.symm.trans (w_cell (.note nm t))), fun _ => ⟨_, ix_nat (Int.zero_add _) at1, _, rfl, fun h => tf (h.symm.trans (w_set (.note nm t))), fun _ => inn⟩⟩
      | fail nm n => exact ⟨fun h => tf (h.symm.trans (w_cell (.fail nm n))), fun _ => ⟨_, ix_nat (Int.zero_add _) at1, _, rfl, fun h => tf (h.symm.trans (w_set (.fail nm n))), fun _ => inn⟩⟩
      | outside nm ar => exact ⟨fun h => tf (h.symm.trans (w_cell (.outside nm ar))), fun _ => ⟨_, ix_nat (Int.zero_add _) at1, _, rfl, fun h => tf (h.symm.trans (w_set (.outside nm ar))), fun _ => inn⟩⟩
  · rw [rangeD_len]
    have e : longF L m s L.length = startsF L m s := by
      unfold longF startsF
      rw [Nat.min_eq_right hm, List.take_of_length_le (by rw [List.length_drop]; omega)]
    show Φ (rowsD (longF L m s L.length)) M
    rw [e]
    exact q
end My

set_option Elab.async false
set_option linter.all false
set_option maxRecDepth 100000
set_option maxHeartbeats 4000000
namespace My
open PySem PySem.Spec PyProof.Rows L2 DL
open Evl (Ex)
/-! ### the law's books and deeds -/
theorem ok_note3 : TabOk [[0, 1, 2], [1, 1, 1], [2, 2, 2]] := by
  unfold TabOk
  decide
theorem ok_note2 : TabOk [[0, 1], [1, 0]] := by
  unfold TabOk
  decide
theorem lok_nil : ∀ l ∈ ([] : List Ly), l.Ok := fun _ h => absurd h List.not_mem_nil
theorem lok_cons {l : Ly} {L : List Ly} (h : l.Ok) (g : ∀ x ∈ L, x.Ok) : ∀ x ∈ l :: L, x.Ok := List.forall_mem_cons.mpr ⟨h, g⟩
theorem ok_out1 {nm : Str} {a : Nat} (h : 1 ≤ a ∧ a ≤ 3) : Ly.Ok (.outside nm [a]) := ⟨show 1 ≤ 1 by decide, show 1 ≤ 2 by decide, fun x hx => by
  rw [List.mem_singleton] at hx
  rw [hx]
  exact h⟩
theorem ok_out2 {nm : Str} {a b : Nat} (h : 1 ≤ a ∧ a ≤ 3) (g : 1 ≤ b ∧ b ≤ 3) : Ly.Ok (.outside nm [a, b]) := ⟨show 1 ≤ 2 by decide, show 2 ≤ 2 by decide, fun x hx => by
  rcases List.mem_cons.mp hx with hx | hx
  · rw [hx]
    exact h
  · rw [List.mem_singleton] at hx
    rw [hx]
    exact g⟩
theorem bk4_ok (j : Nat) : LOk (bk4 j).2 := by
  match j with
  | 0 => exact ⟨by decide, lok_cons (show 2 ≤ 2 ∧ 2 ≤ 3 by decide) (lok_cons ok_note3 (lok_cons (ok_out2 (by decide) (by decide)) (lok_cons (show 2 ≤ 3 ∧ 3 ≤ 3 by decide) (lok_cons (show 1 ≤ 2 ∧ 2 ≤ 3 by decide) lok_nil))))⟩
  | 1 => exact ⟨by decide, lok_cons (show 2 ≤ 2 ∧ 2 ≤ 3 by decide) (lok_cons (show 2 ≤ 3 ∧ 3 ≤ 3 by decide) (lok_cons (show 1 ≤ 3 ∧ 3 ≤ 3 by decide) (lok_cons (ok_out1 (by decide)) (lok_cons ok_note2 lok_nil))))⟩
  | 2 => exact ⟨by decide, lok_cons ok_note2 (lok_cons (ok_out2 (by decide) (by decide)) (lok_cons (show 2 ≤ 3 ∧ 3 ≤ 3 by decide) (lok_cons ok_note3 (lok_cons (ok_out1 (by decide)) lok_nil))))⟩
  | j + 3 => exact ⟨by show 5 ≤ 5; decide, lok_cons (show 1 ≤ 1 ∧ 1 ≤ 3 by decide) (lok_cons (show 2 ≤ 2 ∧ 2 ≤ 3 by decide) (lok_cons (show 2 ≤ 3 ∧ 3 ≤ 3 by decide) (lok_cons (ok_out2 (by decide) (by decide)) (lok_cons ok_note3 lok_nil))))⟩
theorem bk4_len (j : Nat) : (bk4 j).2.length = 5 := by
  match j with
  | 0 => rfl
  | 1 => rfl
  | 2 => rfl
  | j + 3 => rfl
theorem bk4_name (j : Nat) : (bk4 j).1 ∈ kerns := by
  match j with
  | 0 => exact (by decide +kernel : ("mixed" : Str) ∈ kerns)
  | 1 => exact (by decide +kernel : ("twochoose" : Str) ∈ kerns)
  | 2 => exact (by decide +kernel : ("spread" : Str) ∈ kerns)
  | j + 3 => exact (by decide +kernel : ("twodraw" : Str) ∈ kerns)
theorem as_note3 : Assoc [[0, 1, 2], [1, 1, 1], [2, 2, 2]] ∧ Unit0 [[0, 1, 2], [1, 1, 1], [2, 2, 2]] := by
  have h : ∀ a, a < 3 → ∀ b, b < 3 → ∀ c, c < 3 → tabAt [[0, 1, 2], [1, 1, 1], [2, 2, 2]] (tabAt [[0, 1, 2], [1, 1, 1], [2, 2, 2]] a b) c = tabAt [[0, 1, 2], [1, 1, 1], [2, 2, 2]] a (tabAt [[0, 1, 2], [1, 1, 1], [2, 2, 2]] b c) := by decide
  have g : ∀ m, m < 3 → tabAt [[0, 1, 2], [1, 1, 1], [2, 2, 2]] 0 m = m ∧ tabAt [[0, 1, 2], [1, 1, 1], [2, 2, 2]] m 0 = m := by decide
  exact ⟨fun a b c ha hb hc => h a ha b hb c hc, g⟩
theorem as_note2 : Assoc [[0, 1], [1, 0]] ∧ Unit0 [[0, 1], [1, 0]] := by
  have h : ∀ a, a < 2 → ∀ b, b < 2 → ∀ c, c < 2 → tabAt [[0, 1], [1, 0]] (tabAt [[0, 1], [1, 0]] a b) c = tabAt [[0, 1], [1, 0]] a (tabAt [[0, 1], [1, 0]] b c) := by decide
  have g : ∀ m, m < 2 → tabAt [[0, 1], [1, 0]] 0 m = m ∧ tabAt [[0, 1], [1, 0]] m 0 = m := by decide
  exact ⟨fun a b c ha hb hc => h a ha b hb c hc, g⟩
def MonOk : Ly → Prop
  | .note _ t => Assoc t ∧ Unit0 t
  | _ => True
abbrev Names (L : List Ly) : Prop := (∀ l ∈ L, nmOk l.nm) ∧ (∀ l ∈ L, MonOk l) ∧ (L.map Ly.nm).Nodup ∧ prodF L ≤ 12
instance (x : Str) : Decidable (nmOk x) := by
  unfold nmOk
  exact inferInstance
theorem nm_nil : ∀ l ∈ ([] : List Ly), nmOk l.nm := fun _ h => absurd h List.not_mem_nil
theorem nm_cons {l : Ly} {L : List Ly} (h : nmOk l.nm) (g : ∀ x ∈ L, nmOk x.nm) : ∀ x ∈ l :: L, nmOk x.nm := List.forall_mem_cons.mpr ⟨h, g⟩
theorem mon_nil : ∀ l ∈ ([] : List Ly), MonOk l := fun _ h => absurd h List.not_mem_nil
theorem mon_cons {l : Ly} {L : List Ly} (h : MonOk l) (g : ∀ l ∈ L, MonOk l) : ∀ x ∈ l :: L, MonOk x := List.forall_mem_cons.mpr ⟨h, g⟩
theorem bk4_names (j : Nat) : Names (bk4 j).2 := by
  match j with
  | 0 => exact ⟨nm_cons (by decide +kernel) (nm_cons (by decide +kernel) (nm_cons (by decide +kernel) (nm_cons (by decide +kernel) (nm_cons (by decide +kernel) nm_nil)))), mon_cons trivial (mon_cons as_note3 (mon_cons trivial (mon_cons trivial (mon_cons trivial mon_nil)))), by decide +kernel, by decide⟩
  | 1 => exact ⟨nm_cons (by decide +kernel) (nm_cons (by decide +kernel) (nm_cons (by decide +kernel) (nm_cons (by decide +kernel) (nm_cons (by decide +kernel) nm_nil)))), mon_cons trivial (mon_cons trivial (mon_cons trivial (mon_cons trivial (mon_cons as_note2 mon_nil)))), by decide +kernel, by decide⟩
  | 2 => exact ⟨nm_cons (by decide +kernel) (nm_cons (by decide +kernel) (nm_cons (by decide +kernel) (nm_cons (by decide +kernel) (nm_cons (by decide +kernel) nm_nil)))), mon_cons as_note2 (mon_cons trivial (mon_cons trivial (mon_cons as_note3 (mon_cons trivial mon_nil)))), by decide +kernel, by decide⟩
  | j + 3 => exact ⟨nm_cons (by decide +kernel) (nm_cons (by decide +kernel) (nm_cons (by decide +kernel) (nm_cons (by decide +kernel) (nm_cons (by decide +kernel) nm_nil)))), mon_cons trivial (mon_cons trivial (mon_cons trivial (mon_cons trivial (mon_cons as_note3 mon_nil)))), (by decide +kernel : (L4.map Ly.nm).Nodup), (by decide : prodF L4 ≤ 12)⟩
theorem bk4_good (j : Nat) : ∀ l ∈ (bk4 j).2, l.Good := fun l hl => ⟨(bk4_ok j).2 l hl, (bk4_names j).1 l hl, by
  have := (bk4_names j).2.1 l hl
  cases l <;> exact this⟩
theorem ly_len {l : Ly} (h : l.Ok) (i : Nat) : (lyDs i l).length ≤ 7 := by
  cases l with
  | cell nm n =>
    obtain ⟨_, g⟩ : 2 ≤ n ∧ n ≤ 3 := h
    show (_ :: _ : List Dd).length ≤ 7
    rw [List.length_cons, List.length_map, List.length_range]
    omega
  | setting nm n => exact (by decide : 1 ≤ 7)
  | note nm t =>
    have g : t.length ≤ 6 := h.2.1
    show (List.map _ _).length ≤ 7
    rw [List.length_map, List.length_range]
    omega
  | fail nm n => exact (by decide : 0 ≤ 7)
  | outside nm ar =>
    have g : ar.length ≤ 2 := h.2.1
    show (List.map _ _).length ≤ 7
    rw [List.length_map, List.length_range]
    omega
theorem lys_len {L : List Ly} (h : LOk L) : ∀ i, (lysDs L i).length ≤ 7 * i
  | 0 => Nat.le_refl _
  | i + 1 => by
    have h1 := lys_len h i
    unfold lysDs
    rw [List.length_append]
    cases e : L[i]? with
    | none =>
      show _ + 0 ≤ _
      omega
    | some l =>
      have := ly_len (h.at e) i
      show _ + (lyDs i l).length ≤ _
      omega
theorem dds_map {w : Str} {g : Nat → Dd} {i n : Nat} (hg : ∀ x, (g x).d = .tup [.str w, ni (i + 1), ni x]) : (rangeD 0 n).map (fun x => D.tup [.str w, .int (0 + (i : Int) + 1), x]) = ddsD ((List.range n).map g) := by
  unfold rangeD ddsD
  rw [List.map_map, List.map_map]
  refine List.map_congr_left fun x _ => ?_
  show D.tup [.str w, .int (0 + (i : Int) + 1), .int (0 + (x : Int))] = (g x).d
  rw [hg x, Int.zero_add, Int.zero_add] <;> rfl
theorem dds_app (a b : List Dd) : ddsD a ++ ddsD b = ddsD (a ++ b) := by
  unfold ddsD
  rw [List.map_append]
theorem dds_len (a : List Dd) : (ddsD a).length = a.length := by
  unfold ddsD
  rw [List.length_map]
theorem deeds_body (cs : Cs) {De : DE} {M : Mem} {A : Sl} {L : List Ly} {i : Nat} {l : Ly} {acc : List Dd} (hl : L[i]? = some l) (hok : l.Ok) (ha : acc.length ≤ 1000)
    (k : De.nx [A, .d (lysD L), .own (ddsD (acc ++ lyDs i l)), .d (.int (0 + (i : Int))), .d l.d, .un, .un, .un] M) : b_law_deeds_10 cs De [A, .d (lysD L), .own (ddsD acc), .d (.int (0 + (i : Int))), .un, .un, .un, .un] M := by
  have at1 : (L.map Ly.d)[i]? = some l.d := by rw [List.getElem?_map, hl] <;> rfl
  have al : (ddsD acc).length ≤ 1000 := by rw [dds_len]; exact ha
  have one : ∀ {d : Dd} {x : D}, d.d = x → ddsD acc ++ [x] = ddsD (acc ++ [d]) := fun {d x} e => by
    rw [← e, ← dds_app] <;> rfl
  have ei : (0 : Int) + (i : Int) + 1 = ((i + 1 : Nat) : Int) := by omega
  refine ⟨_, ix_nat (Int.zero_add _) at1, ?_⟩
  cases l with
  | cell nm n =>
    obtain ⟨g1, g2⟩ : 2 ≤ n ∧ n ≤ 3 := hok
    have e1 : ddsD acc ++ [.tup [.str (Str.ofString "get"), .int (0 + (i : Int) + 1)]] ++ (rangeD 0 n).map (fun x => D.tup [.str (Str.ofString "put"), .int (0 + (i : Int) + 1), x]) = ddsD (acc ++ lyDs i (.cell nm n)) := by
      rw [dds_map (g := fun x => .put i x) (fun _ => rfl), one (d := .get i) (by rw [ei] <;> rfl), dds_app, List.append_assoc] <;> rfl
    refine ⟨_, rfl, fun _ => ?_, fun h => tf ((w_cell (.cell nm n)).symm.trans h)⟩
    refine ⟨sz (by rw [List.length_singleton]; omega), _, rfl, ⟨by show -(2 ^ 62 : Int) ≤ (n : Nat); omega, by show ((n : Nat) : Int) < 2 ^ 62; omega⟩, by rw [rangeD_len]; exact szl (by omega), ?_⟩
    rw [Int.toNat_natCast]
    refine lcGo_map (f := fun x => D.tup [.str (Str.ofString "put"), .int (0 + (i : Int) + 1), x]) (fun e he Θ k2 => k2 _ rfl) ?_
    refine ⟨_, _, rfl, rfl, ?_, ?_⟩
    · rw [List.length_append, List.length_singleton, List.nil_append, List.length_map, rangeD_len]
      exact sz (by omega)
    · rw [List.nil_append, e1]
      exact ⟨_, rfl, fun h => tf (h.symm.trans (w_set (.cell nm n))), fun _ => ⟨_, rfl, fun h => tf (h.symm.trans (w_note (.cell nm n))), fun _ => ⟨_, rfl, fun h => tf (h.symm.trans (w_out (.cell nm n))), fun _ => k⟩⟩⟩
  | setting nm n =>
    refine ⟨_, rfl, fun h => tf (h.symm.trans (w_cell (.setting nm n))), fun _ => ⟨_, rfl, fun _ => ?_, fun h => tf ((w_set (.setting nm n)).symm.trans h)⟩⟩
    refine ⟨⟨_, rfl⟩, szl (by omega), ?_⟩
    show dSeq _ _ De [A, .d (lysD L), .own (ddsD acc ++ [.tup [.str (Str.ofString "look"), .int (0 + (i : Int) + 1)]]), .d (.int (0 + (i : Int))), .d (Ly.setting nm n).d, .un, .un, .un] M
    rw [one (d := .look i) (by rw [ei] <;> rfl)]
    exact ⟨_, rfl, fun h => tf (h.symm.trans (w_note (.setting nm n))), fun _ => ⟨_, rfl, fun h => tf (h.symm.trans (w_out (.setting nm n))), fun _ => k⟩⟩
  | note nm t =>
    have g6 : t.length ≤ 6 := hok.2.1
    have el : (t.map rowD).length = t.length := List.length_map ..
    have e1 : ddsD acc ++ (rangeD 0 t.length).map (fun x => D.tup [.str (Str.ofString "note"), .int (0 + (i : Int) + 1), x]) = ddsD (acc ++ lyDs i (.note nm t)) := by
      rw [dds_map (g := fun x => .note i x) (fun _ => rfl), dds_app] <;> rfl
    refine ⟨_, rfl, fun h => tf (h.symm.trans (w_cell (.note nm t))), fun _ => ⟨_, rfl, fun h => tf (h.symm.trans (w_set (.note nm t))), fun _ => ⟨_, rfl, fun _ => ?_, fun h => tf ((w_note (.note nm t)).symm.trans h)⟩⟩⟩
    refine ⟨⟨_, rfl⟩, _, rfl, ⟨by omega, by omega⟩, by rw [rangeD_len]; exact szl (by omega), ?_⟩
    rw [el, Int.toNat_natCast]
    refine lcGo_map (f := fun x => D.tup [.str (Str.ofString "note"), .int (0 + (i : Int) + 1), x]) (fun e he Θ k2 => k2 _ rfl) ?_
    refine ⟨?_, ?_⟩
    · rw [List.nil_append, List.length_map, rangeD_len]
      exact sz (by omega)
    · rw [List.nil_append, e1]
      exact ⟨_, rfl, fun h => tf (h.symm.trans (w_out (.note nm t))), fun _ => k⟩
  | fail nm n =>
    have k' : De.nx [A, .d (lysD L), .own (ddsD acc), .d (.int (0 + (i : Int))), .d (Ly.fail nm n).d, .un, .un, .un] M := by
      have e : acc ++ lyDs i (.fail nm n) = acc := List.append_nil _
      rw [e] at k
      exact k
    exact ⟨_, rfl, fun h => tf (h.symm.trans (w_cell (.fail nm n))), fun _ => ⟨_, rfl, fun h => tf (h.symm.trans (w_set (.fail nm n))), fun _ => ⟨_, rfl, fun h => tf (h.symm.trans (w_note (.fail nm n))), fun _ => ⟨_, rfl, fun h => tf (h.symm.trans (w_out (.fail nm n))), fun _ => k'⟩⟩⟩⟩
  | outside nm ar =>
    have g2 : ar.length ≤ 2 := hok.2.1
    have el : (ar.map ni).length = ar.length := List.length_map ..
    have e1 : ddsD acc ++ (rangeD 0 ar.length).map (fun x => D.tup [.str (Str.ofString "ask"), .int (0 + (i : Int) + 1), x]) = ddsD (acc ++ lyDs i (.outside nm ar)) := by
      rw [dds_map (g := fun x => .ask i x) (fun _ => rfl), dds_app] <;> rfl
    refine ⟨_, rfl, fun h => tf (h.symm.trans (w_cell (.outside nm ar))), fun _ => ⟨_, rfl, fun h => tf (h.symm.trans (w_set (.outside nm ar))), fun _ => ⟨_, rfl, fun h => tf (h.symm.trans (w_note (.outside nm ar))), fun _ => ⟨_, rfl, fun _ => ?_, fun h => tf ((w_out (.outside nm ar)).symm.trans h)⟩⟩⟩⟩
    refine ⟨⟨_, rfl⟩, _, rfl, ⟨by omega, by omega⟩, by rw [rangeD_len]; exact szl (by omega), ?_⟩
    rw [el, Int.toNat_natCast]
    refine lcGo_map (f := fun x => D.tup [.str (Str.ofString "ask"), .int (0 + (i : Int) + 1), x]) (fun e he Θ k2 => k2 _ rfl) ?_
    refine ⟨?_, ?_⟩
    · rw [List.nil_append, List.length_map, rangeD_len]
      exact sz (by omega)
    · rw [List.nil_append, e1]
      exact k
theorem deeds_ker (cs : Cs) {De : DE} {M : Mem} {B : Sl} (j : Nat) (k : r_law_deeds_5 cs De [.d (.str (bk4 j).1), B, .own (ddsD (kerD j)), .un, .un, .un, .un, .un] M) : r_law_deeds_1 cs De [.d (.str (bk4 j).1), B, .own [], .un, .un, .un, .un, .un] M := by
  match j with
  | 0 => exact ⟨rfl, rfl, fun _ => ⟨⟨_, rfl⟩, szl (by decide), fun h => absurd h (by decide +kernel), fun _ => ⟨rfl, rfl, fun _ => ⟨⟨_, rfl⟩, sz (by decide), fun h => absurd h (by decide +kernel), fun _ => k⟩, fun h => absurd h (by decide +kernel)⟩⟩, fun h => absurd h (by decide +kernel)⟩
  | 1 => exact ⟨rfl, rfl, fun _ => ⟨⟨_, rfl⟩, szl (by decide), fun _ => ⟨⟨_, rfl⟩, szl (by decide), rfl, rfl, fun h => absurd h (by decide +kernel), fun _ => ⟨fun h => absurd h (by decide +kernel), fun _ => k⟩⟩, fun h => absurd h (by decide +kernel)⟩, fun h => absurd h (by decide +kernel)⟩
  | 2 => exact ⟨rfl, rfl, fun _ => ⟨⟨_, rfl⟩, szl (by decide), fun h => absurd h (by decide +kernel), fun _ => ⟨rfl, rfl, fun _ => ⟨⟨_, rfl⟩, sz (by decide), fun h => absurd h (by decide +kernel), fun _ => k⟩, fun h => absurd h (by decide +kernel)⟩⟩, fun h => absurd h (by decide +kernel)⟩
  | j + 3 =>
    show r_law_deeds_1 cs De [.d (.str ("twodraw" : Str)), B, .own [], .un, .un, .un, .un, .un] M
    exact ⟨rfl, rfl, fun h => absurd h (by decide +kernel), fun _ => ⟨fun h => absurd h (by decide +kernel), fun _ => ⟨rfl, rfl, fun _ => ⟨⟨_, rfl⟩, sz (by decide), fun _ => ⟨⟨_, rfl⟩, szl (by decide), k⟩, fun h => absurd h (by decide +kernel)⟩, fun h => absurd h (by decide +kernel)⟩⟩⟩
theorem ker_len (j : Nat) : (kerD j).length ≤ 4 := by
  match j with
  | 0 => decide
  | 1 => decide
  | 2 => decide
  | j + 3 => exact (by decide : 4 ≤ 4)
theorem red_law_deeds (cs : Cs) : ∀ ds M Φ Ψ, S_law_deeds cs ds M Φ Ψ → r_law_deeds cs (ends Φ) (startD 8 ds) M := by
  rintro ds M Φ Ψ ⟨j, rfl, q⟩
  have hL := bk4_ok j
  have h5 := bk4_len j
  refine deeds_ker cs j ?_
  show dForR 3 [3, 4] (dC (.int (((bk4 j).2.map Ly.d).length : Nat))) (b_law_deeds_10 cs) { ends Φ with nx := fun Δ2 M2 => r_law_deeds_6 cs (ends Φ) Δ2 M2 } _ M
  rw [List.length_map, h5]
  refine ⟨⟨by decide, by decide⟩, ?_⟩
  rw [Int.toNat_natCast]
  have h0 : ([.d (.str (bk4 j).1), .d (lysD (bk4 j).2), .own (ddsD (kerD j)), .un, .un, .un, .un, .un] : List Sl) = [.d (.str (bk4 j).1), .d (lysD (bk4 j).2), .own (ddsD (kerD j ++ lysDs (bk4 j).2 0)), .un, .un, .un, .un, .un] := by
    unfold lysDs
    rw [List.append_nil]
  refine loop_by (j := 3) (fun i => [.d (.str (bk4 j).1), .d (lysD (bk4 j).2), .own (ddsD (kerD j ++ lysDs (bk4 j).2 i)), .un, .un, .un, .un, .un]) h0 ?_ q
  intro i x hx
  obtain ⟨hi, rfl⟩ := rangeD_some hx
  obtain ⟨l, hl⟩ : ∃ l, (bk4 j).2[i]? = some l := ⟨_, at_lt (by omega)⟩
  have kl := ker_len j
  have ll := lys_len hL i
  refine deeds_body cs (A := .d (.str (bk4 j).1)) (acc := kerD j ++ lysDs (bk4 j).2 i) hl (hL.at hl) (by rw [List.length_append]; omega) ⟨?_, rfl⟩
  have e : kerD j ++ lysDs (bk4 j).2 (i + 1) = kerD j ++ lysDs (bk4 j).2 i ++ lyDs i l := by
    show _ ++ (lysDs (bk4 j).2 i ++ (match (bk4 j).2[i]? with
      | some l => lyDs i l
      | none => [])) = _
    rw [hl, List.append_assoc]
  rw [e] <;> rfl
end My

set_option Elab.async false
set_option linter.all false
set_option maxRecDepth 100000
set_option maxHeartbeats 4000000
namespace My
open PySem PySem.Spec PyProof.Rows L2 DL
open Evl (Ex)
/-! ### data that can be compared -/
structure Nice (n : Nat) (d : D) : Prop where
  p : d.pure = true
  c : d.py.canLay0 = true
  h : d.py.depth ≤ n
  e : PyData.eqv d.py d.py = true
theorem Nice.sh {n : Nat} {d : D} (h : Nice n d) (hn : n ≤ 64) : SeqAt.shaped d.py = true := by
  unfold SeqAt.shaped
  rw [h.c, decide_eq_true (Nat.le_trans h.h hn)] <;> rfl
theorem Nice.ne {n : Nat} {x y : D} {P : Prop} (h : Nice n x) (e : x = y) (g : (!PyData.eqv x.py y.py) = true) : P := by
  subst e
  rw [h.e] at g
  cases g
theorem Nice.int {n : Nat} (i : Int) : Nice n (.int i) := ⟨rfl, rfl, Nat.zero_le _, by show PyData.eqv (.int i) (.int i) = true; simp [PyData.eqv]⟩
theorem Nice.str {n : Nat} {x : Str} (h : PyData.strOk x = true) : Nice n (.str x) := ⟨rfl, h, Nat.zero_le _, by show PyData.eqv (.str x) (.str x) = true; simp [PyData.eqv]⟩
theorem nices {n : Nat} : ∀ {ds : List D}, (∀ d ∈ ds, Nice n d) → pures ds = true ∧ PyData.canLayAll0 (pys ds) = true ∧ PyData.depthAll (pys ds) ≤ n ∧ PyData.eqvAll (pys ds) (pys ds) = true
  | [], _ => ⟨rfl, rfl, Nat.zero_le _, rfl⟩
  | d :: ds, h => by
    have h1 := h d (List.mem_cons_self ..)
    obtain ⟨g1, g2, g3, g4⟩ := nices fun x hx => h x (List.mem_cons_of_mem _ hx)
    refine ⟨?_, ?_, ?_, ?_⟩
    · show (d.pure && pures ds) = true
      rw [h1.p, g1] <;> rfl
    · show (d.py.canLay0 && PyData.canLayAll0 (pys ds)) = true
      rw [h1.c, g2] <;> rfl
    · show max d.py.depth (PyData.depthAll (pys ds)) ≤ n
      have := h1.h
      omega
    · show (PyData.eqv d.py d.py && PyData.eqvAll (pys ds) (pys ds)) = true
      rw [h1.e, g4] <;> rfl
theorem Nice.tup {n : Nat} {ds : List D} (h : ∀ d ∈ ds, Nice n d) : Nice (n + 1) (.tup ds) := by
  obtain ⟨g1, g2, g3, g4⟩ := nices h
  refine ⟨g1, g2, ?_, ?_⟩
  · show PyData.depthAll (pys ds) + 1 ≤ n + 1
    omega
  · show PyData.eqv (.tuple (pys ds)) (.tuple (pys ds)) = true
    unfold PyData.eqv
    exact g4
theorem Nice.lst {n : Nat} {ds : List D} (h : ∀ d ∈ ds, Nice n d) : Nice (n + 1) (.lst ds) := by
  obtain ⟨g1, g2, g3, g4⟩ := nices h
  refine ⟨g1, g2, ?_, ?_⟩
  · show PyData.depthAll (pys ds) + 1 ≤ n + 1
    omega
  · show PyData.eqv (.list (pys ds)) (.list (pys ds)) = true
    unfold PyData.eqv
    exact g4
theorem Nice.nil {n : Nat} : ∀ d ∈ ([] : List D), Nice n d := fun _ h => absurd h List.not_mem_nil
theorem Nice.cons {n : Nat} {d : D} {ds : List D} (h : Nice n d) (g : ∀ x ∈ ds, Nice n x) : ∀ x ∈ d :: ds, Nice n x := List.forall_mem_cons.mpr ⟨h, g⟩
theorem nice_st {n : Nat} (s : List Int) : ∀ d ∈ stD s, Nice n d := fun d h => by
  obtain ⟨i, _, rfl⟩ := List.mem_map.mp h
  exact Nice.int i
theorem nice_s3 (n : Nat) (s : List Int) : Nice (n + 1) (S3 s) := Nice.tup (nice_st s)
theorem nice_sl (n : Nat) (s : List Int) : Nice (n + 1) (SL s) := Nice.lst (nice_st s)
theorem nice_rows (R : List (List Int)) : Nice 2 (rowsD R) := Nice.lst fun d h => by
  obtain ⟨r, _, rfl⟩ := List.mem_map.mp h
  exact nice_s3 0 r
/-! ### the law's end -/
theorem mod_nat {k n : Int} {N : Nat} (hn : n = (N : Nat)) (h : 0 < N) : ∃ i : Nat, k % n = (i : Int) ∧ i < N := by
  subst hn
  have h1 := Int.emod_nonneg k (b := (N : Int)) (by omega)
  have h2 := Int.emod_lt_of_pos k (b := (N : Int)) (by omega)
  exact ⟨(k % (N : Int)).toNat, by omega, by omega⟩
theorem row_get {n : Nat} {r : List Int} (h : Row n r) {i : Nat} (hi : i < n) : ∃ x : Int, (stD r)[i]? = some (.int x) ∧ 0 ≤ x ∧ x < 1000 := by
  have hl := h.1
  have h1 : r[i]? = some r[i] := List.getElem?_eq_getElem (by omega)
  exact ⟨r[i], stD_at h1, h.2 _ (List.getElem_mem _)⟩
def failF (L : List Ly) : D → Option D
  | .int k => match L[k.toNat]? with
    | some (.fail _ _) => some (.int (k + 1))
    | _ => none
  | _ => none
theorem fail_mem {L : List Ly} {x : D} (h : x ∈ (rangeD 0 L.length).filterMap (failF L)) : ∃ (i : Nat) (nm : Str) (n : Nat), x = .int ((i : Int) + 1) ∧ L[i]? = some (Ly.fail nm n) := by
  obtain ⟨y, hy, e⟩ := List.mem_filterMap.mp h
  obtain ⟨i, hi, rfl⟩ := List.mem_map.mp hy
  have e' : (match L[(0 + (i : Int)).toNat]? with
    | some (.fail _ _) => some (D.int (0 + (i : Int) + 1))
    | _ => none) = some x := e
  rw [Int.zero_add, Int.toNat_natCast] at e'
  split at e'
  · rename_i nm n hl
    cases e'
    exact ⟨i, nm, n, rfl, hl⟩
  · cases e'
def Ly.isF : Ly → Bool
  | .fail _ _ => true | _ => false
theorem fail_yes {L : List Ly} {i n : Nat} {nm : Str} (hl : L[i]? = some (.fail nm n)) : failF L (.int (0 + (i : Int))) = some (.int (0 + (i : Int) + 1)) := by
  show (match L[(0 + (i : Int)).toNat]? with
    | some (.fail _ _) => some (D.int (0 + (i : Int) + 1))
    | _ => none) = _
  rw [show (0 + (i : Int)).toNat = i by omega, hl]
theorem fail_no {L : List Ly} {i : Nat} {l : Ly} (hl : L[i]? = some l) (h : l.isF = false) : failF L (.int (0 + (i : Int))) = none := by
  show (match L[(0 + (i : Int)).toNat]? with
    | some (.fail _ _) => some (D.int (0 + (i : Int) + 1))
    | _ => none) = _
  rw [show (0 + (i : Int)).toNat = i by omega, hl]
  cases l with
  | fail _ _ => cases h
  | _ => rfl
theorem red_law_end (cs : Cs) : ∀ ds M Φ Ψ, S_law_end cs ds M Φ Ψ → r_law_end cs (ends Φ) (startD 8 ds) M := by
  rintro ds M Φ Ψ ⟨L, s, r, rfl, hL, hs, hr, q⟩
  have h5 := hL.1
  have el : (L.map Ly.d).length = L.length := List.length_map ..
  obtain ⟨x0, a0, _, _⟩ := row_get hr (i := 0) (by decide)
  obtain ⟨x1, a1, _, _⟩ := row_get hr (i := 1) (by decide)
  obtain ⟨x2, a2, _, _⟩ := row_get hr (i := 2) (by decide)
  -- a text
  have txt : ∀ K z4 z5 z6, r_law_end_2 cs (ends Φ) [.d (lysD L), .d (SL s), .d (SL r), K, z4, z5, z6, .un] M := by
    intro K z4 z5 z6
    obtain ⟨i, hi, h3⟩ := mod_nat (k := x1) (n := 3) (N := 3) rfl (by decide)
    obtain ⟨x, hx, hok⟩ : ∃ x : Str, [D.str (Str.ofString "0"), D.str (Str.ofString "(1 0)"), D.str (Str.ofString "12")][i]? = some (.str x) ∧ En.Ok L (.ret x) := by
      match i, h3 with
      | 0, _ => exact ⟨_, rfl, by decide, by decide +kernel⟩
      | 1, _ => exact ⟨_, rfl, by decide, by decide +kernel⟩
      | 2, _ => exact ⟨_, rfl, by decide, by decide +kernel⟩
    refine ⟨_, ix_nat rfl a1, (by show (0 : Int) < 3; decide), _, ix_nat hi hx, L, (L.map Ly.d).length, s, _, rfl, .inr rfl, h5, by omega, hs, ?_⟩
    have k : Φ (.tup [(En.ret x).d, .tup [.str (Str.ofString "done"), .str x, S3 (keepF L s L.length)]]) M := q (.ret x) hok
    rw [← el] at k
    exact k
  refine ⟨⟨by omega, by omega⟩, by rw [rangeD_len, Int.toNat_natCast]; exact szl (by omega), ?_⟩
  rw [el, Int.toNat_natCast]
  refine lcGo_fm (f := failF L) (fun x hx Θ Θ' h1 h2 => ?_) ?_
  · obtain ⟨i, hi, rfl⟩ := List.mem_map.mp hx
    have hi := List.mem_range.mp hi
    obtain ⟨l, hl⟩ : ∃ l, L[i]? = some l := ⟨_, at_lt hi⟩
    have at1 : (L.map Ly.d)[i]? = some l.d := by rw [List.getElem?_map, hl] <;> rfl
    refine ⟨_, ix_nat (Int.zero_add _) at1, _, rfl, fun h => ?_, fun h => ?_⟩
    · cases l with
      | fail nm n => exact h1 _ _ rfl (fail_yes hl)
      | cell nm n => exact tf (h.symm.trans (w_fail (.cell nm n)))
      | setting nm n => exact tf (h.symm.trans (w_fail (.setting nm n)))
      | note nm n => exact tf (h.symm.trans (w_fail (.note nm n)))
      | outside nm n => exact tf (h.symm.trans (w_fail (.outside nm n)))
    · cases l with
      | fail nm n => exact tf ((w_fail (.fail nm n)).symm.trans h)
      | _ => exact h2 _ rfl (fail_no hl rfl)
  · rw [List.nil_append]
    generalize hK : (rangeD 0 L.length).filterMap (failF L) = K
    have hm : ∀ x ∈ K, ∃ (i : Nat) (nm : Str) (n : Nat), x = .int ((i : Int) + 1) ∧ L[i]? = some (Ly.fail nm n) := fun x hx => fail_mem (by rw [hK]; exact hx)
    have nk : Nice 1 (.lst K) := Nice.lst fun d h => by
      obtain ⟨i, _, _, rfl, _⟩ := hm d h
      exact Nice.int _
    show r_law_end_1 cs (ends Φ) [.d (lysD L), .d (SL s), .d (SL r), .d (.lst K), .un, .un, .un, .un] M
    refine ⟨_, ix_nat rfl a0, (by show (0 : Int) < 3; decide), fun _ => ?_, fun _ => txt _ _ _ _⟩
    refine ⟨_, _, rfl, rfl, nk.p, rfl, nk.sh (by decide), by decide, fun h => ?_, fun _ => txt _ _ _ _⟩
    cases K with
    | nil => exact absurd h (by decide)
    | cons y K =>
      obtain ⟨i, hi, hlt⟩ := mod_nat (k := x1) (n := ((y :: K).length : Nat)) (N := (y :: K).length) rfl (Nat.succ_pos _)
      have hx := List.getElem?_eq_getElem hlt
      obtain ⟨p, nm, n, e1, e2⟩ := hm _ (List.getElem_mem hlt)
      rw [e1] at hx
      have hn : 1 ≤ n ∧ n ≤ 3 := hL.at e2
      obtain ⟨j, hj, _⟩ := mod_nat (k := x2) (n := (n : Nat)) (N := n) rfl (by omega)
      refine ⟨_, ix_nat rfl a1, (by show (0 : Int) < ((y :: K).length : Nat); rw [List.length_cons]; omega), _, ix_nat hi hx, ?_⟩
      refine ⟨_, ix_nat rfl a2, _, ix_nat (show (p : Int) + 1 - 1 = (p : Nat) by omega) (show (L.map Ly.d)[p]? = some (Ly.fail nm n).d by rw [List.getElem?_map, e2] <;> rfl), _, rfl, (by show (0 : Int) < (n : Nat); omega), ?_⟩
      refine ⟨L, p, s, _, rfl, .inr rfl, h5, ?_, hs, ?_⟩
      · have := lt_of_some e2
        omega
      · have k := q (.fail p j) (lt_of_some e2)
        show Φ (.tup [.tup [.str (Str.ofString "fail"), .int ((p : Int) + 1), .int (x2 % (n : Nat))], .tup [.str (Str.ofString "fail"), .int ((p : Int) + 1), .int (x2 % (n : Nat)), S3 (keepF L s p)]]) M
        rw [hj]
        exact k
end My

set_option Elab.async false
set_option linter.all false
set_option maxRecDepth 100000
set_option maxHeartbeats 4000000
namespace My
open PySem PySem.Spec PyProof.Rows L2 DL
open Evl (Ex)
/-! ### the law's states -/
theorem zeros_ok {L : List Ly} (h5 : L.length = 5) : startsF L 5 (List.replicate 5 0) = rowsF L 5 := by
  unfold startsF
  rw [show (List.replicate 5 (0 : Int)).drop 5 = [] from rfl]
  exact (List.map_congr_left fun x _ => List.append_nil x).trans (List.map_id _)
theorem set_one {s : List Int} (h : s.length = 5) : ∃ a, s[0]? = some a ∧ S3 (s.set 1 1) = .tup ([.int a, .int 1] ++ stD (s.drop 2)) := by
  match s, h with
  | [a, b, c, d, e], _ => exact ⟨a, rfl, rfl⟩
theorem st_ok_set {L : List Ly} {s : List Int} (h : StOk L s) {i : Nat} {nm : Str} {t : List (List Nat)} (e : L[i]? = some (.note nm t)) {x : Nat} (hx : x < t.length) : StOk L (s.set i (x : Int)) := by
  refine ⟨by rw [List.length_set]; exact h.1, fun j nm' t' ej => ?_⟩
  obtain ⟨y, h1, h2⟩ := h.2 j nm' t' ej
  by_cases c : i = j
  · subst c
    rw [e] at ej
    cases ej
    exact ⟨x, by rw [List.getElem?_set_self (lt_of_some h1)], hx⟩
  · exact ⟨y, by rw [List.getElem?_set_ne c]; exact h1, h2⟩
theorem red_law_states (cs : Cs) : ∀ ds M Φ Ψ, S_law_states cs ds M Φ Ψ → r_law_states cs (ends Φ) (startD 10 ds) M := by
  rintro ds M Φ Ψ ⟨b, L, r, rfl, hb, hL, h5, hr, q⟩
  have el : (L.map Ly.d).length = 5 := by rw [List.length_map, h5]
  obtain ⟨x0, a0, _, _⟩ := row_get hr (i := 0) (by decide)
  obtain ⟨x6, a6, _, _⟩ := row_get hr (i := 6) (by decide)
  obtain ⟨x7, a7, _, _⟩ := row_get hr (i := 7) (by decide)
  show dSeq (dSet 3 (dOp dRepT (dTup (dCons (dC (.int 0)) dNil)) (dC (.int ((L.map Ly.d).length : Nat))))) (r_law_states_1 cs) (ends Φ) [.d (.ref b), .d (lysD L), .d (SL r), .un, .un, .un, .un, .un, .un, .un] M
  rw [el]
  refine ⟨⟨(fun h => nomatch h), by decide, by decide, by decide⟩, ?_⟩
  show dSeq (dSet 4 (dCall (S_law_starts cs) (dCons (dVar 1) (dCons (dOp dAddT (dC (.int ((L.map Ly.d).length : Nat))) (dC (.int 1))) (dCons (dVar 3) dNil))))) (r_law_states_2 cs) (ends Φ) [.d (.ref b), .d (lysD L), .d (SL r), .d (S3 (List.replicate 5 0)), .un, .un, .un, .un, .un, .un] M
  rw [el]
  refine ⟨L, 5, List.replicate 5 0, rfl, hL, by omega, by rw [h5] <;> rfl, ?_⟩
  rw [zeros_ok h5]
  have nr := nice_rows (rowsF L 5)
  refine ⟨b, L, rfl, hb, hL, ?_⟩
  rw [h5]
  refine ⟨nr.p, nr.p, nr.sh (by decide), nr.sh (by decide), fun h => nr.ne rfl h, fun _ => ?_⟩
  have lr := rowsF_len hL 5
  obtain ⟨i0, hi0, hl0⟩ := mod_nat (k := x0) (n := (((rowsF L 5).map S3).length : Nat)) (N := ((rowsF L 5).map S3).length) rfl (by rw [List.length_map]; omega)
  obtain ⟨s0, hs0⟩ : ∃ s0, (rowsF L 5)[i0]? = some s0 := ⟨_, List.getElem?_eq_getElem (by rw [List.length_map] at hl0; exact hl0)⟩
  refine ⟨_, ix_nat rfl a0, (by show (0 : Int) < (((rowsF L 5).map S3).length : Nat); rw [List.length_map]; omega), S3 s0, ix_nat hi0 (by rw [List.getElem?_map, hs0] <;> rfl), ?_⟩
  have ok0 : StOk L s0 := starts_ok hL (by rw [h5]; exact List.mem_of_getElem? hs0)
  show dSeq (dForR 6 [6] (dC (.int ((L.map Ly.d).length : Nat))) (b_law_states_6 cs)) (r_law_states_5 cs) (ends Φ) [.d (.ref b), .d (lysD L), .d (SL r), .d (S3 (List.replicate 5 0)), .d (rowsD (rowsF L 5)), .own (stD s0), .un, .un, .un, .un] M
  rw [el]
  refine ⟨⟨by decide, by decide⟩, ?_⟩
  rw [Int.toNat_natCast]
  refine ⟨fun i Δ M' => ∃ s, StOk L s ∧ Δ = [.d (.ref b), .d (lysD L), .d (SL r), .d (S3 (List.replicate 5 0)), .d (rowsD (rowsF L 5)), .own (stD s), .un, .un, .un, .un] ∧ M' = M, ⟨s0, ok0, rfl, rfl⟩, ?_, ?_⟩
  · rintro i x Δ1 M1 hx ⟨s, ok, rfl, rfl⟩
    obtain ⟨hi, rfl⟩ := rangeD_some hx
    obtain ⟨l, hl⟩ : ∃ l, L[i]? = some l := ⟨_, at_lt (by omega)⟩
    have at1 : (L.map Ly.d)[i]? = some l.d := by rw [List.getElem?_map, hl] <;> rfl
    have skip : ∀ h : Prop, (∃ s2, StOk L s2 ∧ ([.d (.ref b), .d (lysD L), .d (SL r), .d (S3 (List.replicate 5 0)), .d (rowsD (rowsF L 5)), .own (stD s), .un, .un, .un, .un] : List Sl) = [.d (.ref b), .d (lysD L), .d (SL r), .d (S3 (List.replicate 5 0)), .d (rowsD (rowsF L 5)), .own (stD s2), .un, .un, .un, .un] ∧ M1 = M1) := fun _ => ⟨s, ok, rfl, rfl⟩
    refine ⟨_, ix_nat (Int.zero_add _) at1, _, rfl, fun h => ?_, fun _ => skip True⟩
    cases l with
    | note nm t =>
      have ht : TabOk t := hL.at hl
      have et : (t.map rowD).length = t.length := List.length_map ..
      obtain ⟨xi, ai, _, _⟩ := row_get hr (i := 1 + i) (by omega)
      obtain ⟨y, hy, hyl⟩ := mod_nat (k := xi) (n := ((t.map rowD).length : Nat)) (N := (t.map rowD).length) rfl (by rw [et]; have := ht.1; omega)
      refine ⟨_, ix_nat (show (1 : Int) + (0 + (i : Int)) = ((1 + i : Nat) : Int) by omega) ai, _, ix_nat (Int.zero_add _) at1, _, rfl, (by show (0 : Int) < ((t.map rowD).length : Nat); rw [et]; have := ht.1; omega), ⟨_, rfl⟩, i, own_ix (Int.zero_add _) (by rw [stD_len, ok.1]; omega), s.set i (y : Int), st_ok_set ok hl (by omega), ?_, rfl⟩
      show [_, _, _, _, _, Sl.own ((stD s).set i (.int (xi % ((t.map rowD).length : Nat)))), _, _, _, _] = _
      rw [hy, stD_set] <;> rfl
    | cell nm n => exact tf (h.symm.trans (w_note (.cell nm n)))
    | setting nm n => exact tf (h.symm.trans (w_note (.setting nm n)))
    | fail nm n => exact tf (h.symm.trans (w_note (.fail nm n)))
    | outside nm n => exact tf (h.symm.trans (w_note (.outside nm n)))
  · rintro Δ1 M1 ⟨s, ok, rfl, rfl⟩
    have ss : s.length = 5 := ok.1.trans h5
    show dSeq (dSet 7 (dOp dAddT (dC (.int 1)) (dOp (dIC (fun _ j => 0 < j) fun i j => .int (i % j)) (dOp dIx (dVar 2) (dC (.int 6))) (dOp dAddT (dC (.int ((L.map Ly.d).length : Nat))) (dC (.int 1)))))) (r_law_states_7 cs) (ends Φ) [.d (.ref b), .d (lysD L), .d (SL r), .d (S3 (List.replicate 5 0)), .d (rowsD (rowsF L 5)), .d (S3 s), .un, .un, .un, .un] M1
    rw [el]
    obtain ⟨m, hm, hm6⟩ := mod_nat (k := x6) (n := ((5 : Nat) : Int) + 1) (N := 6) rfl (by decide)
    refine ⟨_, ix_nat rfl a6, (by show (0 : Int) < ((5 : Nat) : Int) + 1; decide), ?_⟩
    show r_law_states_7 cs (ends Φ) [.d (.ref b), .d (lysD L), .d (SL r), .d (S3 (List.replicate 5 0)), .d (rowsD (rowsF L 5)), .d (S3 s), .un, .d (.int (1 + x6 % (((5 : Nat) : Int) + 1))), .un, .un] M1
    rw [hm, show (1 : Int) + (m : Nat) = (m : Int) + 1 by omega]
    have nb := nice_rows (startsF L m s)
    have sl : (startsF L m s).length ≤ 243 := by
      unfold startsF
      rw [List.length_map]
      exact Nat.le_trans (rowsF_len hL m).2 (pow5 (by omega))
    refine ⟨L, m, s, rfl, hL, by omega, ok.1, ?_⟩
    refine ⟨b, L, m, s, rfl, hb, hL, by omega, by omega, ?_⟩
    refine ⟨nb.p, nb.p, nb.sh (by decide), nb.sh (by decide), fun h => nb.ne rfl h, fun _ => ?_⟩
    show dSeq (dForR 6 [6] (dC (.int (((startsF L m s).map S3).length : Nat))) (b_law_states_14 cs)) (r_law_states_10 cs) (ends Φ) [.d (.ref b), .d (lysD L), .d (SL r), .d (S3 (List.replicate 5 0)), .d (rowsD (rowsF L 5)), .d (S3 s), .un, .d (.int ((m : Int) + 1)), .d (rowsD (startsF L m s)), .un] M1
    rw [List.length_map]
    refine ⟨⟨by omega, by omega⟩, ?_⟩
    rw [Int.toNat_natCast]
    refine loop_by (j := 6) (fun _ => [.d (.ref b), .d (lysD L), .d (SL r), .d (S3 (List.replicate 5 0)), .d (rowsD (rowsF L 5)), .d (S3 s), .un, .d (.int ((m : Int) + 1)), .d (rowsD (startsF L m s)), .un]) rfl ?_ ?_
    · intro j x hx
      obtain ⟨hj, rfl⟩ := rangeD_some hx
      have hj' : j < (rowsF L m).length := by
        unfold startsF at hj
        rw [List.length_map] at hj
        exact hj
      have hrow : (rowsF L m)[j]? = some (rowsF L m)[j] := List.getElem?_eq_getElem hj'
      refine ⟨_, ix_nat (Int.zero_add _) (show ((startsF L m s).map S3)[j]? = some (S3 ((rowsF L m)[j] ++ s.drop m)) by rw [List.getElem?_map]; unfold startsF; rw [List.getElem?_map, hrow] <;> rfl), b, L, m, j, _, s.drop m, rfl, hb, hL, by omega, hrow, fun h => ?_, fun _ => ⟨rfl, rfl⟩⟩
      exact neI (Int.zero_add _).symm h
    · have nk := nice_s3 0 (keepF L s m)
      refine ⟨b, L, m, s, rfl, hb, by omega, ok.1, L, m, s, _, rfl, .inl rfl, by omega, by omega, ok.1, ?_⟩
      refine ⟨nk.p, nk.p, nk.sh (by decide), nk.sh (by decide), fun h => nk.ne rfl h, fun _ => ?_⟩
      obtain ⟨a, ha, es⟩ := set_one ss
      have nc := nice_s3 0 (s.set 1 1)
      have e2 : DL.cutD (stD s) (some 2) none = stD (s.drop 2) := cut_hi (m := 2) rfl
      refine ⟨s, 1, 1, rfl, by omega, by omega, _, ix_nat rfl (stD_at ha), ?_⟩
      show dAddT (.tup [.int a, .int 1]) (.tup (DL.cutD (stD s) (some 2) none)) (fun y => dNeA (S3 (s.set 1 1)) y fun d => (match d with
        | .bl k => bs k fun k => (match k with
          | true => Φ (.bl false) M1
          | false => r_law_states_12 cs (ends Φ) [.d (.ref b), .d (lysD L), .d (SL r), .d (S3 (List.replicate 5 0)), .d (rowsD (rowsF L 5)), .d (S3 s), .un, .d (.int ((m : Int) + 1)), .d (rowsD (startsF L m s)), .un] M1)
        | _ => False))
      rw [e2]
      refine ⟨by rw [stD_len, List.length_drop]; exact sz (by rw [ss]; show 2 + 3 ≤ 100000; decide), ?_⟩
      rw [← es]
      refine ⟨nc.p, nc.p, nc.sh (by decide), nc.sh (by decide), fun h => nc.ne rfl h, fun _ => ?_⟩
      show dSeq (dForR 6 [6] (dC (.int ((L.map Ly.d).length : Nat))) (b_law_states_21 cs)) (r_law_states_13 cs) (ends Φ) [.d (.ref b), .d (lysD L), .d (SL r), .d (S3 (List.replicate 5 0)), .d (rowsD (rowsF L 5)), .d (S3 s), .un, .d (.int ((m : Int) + 1)), .d (rowsD (startsF L m s)), .un] M1
      rw [el]
      refine ⟨⟨by decide, by decide⟩, ?_⟩
      rw [Int.toNat_natCast]
      refine ⟨fun i Δ M' => ∃ z4 z9, Δ = [.d (.ref b), .d (lysD L), .d (SL r), .d (S3 (List.replicate 5 0)), z4, .d (S3 s), .un, .d (.int ((m : Int) + 1)), .d (rowsD (startsF L m s)), z9] ∧ M' = M1, ⟨_, _, rfl, rfl⟩, ?_, ?_⟩
      · rintro i x Δ2 M2 hx ⟨z4, z9, rfl, rfl⟩
        obtain ⟨hi, rfl⟩ := rangeD_some hx
        obtain ⟨l, hl⟩ : ∃ l, L[i]? = some l := ⟨_, at_lt (by omega)⟩
        have at1 : (L.map Ly.d)[i]? = some l.d := by rw [List.getElem?_map, hl] <;> rfl
        refine ⟨_, ix_nat (Int.zero_add _) at1, _, rfl, fun h => ?_, fun _ => ⟨_, _, rfl, rfl⟩⟩
        cases l with
        | note nm t =>
          have ht : TabOk t := hL.at hl
          have et : (t.map rowD).length = t.length := List.length_map ..
          obtain ⟨y, hy, hyl⟩ := mod_nat (k := x7) (n := ((t.map rowD).length : Nat)) (N := (t.map rowD).length) rfl (by rw [et]; have := ht.1; omega)
          rw [et] at hyl
          obtain ⟨w, h1, h2⟩ := ok.2 i nm t hl
          obtain ⟨_, rw', t1, t2⟩ := tabAt_lt ht h2 hyl
          have his : i < s.length := lt_of_some h1
          refine ⟨_, ix_nat rfl a7, _, ix_nat (Int.zero_add _) at1, _, rfl, (by show (0 : Int) < ((t.map rowD).length : Nat); rw [et]; have := ht.1; omega), ?_⟩
          have c1 : DL.cutD (stD s) none (some (0 + (i : Int))) = stD (s.take i) := cut_lo (Int.zero_add _) (by omega)
          have c2 : DL.cutD (stD s) (some (0 + (i : Int) + 1)) none = stD (s.drop (i + 1)) := cut_hi (show (0 : Int) + (i : Int) + 1 = ((i + 1 : Nat) : Int) by omega)
          have ns := nice_s3 0 (s.set i ((tabAt t w y : Nat) : Int))
          have e3 : stD (s.take i) ++ [ni (tabAt t w y)] ++ stD (s.drop (i + 1)) = stD (s.set i ((tabAt t w y : Nat) : Int)) := by
            rw [← set_split his, ← stD_app, List.append_assoc] <;> rfl
          refine ⟨_, ix_nat (Int.zero_add _) at1, _, rfl, _, ix_nat (Int.zero_add _) (stD_at h1), _, ix_nat rfl (tab_at t1), _, ix_nat hy (row_at t2), ?_⟩
          refine ⟨by rw [c1, stD_len, List.length_take]; exact sz (by rw [List.length_singleton]; omega), by rw [List.length_append, c1, c2, stD_len, stD_len, List.length_take, List.length_drop]; exact sz (by rw [List.length_singleton]; omega), ?_⟩
          refine ⟨b, L, s, i, nm, t, w, y, ?_, hb, hl, ht, h1, h2, hyl, by omega, ?_⟩
          · show [D.ref b, S3 s, .int (0 + (i : Int) + 1), .int (x7 % ((t.map rowD).length : Nat))] = _
            rw [hy, Int.zero_add] <;> rfl
          · have e4 : S3 (s.set i ((tabAt t w y : Nat) : Int)) = .tup (DL.cutD (stD s) none (some (0 + (i : Int))) ++ [ni (tabAt t w y)] ++ DL.cutD (stD s) (some (0 + (i : Int) + 1)) none) := by
              rw [c1, c2, e3]
            refine ⟨ns.p, e4 ▸ ns.p, ns.sh (by decide), e4 ▸ ns.sh (by decide), fun h => ns.ne e4 h, fun _ => ⟨_, _, rfl, rfl⟩⟩
        | cell nm n => exact tf (h.symm.trans (w_note (.cell nm n)))
        | setting nm n => exact tf (h.symm.trans (w_note (.setting nm n)))
        | fail nm n => exact tf (h.symm.trans (w_note (.fail nm n)))
        | outside nm n => exact tf (h.symm.trans (w_note (.outside nm n)))
      · rintro Δ2 M2 ⟨z4, z9, rfl, rfl⟩
        exact q
end My

set_option Elab.async false
set_option linter.all false
set_option maxRecDepth 100000
set_option maxHeartbeats 4000000
namespace My
open PySem PySem.Spec PyProof.Rows L2 DL
open Evl (Ex)
/-! ### the law: one turn -/
def gl9 (cs : Cs) : RS := (dIfS (dOr (dTest (dOp dNeA (dFld cs.Play "state" (dVar 9)) (dTpl (dVar 11)))) (dOr (dTest (dOp dNeA (dFld cs.Play "taken" (dVar 9)) (dVar 14))) (dOr (dTest (dOp dNeA (dFld cs.Play "deeds" (dVar 9)) (dOp dAddT (dVar 15) (dC (.int 1))))) (dTest (dEqR true (dFld cs.Play "trail" (dVar 9)) (dVar 13)))))) (dRet (dC (.bl false))) dNext)
def gl8 (cs : Cs) : RS := dSeq (dApp 12 (dVar 11)) (gl9 cs)
def gl7 (cs : Cs) : RS := dSeq (dIfS (dTest (dOp dEqA (dOp (dIC (fun _ j => 0 < j) fun i j => .int (i % j)) (dOp dIx (dVar 16) (dC (.int 1))) (dC (.int 9))) (dC (.int 0)))) (dSeq (dSet 20 (dOp dAddT (dC (.int 1)) (dOp (dIC (fun _ j => 0 < j) fun i j => .int (i % j)) (dCB dInt (dCons (dOp dIx (dVar 16) (dC (.int 2))) dNil)) (dCB dLen (dCons (dVar 3) dNil))))) (dSeq (dSet 21 (dIxO 12 (dOp (dIC (fun _ j => 0 < j) fun i j => .int (i % j)) (dCB dInt (dCons (dOp dIx (dVar 16) (dC (.int 2))) dNil)) (dLenO 12)))) (dSeq (dSet 11 (dCall (S_law_back cs) (dCons (dVar 3) (dCons (dVar 11) (dCons (dVar 20) (dCons (dVar 21) dNil)))))) (dDrop (dMeth cs.Play "restore" (S_Play_restore cs) (dVar 9) (dCons (dVar 20) (dCons (dTpl (dVar 21)) dNil))))))) dNext) (gl8 cs)
def gl6 (cs : Cs) : RS := dSeq (dIfS (dOr (dNot (dTruth (dIsi "int" (dVar 19)))) (dOr (dTruth (dIsi "bool" (dVar 19))) (dTest (dOp dNeA (dVar 19) (dVar 18))))) (dRet (dC (.bl false))) dNext) (gl7 cs)
def gl5 (cs : Cs) : RS := dSeq (dSet 19 (dMeth cs.Play "answer" (S_Play_answer cs) (dVar 9) (dCons (dVar 17) dNil))) (gl6 cs)
def gl4 (cs : Cs) : RS := dSeq (dUnp [18, 11] (dCall (S_law_step cs) (dCons (dVar 3) (dCons (dVar 11) (dCons (dVar 17) (dCons (dVar 7) (dCons (dVar 13) dNil))))))) (gl5 cs)
def gl3 (cs : Cs) : RS := dSeq (dIfS (dTest (dOp (dInA false) (dOp dIx (dVar 17) (dC (.int 0))) (dTup (dCons (dC (.str (Str.ofString "choose"))) (dCons (dC (.str (Str.ofString "draw"))) (dCons (dC (.str (Str.ofString "ask"))) dNil)))))) (dSeq (dIfS (dTest (dOp dLt (dVar 14) (dCB dLen (dCons (dVar 6) dNil)))) (dSet 7 (dOp dIx (dVar 6) (dVar 14))) dNext) (dSet 14 (dOp dAddT (dVar 14) (dC (.int 1))))) dNext) (gl4 cs)
abbrev sl24 (ns row : List Int) (j : Nat) (b : Addr) (s0 sc : List Int) (p t : Addr) (s : List Int) (seen : List (List Int)) (tk : Nat) (z7 z15 z16 z17 z18 z19 z20 z21 : Sl) : List Sl :=
  [.d (.scr ns), .d (SL row), .d (.str (bk4 j).1), .d (lysD (bk4 j).2), .d (.ref b), .d (S3 s0), .d (SL sc), z7, .d (SL sc), .d (.ref p), .d (.lst (ddsD (kerD j ++ lysDs (bk4 j).2 5))), .d (SL s), .own (seen.map SL), .d (.ref t), .d (ni tk), z15, z16, z17, z18, z19, z20, z21, .un, .un]
section
variable {cs : Cs} {De : DE} {M : Mem} {ns row s0 sc s : List Int} {seen : List (List Int)} {i j tk : Nat} {b p q t : Addr} {tr : List D} {z7 z15 z16 z17 z18 z19 z20 z21 : Sl}
theorem t9 (h : PlayAt cs M p b q (bk4 j).2 s sc tk (i + 1) tr) (ht : M t = some (.lst tr)) (hn : ∀ d ∈ tr, Nice 3 d) (k : De.nx (sl24 ns row j b s0 sc p t s seen tk z7 (.d (.int (0 + (i : Int)))) z16 z17 z18 z19 z20 z21) M) :
    gl9 cs De (sl24 ns row j b s0 sc p t s seen tk z7 (.d (.int (0 + (i : Int)))) z16 z17 z18 z19 z20 z21) M := by
  have n1 := nice_s3 0 s
  have n2 : Nice 4 (.lst tr) := Nice.lst hn
  refine ⟨_, _, h.pl, rfl, n1.p, n1.p, n1.sh (by decide), n1.sh (by decide), fun g => n1.ne rfl g, fun _ => ?_⟩
  refine ⟨_, _, h.pl, rfl, fun g => neI rfl g, fun _ => ?_⟩
  refine ⟨_, _, h.pl, rfl, fun g => neI (by omega) g, fun _ => ?_⟩
  exact ⟨_, _, h.pl, rfl, .lst tr, .lst tr, ⟨_, h.tr, rfl⟩, ⟨_, ht, rfl⟩, n2.p, n2.p, n2.sh (by decide), n2.sh (by decide), fun g => n2.ne rfl g, fun _ => k⟩
theorem t8 (h : PlayAt cs M p b q (bk4 j).2 s sc tk (i + 1) tr) (ht : M t = some (.lst tr)) (hn : ∀ d ∈ tr, Nice 3 d) (hs : seen.length ≤ 100) (k : De.nx (sl24 ns row j b s0 sc p t s (seen ++ [s]) tk z7 (.d (.int (0 + (i : Int)))) z16 z17 z18 z19 z20 z21) M) :
    gl8 cs De (sl24 ns row j b s0 sc p t s seen tk z7 (.d (.int (0 + (i : Int)))) z16 z17 z18 z19 z20 z21) M := by
  have e : seen.map SL ++ [SL s] = (seen ++ [s]).map SL := by rw [List.map_append] <;> rfl
  refine ⟨⟨_, rfl⟩, by rw [List.length_map]; exact szl (by omega), ?_⟩
  show gl9 cs De [.d (.scr ns), .d (SL row), .d (.str (bk4 j).1), .d (lysD (bk4 j).2), .d (.ref b), .d (S3 s0), .d (SL sc), z7, .d (SL sc), .d (.ref p), .d (.lst (ddsD (kerD j ++ lysDs (bk4 j).2 5))), .d (SL s), .own (seen.map SL ++ [SL s]), .d (.ref t), .d (ni tk), .d (.int (0 + (i : Int))), z16, z17, z18, z19, z20, z21, .un, .un] M
  rw [e]
  exact t9 h ht hn k
theorem t7 {dr : List Int} (hd : Row 3 dr) (h : PlayAt cs M p b q (bk4 j).2 s sc tk (i + 1) tr) (ht : M t = some (.lst tr)) (tp : t ≠ p) (ok : StOk (bk4 j).2 s) (hse : ∀ o ∈ seen, StOk (bk4 j).2 o) (hn0 : seen ≠ [])
    (k : ∀ s2 y20 y21 M2, StOk (bk4 j).2 s2 → PlayAt cs M2 p b q (bk4 j).2 s2 sc tk (i + 1) tr → M2 t = some (.lst tr) → gl8 cs De (sl24 ns row j b s0 sc p t s2 seen tk z7 z15 (.d (SL dr)) z17 z18 z19 y20 y21) M2) :
    gl7 cs De (sl24 ns row j b s0 sc p t s seen tk z7 z15 (.d (SL dr)) z17 z18 z19 z20 z21) M := by
  have hL := bk4_ok j
  have h5 := bk4_len j
  have el : ((bk4 j).2.map Ly.d).length = 5 := by rw [List.length_map, h5]
  obtain ⟨x1, a1, _, _⟩ := row_get hd (i := 1) (by decide)
  obtain ⟨x2, a2, _, _⟩ := row_get hd (i := 2) (by decide)
  refine ⟨_, ix_nat rfl a1, (by show (0 : Int) < 9; decide), fun _ => ?_, fun _ => k s z20 z21 M ok h ht⟩
  obtain ⟨m, hm, hm5⟩ := mod_nat (k := x2) (n := (((bk4 j).2.map Ly.d).length : Nat)) (N := ((bk4 j).2.map Ly.d).length) rfl (by omega)
  have sp : 0 < seen.length := List.length_pos_iff.mpr hn0
  obtain ⟨o, ho, hol⟩ := mod_nat (k := x2) (n := ((seen.map SL).length : Nat)) (N := (seen.map SL).length) rfl (by rw [List.length_map]; exact sp)
  rw [List.length_map] at hol
  have hold := List.getElem?_eq_getElem hol
  have hok := hse _ (List.getElem_mem hol)
  refine ⟨_, ix_nat rfl a2, (by show (0 : Int) < (((bk4 j).2.map Ly.d).length : Nat); omega), ?_⟩
  refine ⟨⟨_, rfl⟩, _, ix_nat rfl a2, (by show (0 : Int) < ((seen.map SL).length : Nat); rw [List.length_map]; omega), SL seen[o], ix_nat ho (by rw [List.getElem?_map, hold] <;> rfl), ?_⟩
  have e1 : (1 : Int) + x2 % (((bk4 j).2.map Ly.d).length : Nat) = ((1 + m : Nat) : Int) := by rw [hm]; omega
  refine ⟨(bk4 j).2, s, seen[o], 1 + m, ?_, by omega, by omega, ok.1, hok.1, ?_⟩
  · show [lysD (bk4 j).2, SL s, D.int (1 + x2 % (((bk4 j).2.map Ly.d).length : Nat)), SL seen[o]] = _
    rw [e1]
  · refine ⟨⟨_, h.pl, rfl⟩, p, b, q, (bk4 j).2, s, sc, tk, i + 1, tr, 1 + m, seen[o], ?_, h, by omega, by omega, ok.1, hok.1, fun M2 h2 hM => ?_⟩
    · show [D.ref p, D.int (1 + x2 % (((bk4 j).2.map Ly.d).length : Nat)), S3 seen[o]] = _
      rw [e1]
    · exact k _ _ _ M2 (back_ok ok hok) h2 (by rw [hM t tp]; exact ht)
theorem ki_ii : kitB "int" "int" = some true := by decide +kernel
theorem ki_ib : kitB "int" "bool" = some false := by decide +kernel
theorem ki_tt : kitB "tuple" "tuple" = some true := by decide +kernel
theorem t6 {w : Int} (k : gl7 cs De (sl24 ns row j b s0 sc p t s seen tk z7 z15 z16 z17 (.d (.int w)) (.d (.int w)) z20 z21) M) : gl6 cs De (sl24 ns row j b s0 sc p t s seen tk z7 z15 z16 z17 (.d (.int w)) (.d (.int w)) z20 z21) M :=
  ⟨true, ki_ii, fun _ => ⟨false, ki_ib, fun h => ff h, fun _ => ⟨fun h => neI rfl h, fun _ => k⟩⟩, fun h => tf h⟩
theorem tld_len {L : List Ly} {n : Int} (dd : Dd) : (tldF L s n dd).length ≤ 1 := by
  cases dd <;> first | exact Nat.zero_le _ | exact Nat.le_refl _
theorem tld_nice {L : List Ly} {n : Int} (dd : Dd) : ∀ d ∈ tldF L s n dd, Nice 3 d := by
  cases dd with
  | ask i d => exact Nice.cons (Nice.tup (Nice.cons (Nice.int _) (Nice.cons (Nice.int _) (Nice.cons (nice_s3 1 _) (Nice.cons (Nice.int _) (Nice.cons (nice_s3 1 _) Nice.nil)))))) Nice.nil
  | _ => exact Nice.nil
theorem t4 {dd : Dd} {tk0 : Nat} (h : PlayAt cs M p b q (bk4 j).2 s sc tk0 i tr) (ht : M t = some (.lst tr)) (tp : t ≠ p) (tb : t ≠ b) (tq : t ≠ q) (ok : StOk (bk4 j).2 s) (hd : dd.Ok (bk4 j).2) (hsc : ∀ x ∈ sc, 0 ≤ x) (htr : tr.length ≤ 100) (htk : tk = if dd.tk then tk0 + 1 else tk0)
    (k : ∀ M2, StOk (bk4 j).2 (aftF (bk4 j).2 s (numF sc tk0 dd) dd) → PlayAt cs M2 p b q (bk4 j).2 (aftF (bk4 j).2 s (numF sc tk0 dd) dd) sc tk (i + 1) (tr ++ tldF (bk4 j).2 s (numF sc tk0 dd) dd) → M2 t = some (.lst (tr ++ tldF (bk4 j).2 s (numF sc tk0 dd) dd)) →
      gl7 cs De (sl24 ns row j b s0 sc p t (aftF (bk4 j).2 s (numF sc tk0 dd) dd) seen tk (.d (.int (numF sc tk0 dd))) z15 z16 (.d dd.d) (.d (.int (wayF (bk4 j).2 s (numF sc tk0 dd) dd))) (.d (.int (wayF (bk4 j).2 s (numF sc tk0 dd) dd))) z20 z21) M2) :
    gl4 cs De (sl24 ns row j b s0 sc p t s seen tk (.d (.int (numF sc tk0 dd))) z15 z16 (.d dd.d) z18 z19 z20 z21) M := by
  have hL := bk4_ok j
  have nn : 0 ≤ numF sc tk0 dd := by
    unfold numF
    split
    · by_cases c : tk0 < sc.length
      · exact hsc _ (List.mem_of_getElem? (getD_at c))
      · rw [List.getD_eq_getElem?_getD, List.getElem?_eq_none (by omega)]
        exact Int.le_refl _
    · exact Int.le_refl _
  refine ⟨(bk4 j).2, s, dd, numF sc tk0 dd, t, tr, rfl, hL, ok, hd, nn, ht, htr, fun M1 h1 hM1 => ⟨rfl, ?_⟩⟩
  have p1 : PlayAt cs M1 p b q (bk4 j).2 s sc tk0 i tr := h.mono fun a ha => hM1 a (by
    rcases ha with rfl | rfl | rfl
    · exact Ne.symm tb
    · exact Ne.symm tp
    · exact Ne.symm tq)
  refine ⟨⟨_, p1.pl, rfl⟩, p, b, q, (bk4 j).2, s, sc, tk0, i, tr, dd, rfl, p1, hL, ok, hd, hsc, htr, fun M2 h2 hM2 => ?_⟩
  rw [← htk] at h2
  refine t6 (k M2 (aft_ok hL ok hd) h2 ?_)
  rw [hM2 t tp tq]
  exact h1
theorem dd_test {dd : Dd} {Δ : List Sl} {Θ : Bool → List Sl → Mem → Prop} (h17 : Δ[17]? = some (.d dd.d)) (k : Θ dd.tk Δ M) :
    dTest (dOp (dInA false) (dOp dIx (dVar 17) (dC (.int 0))) (dTup (dCons (dC (.str (Str.ofString "choose"))) (dCons (dC (.str (Str.ofString "draw"))) (dCons (dC (.str (Str.ofString "ask"))) dNil))))) Δ M Θ := by
  unfold dTest dOp dVar
  simp only [h17]
  have key : ∀ x : Str, inD (.str x) [.str (Str.ofString "choose"), .str (Str.ofString "draw"), .str (Str.ofString "ask")] = dd.tk → bs (inD (.str x) [.str (Str.ofString "choose"), .str (Str.ofString "draw"), .str (Str.ofString "ask")]) (fun k => Θ k Δ M) := fun x e => by
    rw [e]
    exact bsI k
  cases dd <;> exact ⟨_, rfl, rfl, rfl, key _ (by simp only [Dd.tk]; decide +kernel)⟩
theorem t3 {dd : Dd} (k : gl4 cs De (sl24 ns row j b s0 sc p t s seen (if dd.tk then tk + 1 else tk) (.d (.int (numF sc tk dd))) z15 z16 (.d dd.d) z18 z19 z20 z21) M) :
    gl3 cs De (sl24 ns row j b s0 sc p t s seen tk (.d (.int 0)) z15 z16 (.d dd.d) z18 z19 z20 z21) M := by
  refine dd_test (dd := dd) (Δ := sl24 ns row j b s0 sc p t s seen tk (.d (.int 0)) z15 z16 (.d dd.d) z18 z19 z20 z21) rfl ?_
  unfold numF at k
  cases e : dd.tk with
  | true =>
    rw [e] at k
    refine ⟨fun h => ?_, fun h => ?_⟩
    · have h := of_decide_eq_true h
      have hl : tk < sc.length := by
        rw [show ((stD sc).length : Int) = (sc.length : Nat) by rw [stD_len]] at h
        omega
      exact ⟨_, ix_nat rfl (stD_at (getD_at hl)), k⟩
    · have h := of_decide_eq_false h
      have hl : sc.length ≤ tk := by
        rw [show ((stD sc).length : Int) = (sc.length : Nat) by rw [stD_len]] at h
        omega
      have e0 : sc.getD tk 0 = 0 := by rw [List.getD_eq_getElem?_getD, List.getElem?_eq_none hl] <;> rfl
      rw [if_pos rfl, if_pos rfl, e0] at k
      exact k
  | false =>
    rw [e] at k
    exact k
end
end My

set_option Elab.async false
set_option linter.all false
set_option maxRecDepth 100000
set_option maxHeartbeats 4000000
namespace My
open PySem PySem.Spec PyProof.Rows L2 DL
open Evl (Ex)
/-! ### the law -/
theorem kerD_ok (j : Nat) (L : List Ly) : ∀ dd ∈ kerD j, dd.Ok L := by
  have nil : ∀ dd ∈ ([] : List Dd), dd.Ok L := fun _ h => absurd h List.not_mem_nil
  have con : ∀ {d : Dd} {l : List Dd}, d.Ok L → (∀ x ∈ l, x.Ok L) → ∀ x ∈ d :: l, x.Ok L := fun h g => List.forall_mem_cons.mpr ⟨h, g⟩
  match j with
  | 0 => exact con trivial (con (show 1 ≤ 2 by decide) (con (show 1 ≤ 5 by decide) (con (show 1 ≤ 6 by decide) nil)))
  | 1 => exact con trivial (con trivial nil)
  | 2 => exact con trivial (con (show 1 ≤ 2 by decide) (con (show 1 ≤ 5 by decide) (con (show 1 ≤ 6 by decide) nil)))
  | j + 3 => exact con (show 1 ≤ 2 by decide) (con (show 1 ≤ 5 by decide) (con (show 1 ≤ 6 by decide) (con (show 1 ≤ 3 by decide) nil)))
theorem kerD_pos (j : Nat) : 0 < (kerD j).length := by
  match j with
  | 0 => decide
  | 1 => decide
  | 2 => decide
  | j + 3 => exact (by decide : 0 < 4)
theorem lys_ok {L : List Ly} : ∀ n, ∀ dd ∈ lysDs L n, dd.Ok L
  | 0, _, h => absurd h List.not_mem_nil
  | n + 1, dd, h => by
    unfold lysDs at h
    rcases List.mem_append.mp h with h | h
    · exact lys_ok n dd h
    · cases e : L[n]? with
      | none =>
        rw [e] at h
        exact absurd h List.not_mem_nil
      | some l =>
        rw [e] at h
        have hn := lt_of_some e
        have h : dd ∈ lyDs n l := h
        cases l with
        | cell nm k =>
          rcases List.mem_cons.mp h with h | h
          · subst h
            exact hn
          · obtain ⟨x, _, rfl⟩ := List.mem_map.mp h
            exact ⟨nm, k, e⟩
        | setting nm k =>
          rw [List.mem_singleton.mp h]
          exact hn
        | note nm t =>
          obtain ⟨x, hx, rfl⟩ := List.mem_map.mp h
          exact ⟨nm, t, e, List.mem_range.mp hx⟩
        | fail nm k => exact absurd h List.not_mem_nil
        | outside nm ar =>
          obtain ⟨x, hx, rfl⟩ := List.mem_map.mp h
          exact ⟨nm, ar, e, List.mem_range.mp hx⟩
theorem cut_st (s : List Int) (lo hi : Option Int) : ∃ u : List Int, DL.cutD (stD s) lo hi = stD u ∧ u.length ≤ s.length := by
  unfold DL.cutD stD
  rw [← List.map_drop, ← List.map_take]
  exact ⟨_, rfl, by rw [List.length_take, List.length_drop]; omega⟩
theorem row_of (ns : List Int) (k : Int) (n : Nat) : Row n (lawRow ns k n) := ⟨lawRow_len ns k n, lawRow_mem⟩
theorem red_law (cs : Cs) : ∀ ds M Φ Ψ, S_law cs ds M Φ Ψ → r_law cs (ends Φ) (startD 24 ds) M := by
  rintro ds M Φ Ψ ⟨ns, rfl, hn, Q⟩
  have r12 := row_of ns 0 12
  obtain ⟨x0, a0, l0, _⟩ := row_get r12 (i := 0) (by decide)
  obtain ⟨x1, a1, _, _⟩ := row_get r12 (i := 1) (by decide)
  obtain ⟨x2, a2, _, _⟩ := row_get r12 (i := 2) (by decide)
  obtain ⟨x3, a3, _, _⟩ := row_get r12 (i := 3) (by decide)
  refine ⟨ns, 0, 12, rfl, by decide, by decide, by decide, ?_⟩
  refine ⟨_, ix_nat rfl a0, x0, rfl, l0, rfl, ?_⟩
  generalize (x0 % 4).toNat = j
  have hL := bk4_ok j
  have h5 := bk4_len j
  have el : ((bk4 j).2.map Ly.d).length = 5 := by rw [List.length_map, h5]
  show dSeq (dSet 4 (dMakeX cs.Book (S_Book_init cs) noX (dCons (dVar 2) (dCons (dVar 3) dNil)))) (r_law_3 cs) (ends Φ) [.d (.scr ns), .d (SL (lawRow ns 0 12)), .d (.str (bk4 j).1), .d (lysD (bk4 j).2), .un, .un, .un, .un, .un, .un, .un, .un, .un, .un, .un, .un, .un, .un, .un, .un, .un, .un, .un, .un] M
  intro b hb0
  refine ⟨b, (bk4 j).1, (bk4 j).2, rfl, updM_same, bk4_name j, hL, bk4_good j, (bk4_names j).2.2.1, (bk4_names j).2.2.2, fun M1 hB => ⟨rfl, ?_⟩⟩
  refine ⟨ns, 1, 8, rfl, by decide, by decide, by decide, b, (bk4 j).2, lawRow ns 1 8, rfl, hB, hL, h5, row_of ns 1 8, bsI ?_⟩
  show dSeq (dSet 5 (dCall (S_law_starts cs) (dCons (dVar 3) (dCons (dOp dAddT (dC (.int (((bk4 j).2.map Ly.d).length : Nat))) (dC (.int 1))) (dCons (dOp dRepT (dTup (dCons (dC (.int 0)) dNil)) (dC (.int (((bk4 j).2.map Ly.d).length : Nat)))) dNil))))) (r_law_5 cs) (ends Φ) [.d (.scr ns), .d (SL (lawRow ns 0 12)), .d (.str (bk4 j).1), .d (lysD (bk4 j).2), .d (.ref b), .un, .un, .un, .un, .un, .un, .un, .un, .un, .un, .un, .un, .un, .un, .un, .un, .un, .un, .un] M1
  rw [el]
  refine ⟨⟨(fun h => nomatch h), by decide, by decide, by decide⟩, (bk4 j).2, 5, List.replicate 5 0, rfl, hL, by omega, by rw [h5] <;> rfl, ?_⟩
  rw [zeros_ok h5]
  have lr := rowsF_len hL 5
  obtain ⟨i0, hi0, hl0⟩ := mod_nat (k := x1) (n := (((rowsF (bk4 j).2 5).map S3).length : Nat)) (N := ((rowsF (bk4 j).2 5).map S3).length) rfl (by rw [List.length_map]; omega)
  obtain ⟨s0, hs0⟩ : ∃ s0, (rowsF (bk4 j).2 5)[i0]? = some s0 := ⟨_, List.getElem?_eq_getElem (by rw [List.length_map] at hl0; exact hl0)⟩
  have ok0 : StOk (bk4 j).2 s0 := starts_ok hL (by rw [h5]; exact List.mem_of_getElem? hs0)
  refine ⟨_, ix_nat rfl a1, (by show (0 : Int) < (((rowsF (bk4 j).2 5).map S3).length : Nat); rw [List.length_map]; omega), S3 s0, ix_nat hi0 (by rw [List.getElem?_map, hs0] <;> rfl), ?_⟩
  -- the numbers
  obtain ⟨u, eu, lu⟩ := cut_st ns (some 2) (some (2 + x2 % 13))
  refine ⟨_, ix_nat rfl a2, (by show (0 : Int) < 13; decide), ?_⟩
  show (DL.cutD (stD ns) (some 2) (some (2 + x2 % 13))).length < sizeLine ∧ lcGo [7] (tgN 7) dYes (dCB dAbs (dCons (dCB dInt (dCons (dVar 7) dNil)) dNil)) (DL.cutD (stD ns) (some 2) (some (2 + x2 % 13))) [.d (.scr ns), .d (SL (lawRow ns 0 12)), .d (.str (bk4 j).1), .d (lysD (bk4 j).2), .d (.ref b), .d (S3 s0), .un, .un, .un, .un, .un, .un, .un, .un, .un, .un, .un, .un, .un, .un, .un, .un, .un, .un] [] M1 (fun acc Δ2 M2 => r_law_7 cs (ends Φ) ((wipeD Δ2 [7]).set 6 (.d (.lst acc))) M2)
  rw [eu]
  refine ⟨by rw [stD_len]; exact szl (by omega), ?_⟩
  refine lcGo_map (f := fun x => match x with
    | .int k => .int (if k < 0 then -k else k)
    | x => x) (fun x hx Θ k => ?_) ?_
  · obtain ⟨y, _, rfl⟩ := List.mem_map.mp hx
    exact k _ rfl
  obtain ⟨sc, esc, hsc⟩ : ∃ sc : List Int, [] ++ (stD u).map (fun x => match x with
    | .int k => D.int (if k < 0 then -k else k)
    | x => x) = stD sc ∧ ∀ x ∈ sc, 0 ≤ x := by
    refine ⟨u.map fun k => if k < 0 then -k else k, ?_, fun x hx => ?_⟩
    · unfold stD
      rw [List.nil_append, List.map_map, List.map_map] <;> rfl
    · obtain ⟨y, _, rfl⟩ := List.mem_map.mp hx
      split <;> omega
  rw [esc]
  show r_law_7 cs (ends Φ) [.d (.scr ns), .d (SL (lawRow ns 0 12)), .d (.str (bk4 j).1), .d (lysD (bk4 j).2), .d (.ref b), .d (S3 s0), .d (SL sc), .un, .un, .un, .un, .un, .un, .un, .un, .un, .un, .un, .un, .un, .un, .un, .un, .un] M1
  -- the play
  intro p hp0
  have bp : b ≠ p := fun e => by
    subst e
    obtain ⟨_, _, _, h⟩ := hB
    rw [hp0] at h
    cases h
  refine ⟨p, b, (bk4 j).2, s0, sc, rfl, updM_same, hB.mono (updM_ne bp), fun M2 q hP => ⟨rfl, ?_⟩⟩
  refine ⟨j, rfl, ?_⟩
  intro t ht0
  have tp : t ≠ p := fun e => by
    subst e
    rw [hP.pl] at ht0
    cases ht0
  have tq : t ≠ q := fun e => by
    subst e
    rw [hP.tr] at ht0
    cases ht0
  have tb : t ≠ b := fun e => by
    subst e
    obtain ⟨_, _, _, h⟩ := hP.bk
    rw [ht0] at h
    cases h
  have hP1 : PlayAt cs (updM M2 t (.lst [])) p b q (bk4 j).2 s0 sc 0 0 [] := hP.mono fun a ha => updM_ne (by
    rcases ha with rfl | rfl | rfl
    · exact Ne.symm tb
    · exact Ne.symm tp
    · exact Ne.symm tq)
  obtain ⟨N, hN, hN21⟩ := mod_nat (k := x3) (n := 21) (N := 21) rfl (by decide)
  refine ⟨_, ix_nat rfl a3, (by show (0 : Int) < 21; decide), ?_⟩
  show (-(2 ^ 62) ≤ x3 % 21 ∧ x3 % 21 < 2 ^ 62) ∧ dLoop 15 [7, 15, 16, 18, 19] (rangeD 0 (x3 % 21).toNat) (b_law_16 cs) { ends Φ with nx := fun Δ2 M2 => r_law_15 cs (ends Φ) Δ2 M2 } (sl24 ns (lawRow ns 0 12) j b s0 sc p t s0 [s0] 0 .un .un .un .un .un .un .un .un) (updM M2 t (.lst []))
  refine ⟨by omega, ?_⟩
  rw [hN, Int.toNat_natCast]
  refine ⟨fun i Δ M' => ∃ s seen tk tr z17 z20 z21, Δ = sl24 ns (lawRow ns 0 12) j b s0 sc p t s seen tk .un .un .un z17 .un .un z20 z21 ∧ StOk (bk4 j).2 s ∧ (∀ o ∈ seen, StOk (bk4 j).2 o) ∧ seen.length = i + 1 ∧ PlayAt cs M' p b q (bk4 j).2 s sc tk i tr ∧ M' t = some (.lst tr) ∧ tr.length ≤ i ∧ ∀ d ∈ tr, Nice 3 d, ?_, ?_, ?_⟩
  · exact ⟨s0, [s0], 0, [], .un, .un, .un, rfl, ok0, fun o ho => by rw [List.mem_singleton.mp ho]; exact ok0, rfl, hP1, updM_same, Nat.le_refl _, Nice.nil⟩
  · rintro i x Δ1 M3 hx ⟨s, seen, tk, tr, z17, z20, z21, rfl, ok, hse, hsn, hpl, htr, htl, htn⟩
    obtain ⟨hi, rfl⟩ := rangeD_some hx
    have r3 := row_of ns (15 + (0 + (i : Int))) 3
    obtain ⟨y0, b0, _, _⟩ := row_get r3 (i := 0) (by decide)
    have dl : (ddsD (kerD j ++ lysDs (bk4 j).2 5)).length = (kerD j ++ lysDs (bk4 j).2 5).length := dds_len _
    have dpos : 0 < (kerD j ++ lysDs (bk4 j).2 5).length := by
      have := kerD_pos j
      rw [List.length_append]
      omega
    obtain ⟨w, hw, hwl⟩ := mod_nat (k := y0) (n := ((ddsD (kerD j ++ lysDs (bk4 j).2 5)).length : Nat)) (N := (ddsD (kerD j ++ lysDs (bk4 j).2 5)).length) rfl (by omega)
    rw [dl] at hwl
    obtain ⟨dd, hdd⟩ : ∃ dd, (kerD j ++ lysDs (bk4 j).2 5)[w]? = some dd := ⟨_, List.getElem?_eq_getElem hwl⟩
    have dok : dd.Ok (bk4 j).2 := by
      rcases List.mem_append.mp (List.mem_of_getElem? hdd) with h | h
      · exact kerD_ok j _ dd h
      · exact lys_ok 5 dd h
    refine ⟨ns, 15 + (0 + (i : Int)), 3, rfl, by omega, by omega, by decide, ?_⟩
    refine ⟨_, ix_nat rfl b0, (by show (0 : Int) < ((ddsD (kerD j ++ lysDs (bk4 j).2 5)).length : Nat); omega), dd.d, ix_nat hw (by unfold ddsD; rw [List.getElem?_map, hdd] <;> rfl), ?_⟩
    refine t3 (z15 := .d (.int (0 + (i : Int)))) (z16 := .d (SL (lawRow ns (15 + (0 + (i : Int))) 3))) ?_
    refine t4 hpl htr tp tb tq ok dok hsc (by omega) rfl fun M4 ok4 hp4 ht4 => ?_
    refine t7 r3 hp4 ht4 tp ok4 hse (fun e => by rw [e] at hsn; cases hsn) fun s5 y20 y21 M5 ok5 hp5 ht5 => ?_
    have tl := tld_len (L := (bk4 j).2) (s := s) (n := numF sc tk dd) dd
    have tn : ∀ d ∈ tr ++ tldF (bk4 j).2 s (numF sc tk dd) dd, Nice 3 d := fun d hd => by
      rcases List.mem_append.mp hd with h | h
      · exact htn d h
      · exact tld_nice dd d h
    refine t8 hp5 ht5 tn (by omega) ?_
    refine ⟨s5, seen ++ [s5], _, _, .d dd.d, y20, y21, rfl, ok5, fun o ho => ?_, by rw [List.length_append, hsn] <;> rfl, hp5, ht5, by rw [List.length_append]; omega, tn⟩
    rcases List.mem_append.mp ho with h | h
    · exact hse o h
    · rw [List.mem_singleton.mp h]
      exact ok5
  · rintro Δ1 M3 ⟨s, seen, tk, tr, z17, z20, z21, rfl, ok, hse, hsn, hpl, htr, htl, htn⟩
    refine ⟨ns, 40, 3, rfl, by decide, by decide, by decide, (bk4 j).2, s, lawRow ns 40 3, rfl, hL, ok.1, row_of ns 40 3, fun e he => ⟨rfl, ?_⟩⟩
    refine ⟨⟨_, hpl.pl, rfl⟩, p, b, q, (bk4 j).2, s, sc, tk, _, tr, e, rfl, hpl, ok.1, he, ?_⟩
    have no : Nice 4 (e.out (bk4 j).2 s) := by
      cases e with
      | ret x => exact Nice.tup (Nice.cons (Nice.str (by decide +kernel)) (Nice.cons (Nice.str he.2) (Nice.cons (nice_s3 2 _) Nice.nil)))
      | fail i k => exact Nice.tup (Nice.cons (Nice.str (by decide +kernel)) (Nice.cons (Nice.int _) (Nice.cons (Nice.int _) (Nice.cons (nice_s3 2 _) Nice.nil))))
    have nt : Nice 5 (.tup [.tup tr, e.out (bk4 j).2 s]) := Nice.tup (Nice.cons (Nice.tup htn) (Nice.cons no Nice.nil))
    have nl := nice_sl 0 sc
    refine ⟨tr, htr, nt.p, nt.p, nt.sh (by decide), nt.sh (by decide), fun _ => ?_, fun h => bF nt.e h⟩
    refine ⟨_, rfl, true, ki_tt, fun _ => ?_, fun h => tf h⟩
    refine ⟨nl.p, nl.p, nl.sh (by decide), nl.sh (by decide), ?_⟩
    show Φ (.bl (PyData.eqv (SL sc).py (SL sc).py)) M3
    rw [nl.e]
    exact Q M3
end My

set_option Elab.async false
set_option linter.all false
set_option maxRecDepth 100000
set_option maxHeartbeats 4000000
namespace My
open PySem PySem.Spec PyProof.Rows L2 DL
open Evl (Ex)
def topS (i : Nat) : Stmt := PySem.Challenge.pw_besideandthrough_k02_plays.main.body.getD i (.Pass ⟨0, 0, 0, 0⟩)
abbrev s_Book_word_at : Stmt := inClass (topS 34) 1
theorem sc_Book_word_at : FnScope ["self", "layer"] ["self", "layer"] (defScope s_Book_word_at) := ⟨rfl, rfl, rfl, by decide +kernel, rfl, by decide +kernel, by decide +kernel⟩

abbrev s_has_values : Stmt := topS 2
theorem sc_has_values : FnScope ["book", "layer"] ["book", "layer"] (defScope s_has_values) := ⟨rfl, rfl, rfl, by decide +kernel, rfl, by decide +kernel, by decide +kernel⟩

abbrev s_Book_count_at : Stmt := inClass (topS 34) 2
theorem sc_Book_count_at : FnScope ["self", "layer", "word", "_", "extent"] ["self", "layer"] (defScope s_Book_count_at) := ⟨rfl, rfl, rfl, by decide +kernel, rfl, by decide +kernel, by decide +kernel⟩

abbrev s_values_at : Stmt := topS 3
theorem sc_values_at : FnScope ["book", "layer"] ["book", "layer"] (defScope s_values_at) := ⟨rfl, rfl, rfl, by decide +kernel, rfl, by decide +kernel, by decide +kernel⟩

abbrev s_starts_below : Stmt := topS 5
theorem sc_starts_below : FnScope ["book", "layer", "state", "found", "number", "many", "row", "entry"] ["book", "layer", "state"] (defScope s_starts_below) := ⟨rfl, rfl, rfl, by decide +kernel, rfl, by decide +kernel, by decide +kernel⟩

abbrev s_starts : Stmt := topS 4
theorem sc_starts : FnScope ["book"] ["book"] (defScope s_starts) := ⟨rfl, rfl, rfl, by decide +kernel, rfl, by decide +kernel, by decide +kernel⟩

abbrev s_place_below : Stmt := topS 6
theorem sc_place_below : FnScope ["book", "layer", "state", "place", "number"] ["book", "layer", "state"] (defScope s_place_below) := ⟨rfl, rfl, rfl, by decide +kernel, rfl, by decide +kernel, by decide +kernel⟩

abbrev s_kept : Stmt := topS 7
theorem sc_kept : FnScope ["book", "state", "layer", "entries", "number"] ["book", "state", "layer"] (defScope s_kept) := ⟨rfl, rfl, rfl, by decide +kernel, rfl, by decide +kernel, by decide +kernel⟩

abbrev s_changed : Stmt := topS 8
theorem sc_changed : FnScope ["state", "layer", "entry"] ["state", "layer", "entry"] (defScope s_changed) := ⟨rfl, rfl, rfl, by decide +kernel, rfl, by decide +kernel, by decide +kernel⟩

abbrev s_Book_product : Stmt := inClass (topS 34) 4
theorem sc_Book_product : FnScope ["self", "layer", "first", "second"] ["self", "layer", "first", "second"] (defScope s_Book_product) := ⟨rfl, rfl, rfl, by decide +kernel, rfl, by decide +kernel, by decide +kernel⟩

abbrev s_noted : Stmt := topS 9
theorem sc_noted : FnScope ["book", "state", "layer", "member", "entry"] ["book", "state", "layer", "member"] (defScope s_noted) := ⟨rfl, rfl, rfl, by decide +kernel, rfl, by decide +kernel, by decide +kernel⟩

abbrev s_end_at : Stmt := topS 11
theorem sc_end_at : FnScope ["book", "state", "deed"] ["book", "state", "deed"] (defScope s_end_at) := ⟨rfl, rfl, rfl, by decide +kernel, rfl, by decide +kernel, by decide +kernel⟩

abbrev s_entries_beneath : Stmt := topS 12
theorem sc_entries_beneath : FnScope ["book", "layer", "rest", "entries", "number", "size"] ["book", "layer", "rest"] (defScope s_entries_beneath) := ⟨rfl, rfl, rfl, by decide +kernel, rfl, by decide +kernel, by decide +kernel⟩

abbrev s_Book_ways_at : Stmt := inClass (topS 34) 3
theorem sc_Book_ways_at : FnScope ["self", "layer", "deed"] ["self", "layer", "deed"] (defScope s_Book_ways_at) := ⟨rfl, rfl, rfl, by decide +kernel, rfl, by decide +kernel, by decide +kernel⟩

abbrev s_asked : Stmt := topS 13
theorem sc_asked : FnScope ["book", "state", "deed", "number", "_", "layer", "outside", "answers", "entries"] ["book", "state", "deed", "number"] (defScope s_asked) := ⟨rfl, rfl, rfl, by decide +kernel, rfl, by decide +kernel, by decide +kernel⟩

abbrev s_way_on : Stmt := topS 14
theorem sc_way_on : FnScope ["state", "deed", "number", "word"] ["state", "deed", "number"] (defScope s_way_on) := ⟨rfl, rfl, rfl, by decide +kernel, rfl, by decide +kernel, by decide +kernel⟩

abbrev s_state_after : Stmt := topS 15
theorem sc_state_after : FnScope ["book", "state", "deed"] ["book", "state", "deed"] (defScope s_state_after) := ⟨rfl, rfl, rfl, by decide +kernel, rfl, by decide +kernel, by decide +kernel⟩

abbrev s_takes_number : Stmt := topS 16
theorem sc_takes_number : FnScope ["deed"] ["deed"] (defScope s_takes_number) := ⟨rfl, rfl, rfl, by decide +kernel, rfl, by decide +kernel, by decide +kernel⟩

abbrev s_step_of : Stmt := topS 17
theorem sc_step_of : FnScope ["book", "state", "deed", "number", "told"] ["book", "state", "deed", "number"] (defScope s_step_of) := ⟨rfl, rfl, rfl, by decide +kernel, rfl, by decide +kernel, by decide +kernel⟩

abbrev s_Play_init : Stmt := inClass (topS 18) 0
theorem sc_Play_init : FnScope ["self", "book", "start", "script"] ["self", "book", "start", "script"] (defScope s_Play_init) := ⟨rfl, rfl, rfl, by decide +kernel, rfl, by decide +kernel, by decide +kernel⟩

abbrev s_Play_number : Stmt := inClass (topS 18) 2
theorem sc_Play_number : FnScope ["self"] ["self"] (defScope s_Play_number) := ⟨rfl, rfl, rfl, by decide +kernel, rfl, by decide +kernel, by decide +kernel⟩

abbrev s_Play_answer : Stmt := inClass (topS 18) 1
theorem sc_Play_answer : FnScope ["self", "deed", "number", "way", "told"] ["self", "deed"] (defScope s_Play_answer) := ⟨rfl, rfl, rfl, by decide +kernel, rfl, by decide +kernel, by decide +kernel⟩

abbrev s_Play_restore : Stmt := inClass (topS 18) 3
theorem sc_Play_restore : FnScope ["self", "layer", "state", "number"] ["self", "layer", "state"] (defScope s_Play_restore) := ⟨rfl, rfl, rfl, by decide +kernel, rfl, by decide +kernel, by decide +kernel⟩

abbrev s_Play_outcome : Stmt := inClass (topS 18) 4
theorem sc_Play_outcome : FnScope ["self", "deed"] ["self", "deed"] (defScope s_Play_outcome) := ⟨rfl, rfl, rfl, by decide +kernel, rfl, by decide +kernel, by decide +kernel⟩

abbrev s_BookError_init : Stmt := inClass (topS 21) 0
theorem sc_BookError_init : FnScope ["self", "layer"] ["self", "layer"] (defScope s_BookError_init) := ⟨rfl, rfl, rfl, by decide +kernel, rfl, by decide +kernel, by decide +kernel⟩

abbrev s_is_name : Stmt := topS 23
theorem sc_is_name : FnScope ["token"] ["token"] (defScope s_is_name) := ⟨rfl, rfl, rfl, by decide +kernel, rfl, by decide +kernel, by decide +kernel⟩

abbrev s_is_associative : Stmt := topS 29
theorem sc_is_associative : FnScope ["table", "members", "a", "b", "c"] ["table"] (defScope s_is_associative) := ⟨rfl, rfl, rfl, by decide +kernel, rfl, by decide +kernel, by decide +kernel⟩

abbrev s_is_square : Stmt := topS 30
theorem sc_is_square : FnScope ["table", "many", "row"] ["table"] (defScope s_is_square) := ⟨rfl, rfl, rfl, by decide +kernel, rfl, by decide +kernel, by decide +kernel⟩

abbrev s_is_monoid : Stmt := topS 31
theorem sc_is_monoid : FnScope ["table", "member"] ["table"] (defScope s_is_monoid) := ⟨rfl, rfl, rfl, by decide +kernel, rfl, by decide +kernel, by decide +kernel⟩

abbrev s_is_layer : Stmt := topS 32
theorem sc_is_layer : FnScope ["layer", "word", "name", "extent"] ["layer"] (defScope s_is_layer) := ⟨rfl, rfl, rfl, by decide +kernel, rfl, by decide +kernel, by decide +kernel⟩

abbrev s_states_of : Stmt := topS 33
theorem sc_states_of : FnScope ["layers", "many", "word", "_", "extent"] ["layers"] (defScope s_states_of) := ⟨rfl, rfl, rfl, by decide +kernel, rfl, by decide +kernel, by decide +kernel⟩

abbrev s_Book_init : Stmt := inClass (topS 34) 0
theorem sc_Book_init : FnScope ["self", "kernel", "layers", "at", "layer"] ["self", "kernel", "layers"] (defScope s_Book_init) := ⟨rfl, rfl, rfl, by decide +kernel, rfl, by decide +kernel, by decide +kernel⟩

abbrev s_law_row : Stmt := topS 36
theorem sc_law_row : FnScope ["_law_script", "_law_k", "_law_count", "_law_cell", "_law_row_here", "_law_at", "_law_seed"] ["_law_script", "_law_k", "_law_count"] (defScope s_law_row) := ⟨rfl, rfl, rfl, by decide +kernel, rfl, by decide +kernel, by decide +kernel⟩

abbrev s_law_book : Stmt := topS 37
theorem sc_law_book : FnScope ["_law_k", "_law_three", "_law_two", "_law_first", "_law_second", "_law_third", "_law_fourth"] ["_law_k"] (defScope s_law_book) := ⟨rfl, rfl, rfl, by decide +kernel, rfl, by decide +kernel, by decide +kernel⟩

abbrev s_law_deeds : Stmt := topS 38
theorem sc_law_deeds : FnScope ["_law_kernel", "_law_layers", "_law_deeds_here", "_law_at", "_law_layer", "_law_i", "_law_m", "_law_d"] ["_law_kernel", "_law_layers"] (defScope s_law_deeds) := ⟨rfl, rfl, rfl, by decide +kernel, rfl, by decide +kernel, by decide +kernel⟩

abbrev s_law_starts : Stmt := topS 39
theorem sc_law_starts : FnScope ["_law_layers", "_law_layer", "_law_state", "_law_found", "_law_at", "_law_options", "_law_longer", "_law_first", "_law_entry"] ["_law_layers", "_law_layer", "_law_state"] (defScope s_law_starts) := ⟨rfl, rfl, rfl, by decide +kernel, rfl, by decide +kernel, by decide +kernel⟩

abbrev s_law_kept : Stmt := topS 40
theorem sc_law_kept : FnScope ["_law_layers", "_law_state", "_law_layer", "_law_found", "_law_at"] ["_law_layers", "_law_state", "_law_layer"] (defScope s_law_kept) := ⟨rfl, rfl, rfl, by decide +kernel, rfl, by decide +kernel, by decide +kernel⟩

abbrev s_law_asked : Stmt := topS 41
theorem sc_law_asked : FnScope ["_law_layers", "_law_state", "_law_deed", "_law_number", "_law_trail", "_law_before", "_law_many", "_law_rest", "_law_after", "_law_at"] ["_law_layers", "_law_state", "_law_deed", "_law_number", "_law_trail"] (defScope s_law_asked) := ⟨rfl, rfl, rfl, by decide +kernel, rfl, by decide +kernel, by decide +kernel⟩

abbrev s_law_step : Stmt := topS 42
theorem sc_law_step : FnScope ["_law_layers", "_law_state", "_law_deed", "_law_number", "_law_trail", "_law_after", "_law_at"] ["_law_layers", "_law_state", "_law_deed", "_law_number", "_law_trail"] (defScope s_law_step) := ⟨rfl, rfl, rfl, by decide +kernel, rfl, by decide +kernel, by decide +kernel⟩

abbrev s_law_back : Stmt := topS 43
theorem sc_law_back : FnScope ["_law_layers", "_law_state", "_law_layer", "_law_old", "_law_after", "_law_at"] ["_law_layers", "_law_state", "_law_layer", "_law_old"] (defScope s_law_back) := ⟨rfl, rfl, rfl, by decide +kernel, rfl, by decide +kernel, by decide +kernel⟩

abbrev s_law_states : Stmt := topS 44
theorem sc_law_states : FnScope ["_law_book_here", "_law_layers", "_law_row_here", "_law_zero", "_law_due", "_law_state", "_law_at", "_law_layer", "_law_beneath", "_law_member"] ["_law_book_here", "_law_layers", "_law_row_here"] (defScope s_law_states) := ⟨rfl, rfl, rfl, by decide +kernel, rfl, by decide +kernel, by decide +kernel⟩

abbrev s_law_end : Stmt := topS 45
theorem sc_law_end : FnScope ["_law_layers", "_law_state", "_law_row_here", "_law_kinds", "_law_at", "_law_layer", "_law_kind", "_law_text"] ["_law_layers", "_law_state", "_law_row_here"] (defScope s_law_end) := ⟨rfl, rfl, rfl, by decide +kernel, rfl, by decide +kernel, by decide +kernel⟩

abbrev s_law : Stmt := topS 46
theorem sc_law : FnScope ["_law_script", "_law_row_here", "_law_kernel", "_law_layers", "_law_book_here", "_law_start", "_law_numbers", "_law_number", "_law_handed", "_law_play", "_law_deeds_here", "_law_state", "_law_seen", "_law_trail", "_law_taken", "_law_at", "_law_drawn", "_law_deed", "_law_answer", "_law_told", "_law_layer", "_law_old", "_law_end_here", "_law_outcome"] ["_law_script"] (defScope s_law) := ⟨rfl, rfl, rfl, by decide +kernel, rfl, by decide +kernel, by decide +kernel⟩

structure Txt (K : PySem.W.Frag) (mg : Str → Option Value) (w : World) (cs : Cs) where
  f_Book_word_at : Addr
  d_Book_word_at : FuncData
  F_Book_word_at : Fun K "word_at" "Book.word_at" s_Book_word_at f_Book_word_at d_Book_word_at
  b_Book_word_at : Binds K d_Book_word_at ["self", "layer"] []
  mm_Book_word_at : Meth K cs.Book "word_at" f_Book_word_at
  f_has_values : Addr
  d_has_values : FuncData
  F_has_values : Fun K "has_values" "has_values" s_has_values f_has_values d_has_values
  b_has_values : Binds K d_has_values ["book", "layer"] []
  m_has_values : mg "has_values" = some (.ref f_has_values)
  f_Book_count_at : Addr
  d_Book_count_at : FuncData
  F_Book_count_at : Fun K "count_at" "Book.count_at" s_Book_count_at f_Book_count_at d_Book_count_at
  b_Book_count_at : Binds K d_Book_count_at ["self", "layer"] []
  mm_Book_count_at : Meth K cs.Book "count_at" f_Book_count_at
  f_values_at : Addr
  d_values_at : FuncData
  F_values_at : Fun K "values_at" "values_at" s_values_at f_values_at d_values_at
  b_values_at : Binds K d_values_at ["book", "layer"] []
  m_values_at : mg "values_at" = some (.ref f_values_at)
  f_starts_below : Addr
  d_starts_below : FuncData
  F_starts_below : Fun K "starts_below" "starts_below" s_starts_below f_starts_below d_starts_below
  b_starts_below : Binds K d_starts_below ["book", "layer", "state"] []
  m_starts_below : mg "starts_below" = some (.ref f_starts_below)
  f_starts : Addr
  d_starts : FuncData
  F_starts : Fun K "starts" "starts" s_starts f_starts d_starts
  b_starts : Binds K d_starts ["book"] []
  m_starts : mg "starts" = some (.ref f_starts)
  f_place_below : Addr
  d_place_below : FuncData
  F_place_below : Fun K "place_below" "place_below" s_place_below f_place_below d_place_below
  b_place_below : Binds K d_place_below ["book", "layer", "state"] []
  m_place_below : mg "place_below" = some (.ref f_place_below)
  f_kept : Addr
  d_kept : FuncData
  F_kept : Fun K "kept" "kept" s_kept f_kept d_kept
  b_kept : Binds K d_kept ["book", "state", "layer"] []
  m_kept : mg "kept" = some (.ref f_kept)
  f_changed : Addr
  d_changed : FuncData
  F_changed : Fun K "changed" "changed" s_changed f_changed d_changed
  b_changed : Binds K d_changed ["state", "layer", "entry"] []
  m_changed : mg "changed" = some (.ref f_changed)
  f_Book_product : Addr
  d_Book_product : FuncData
  F_Book_product : Fun K "product" "Book.product" s_Book_product f_Book_product d_Book_product
  b_Book_product : Binds K d_Book_product ["self", "layer", "first", "second"] []
  mm_Book_product : Meth K cs.Book "product" f_Book_product
  f_noted : Addr
  d_noted : FuncData
  F_noted : Fun K "noted" "noted" s_noted f_noted d_noted
  b_noted : Binds K d_noted ["book", "state", "layer", "member"] []
  m_noted : mg "noted" = some (.ref f_noted)
  f_end_at : Addr
  d_end_at : FuncData
  F_end_at : Fun K "end_at" "end_at" s_end_at f_end_at d_end_at
  b_end_at : Binds K d_end_at ["book", "state", "deed"] []
  m_end_at : mg "end_at" = some (.ref f_end_at)
  f_entries_beneath : Addr
  d_entries_beneath : FuncData
  F_entries_beneath : Fun K "_entries_beneath" "_entries_beneath" s_entries_beneath f_entries_beneath d_entries_beneath
  b_entries_beneath : Binds K d_entries_beneath ["book", "layer", "rest"] []
  m_entries_beneath : mg "_entries_beneath" = some (.ref f_entries_beneath)
  f_Book_ways_at : Addr
  d_Book_ways_at : FuncData
  F_Book_ways_at : Fun K "ways_at" "Book.ways_at" s_Book_ways_at f_Book_ways_at d_Book_ways_at
  b_Book_ways_at : Binds K d_Book_ways_at ["self", "layer", "deed"] []
  mm_Book_ways_at : Meth K cs.Book "ways_at" f_Book_ways_at
  f_asked : Addr
  d_asked : FuncData
  F_asked : Fun K "_asked" "_asked" s_asked f_asked d_asked
  b_asked : Binds K d_asked ["book", "state", "deed", "number"] []
  m_asked : mg "_asked" = some (.ref f_asked)
  f_way_on : Addr
  d_way_on : FuncData
  F_way_on : Fun K "_way_on" "_way_on" s_way_on f_way_on d_way_on
  b_way_on : Binds K d_way_on ["state", "deed", "number"] []
  m_way_on : mg "_way_on" = some (.ref f_way_on)
  f_state_after : Addr
  d_state_after : FuncData
  F_state_after : Fun K "_state_after" "_state_after" s_state_after f_state_after d_state_after
  b_state_after : Binds K d_state_after ["book", "state", "deed"] []
  m_state_after : mg "_state_after" = some (.ref f_state_after)
  f_takes_number : Addr
  d_takes_number : FuncData
  F_takes_number : Fun K "takes_number" "takes_number" s_takes_number f_takes_number d_takes_number
  b_takes_number : Binds K d_takes_number ["deed"] []
  m_takes_number : mg "takes_number" = some (.ref f_takes_number)
  f_step_of : Addr
  d_step_of : FuncData
  F_step_of : Fun K "step_of" "step_of" s_step_of f_step_of d_step_of
  b_step_of : Binds K d_step_of ["book", "state", "deed", "number"] []
  m_step_of : mg "step_of" = some (.ref f_step_of)
  f_Play_init : Addr
  d_Play_init : FuncData
  F_Play_init : Fun K "__init__" "Play.__init__" s_Play_init f_Play_init d_Play_init
  b_Play_init : Binds K d_Play_init ["self", "book", "start", "script"] []
  mk_Play : Mk K cs.Play f_Play_init
  f_Play_number : Addr
  d_Play_number : FuncData
  F_Play_number : Fun K "_number" "Play._number" s_Play_number f_Play_number d_Play_number
  b_Play_number : Binds K d_Play_number ["self"] []
  mm_Play_number : Meth K cs.Play "_number" f_Play_number
  f_Play_answer : Addr
  d_Play_answer : FuncData
  F_Play_answer : Fun K "answer" "Play.answer" s_Play_answer f_Play_answer d_Play_answer
  b_Play_answer : Binds K d_Play_answer ["self", "deed"] []
  mm_Play_answer : Meth K cs.Play "answer" f_Play_answer
  f_Play_restore : Addr
  d_Play_restore : FuncData
  F_Play_restore : Fun K "restore" "Play.restore" s_Play_restore f_Play_restore d_Play_restore
  b_Play_restore : Binds K d_Play_restore ["self", "layer", "state"] []
  mm_Play_restore : Meth K cs.Play "restore" f_Play_restore
  f_Play_outcome : Addr
  d_Play_outcome : FuncData
  F_Play_outcome : Fun K "outcome" "Play.outcome" s_Play_outcome f_Play_outcome d_Play_outcome
  b_Play_outcome : Binds K d_Play_outcome ["self", "deed"] []
  mm_Play_outcome : Meth K cs.Play "outcome" f_Play_outcome
  f_BookError_init : Addr
  d_BookError_init : FuncData
  F_BookError_init : Fun K "__init__" "BookError.__init__" s_BookError_init f_BookError_init d_BookError_init
  b_BookError_init : Binds K d_BookError_init ["self", "layer"] []
  ti_BookError_init : PySem.W.typeIn K (.ref f_BookError_init) = some (.type "function")
  f_is_name : Addr
  d_is_name : FuncData
  F_is_name : Fun K "is_name" "is_name" s_is_name f_is_name d_is_name
  b_is_name : Binds K d_is_name ["token"] []
  m_is_name : mg "is_name" = some (.ref f_is_name)
  f_is_associative : Addr
  d_is_associative : FuncData
  F_is_associative : Fun K "_is_associative" "_is_associative" s_is_associative f_is_associative d_is_associative
  b_is_associative : Binds K d_is_associative ["table"] []
  m_is_associative : mg "_is_associative" = some (.ref f_is_associative)
  f_is_square : Addr
  d_is_square : FuncData
  F_is_square : Fun K "_is_square" "_is_square" s_is_square f_is_square d_is_square
  b_is_square : Binds K d_is_square ["table"] []
  m_is_square : mg "_is_square" = some (.ref f_is_square)
  f_is_monoid : Addr
  d_is_monoid : FuncData
  F_is_monoid : Fun K "_is_monoid" "_is_monoid" s_is_monoid f_is_monoid d_is_monoid
  b_is_monoid : Binds K d_is_monoid ["table"] []
  m_is_monoid : mg "_is_monoid" = some (.ref f_is_monoid)
  f_is_layer : Addr
  d_is_layer : FuncData
  F_is_layer : Fun K "_is_layer" "_is_layer" s_is_layer f_is_layer d_is_layer
  b_is_layer : Binds K d_is_layer ["layer"] []
  m_is_layer : mg "_is_layer" = some (.ref f_is_layer)
  f_states_of : Addr
  d_states_of : FuncData
  F_states_of : Fun K "_states_of" "_states_of" s_states_of f_states_of d_states_of
  b_states_of : Binds K d_states_of ["layers"] []
  m_states_of : mg "_states_of" = some (.ref f_states_of)
  f_Book_init : Addr
  d_Book_init : FuncData
  F_Book_init : Fun K "__init__" "Book.__init__" s_Book_init f_Book_init d_Book_init
  b_Book_init : Binds K d_Book_init ["self", "kernel", "layers"] []
  mk_Book : Mk K cs.Book f_Book_init
  f_law_row : Addr
  d_law_row : FuncData
  F_law_row : Fun K "_law_row" "_law_row" s_law_row f_law_row d_law_row
  b_law_row : Binds K d_law_row ["_law_script", "_law_k", "_law_count"] []
  m_law_row : mg "_law_row" = some (.ref f_law_row)
  f_law_book : Addr
  d_law_book : FuncData
  F_law_book : Fun K "_law_book" "_law_book" s_law_book f_law_book d_law_book
  b_law_book : Binds K d_law_book ["_law_k"] []
  m_law_book : mg "_law_book" = some (.ref f_law_book)
  f_law_deeds : Addr
  d_law_deeds : FuncData
  F_law_deeds : Fun K "_law_deeds" "_law_deeds" s_law_deeds f_law_deeds d_law_deeds
  b_law_deeds : Binds K d_law_deeds ["_law_kernel", "_law_layers"] []
  m_law_deeds : mg "_law_deeds" = some (.ref f_law_deeds)
  f_law_starts : Addr
  d_law_starts : FuncData
  F_law_starts : Fun K "_law_starts" "_law_starts" s_law_starts f_law_starts d_law_starts
  b_law_starts : Binds K d_law_starts ["_law_layers", "_law_layer", "_law_state"] []
  m_law_starts : mg "_law_starts" = some (.ref f_law_starts)
  f_law_kept : Addr
  d_law_kept : FuncData
  F_law_kept : Fun K "_law_kept" "_law_kept" s_law_kept f_law_kept d_law_kept
  b_law_kept : Binds K d_law_kept ["_law_layers", "_law_state", "_law_layer"] []
  m_law_kept : mg "_law_kept" = some (.ref f_law_kept)
  f_law_asked : Addr
  d_law_asked : FuncData
  F_law_asked : Fun K "_law_asked" "_law_asked" s_law_asked f_law_asked d_law_asked
  b_law_asked : Binds K d_law_asked ["_law_layers", "_law_state", "_law_deed", "_law_number", "_law_trail"] []
  m_law_asked : mg "_law_asked" = some (.ref f_law_asked)
  f_law_step : Addr
  d_law_step : FuncData
  F_law_step : Fun K "_law_step" "_law_step" s_law_step f_law_step d_law_step
  b_law_step : Binds K d_law_step ["_law_layers", "_law_state", "_law_deed", "_law_number", "_law_trail"] []
  m_law_step : mg "_law_step" = some (.ref f_law_step)
  f_law_back : Addr
  d_law_back : FuncData
  F_law_back : Fun K "_law_back" "_law_back" s_law_back f_law_back d_law_back
  b_law_back : Binds K d_law_back ["_law_layers", "_law_state", "_law_layer", "_law_old"] []
  m_law_back : mg "_law_back" = some (.ref f_law_back)
  f_law_states : Addr
  d_law_states : FuncData
  F_law_states : Fun K "_law_states" "_law_states" s_law_states f_law_states d_law_states
  b_law_states : Binds K d_law_states ["_law_book_here", "_law_layers", "_law_row_here"] []
  m_law_states : mg "_law_states" = some (.ref f_law_states)
  f_law_end : Addr
  d_law_end : FuncData
  F_law_end : Fun K "_law_end" "_law_end" s_law_end f_law_end d_law_end
  b_law_end : Binds K d_law_end ["_law_layers", "_law_state", "_law_row_here"] []
  m_law_end : mg "_law_end" = some (.ref f_law_end)
  f_law : Addr
  d_law : FuncData
  F_law : Fun K "law" "law" s_law f_law d_law
  b_law : Binds K d_law ["_law_script"] []
  m_law : mg "law" = some (.ref f_law)
  m_Play : mg "Play" = some (.ref cs.Play)
  cl_Play : Cls K cs.Play
  n_Play_book : NoAttr K cs.Play "book"
  n_Play_deeds : NoAttr K cs.Play "deeds"
  n_Play_script : NoAttr K cs.Play "script"
  n_Play_state : NoAttr K cs.Play "state"
  n_Play_taken : NoAttr K cs.Play "taken"
  n_Play_trail : NoAttr K cs.Play "trail"
  m_DeedsError : mg "DeedsError" = some (.ref cs.DeedsError)
  m_BookError : mg "BookError" = some (.ref cs.BookError)
  o_BookError : OexC K cs.BookError
  ii_BookError : PySem.W.findIn K (.ref cs.BookError) "__init__" = some (some (.ref f_BookError_init))
  x_BookError : XfC K cs.BookError
  n_BookError_layer : PySem.W.findIn K (.ref cs.BookError) "layer" = some none
  m_Book : mg "Book" = some (.ref cs.Book)
  cl_Book : Cls K cs.Book
  n_Book_kernel : NoAttr K cs.Book "kernel"
  n_Book_layers : NoAttr K cs.Book "layers"
  n_Book_numbers : NoAttr K cs.Book "numbers"
  n_Book_size : NoAttr K cs.Book "size"
  z_abs : mg "abs" = none
  z_bool : mg "bool" = none
  z_enumerate : mg "enumerate" = none
  z_int : mg "int" = none
  z_isinstance : mg "isinstance" = none
  z_len : mg "len" = none
  z_list : mg "list" = none
  z_max : mg "max" = none
  z_min : mg "min" = none
  z_range : mg "range" = none
  z_tuple : mg "tuple" = none
  g_MOST_LAYERS : ∃ t, mg "MOST_LAYERS" = some (.int 5 t)
  g_MOST_STATES : ∃ t, mg "MOST_STATES" = some (.int 12 t)
  k_LAYER_WORDS : Addr
  m_LAYER_WORDS : mg "LAYER_WORDS" = some (.ref k_LAYER_WORDS)
  tp_LAYER_WORDS : ∀ F, Rp K F (strsD ["cell", "setting", "note", "fail", "outside"]) (.ref k_LAYER_WORDS)
  k_KERNELS : Addr
  es_KERNELS : Array DictEntry
  nn_KERNELS : Nat
  m_KERNELS : mg "KERNELS" = some (.ref k_KERNELS)
  kd_KERNELS : KDict K w k_KERNELS es_KERNELS nn_KERNELS
  nk_KERNELS : ∀ z ∈ (["none", "choose", "draw", "spread", "twochoose", "twodraw", "mixed"] : List Str), ∃ u, PySem.W.nsIn K k_KERNELS z = some (some u)
section
variable {P : Program} {w : World} {K : PySem.W.Frag} {mg : Str → Option Value} {base : Heap} {cs : Cs}
theorem ok_Book_word_at (T : Txt K mg w cs) : FnOk P w K mg base CX0 1 T.f_Book_word_at T.d_Book_word_at ["self", "layer"] (spOf K (S_Book_word_at cs)) := by
  refine fn_ok T.F_Book_word_at sc_Book_word_at (ar_Book_word_at cs) fun cdv A outer s H E Z hr => ⟨r_Book_word_at cs, ?_, (red_Book_word_at cs)⟩
  exact (qss_one (qs_ret (qe_ix (qe_ixR (qe_fld T.cl_Book T.n_Book_layers (qe_var 0)) (qe_sub (qe_var 1) qe_int)) qe_int)))

theorem ok_has_values (T : Txt K mg w cs) : FnOk P w K mg base CX0 2 T.f_has_values T.d_has_values ["book", "layer"] (spOf K (S_has_values cs)) := by
  refine fn_ok T.F_has_values sc_has_values (ar_has_values cs) fun cdv A outer s H E Z hr => ⟨r_has_values cs, ?_, (red_has_values cs)⟩
  exact (qss_one (qs_ret (qe_cmp op_inA od_inA (qe_meth T.cl_Book T.mm_Book_word_at (ok_Book_word_at T) (hr.mono (by first | decide | omega | exact Nat.le_refl _ | exact Nat.le_trans (by decide) (Nat.le_add_right _ _))) T.b_Book_word_at (qe_var 0) (qa_cons (qe_var 1) qa_nil)) (qe_tup (qa_cons qe_str (qa_cons qe_str qa_nil))))))

theorem ok_Book_count_at (T : Txt K mg w cs) : FnOk P w K mg base CX0 1 T.f_Book_count_at T.d_Book_count_at ["self", "layer"] (spOf K (S_Book_count_at cs)) := by
  refine fn_ok T.F_Book_count_at sc_Book_count_at (ar_Book_count_at cs) fun cdv A outer s H E Z hr => ⟨r_Book_count_at cs, ?_, (red_Book_count_at cs)⟩
  exact (qss_cons (qs_unp (is := [2, 3, 4]) rfl (qe_ixR (qe_fld T.cl_Book T.n_Book_layers (qe_var 0)) (qe_sub (qe_var 1) qe_int)) (pgs_cons (pg_name (i := 2) sc_Book_count_at.nd rfl (Or.inl rfl)) (pgs_cons (pg_name (i := 3) sc_Book_count_at.nd rfl (Or.inl rfl)) (pgs_cons (pg_name (i := 4) sc_Book_count_at.nd rfl (Or.inl rfl)) pgs_nil))))
      (qss_cons (qs_if (qt_cmp op_inA od_inA (qe_var 2) (qe_tup (qa_cons qe_str (qa_cons qe_str qa_nil)))) (qss_one (qs_ret (qe_len (by rfl) T.z_len (qa_cons (qe_var 4) qa_nil)))) qss_nil)
      (qss_one (qs_ret (qe_var 4)))))

theorem ok_values_at (T : Txt K mg w cs) : FnOk P w K mg base CX0 3 T.f_values_at T.d_values_at ["book", "layer"] (spOf K (S_values_at cs)) := by
  refine fn_ok T.F_values_at sc_values_at (ar_values_at cs) fun cdv A outer s H E Z hr => ⟨r_values_at cs, ?_, (red_values_at cs)⟩
  exact (qss_one (qs_ret (qe_if (qt_truth (qe_call (ok_has_values T) (hr.mono (by first | decide | omega | exact Nat.le_refl _ | exact Nat.le_trans (by decide) (Nat.le_add_right _ _))) (by rfl) T.m_has_values T.F_has_values.kp T.b_has_values (qa_cons (qe_var 0) (qa_cons (qe_var 1) qa_nil)))) (qe_meth T.cl_Book T.mm_Book_count_at (ok_Book_count_at T) (hr.mono (by first | decide | omega | exact Nat.le_refl _ | exact Nat.le_trans (by decide) (Nat.le_add_right _ _))) T.b_Book_count_at (qe_var 0) (qa_cons (qe_var 1) qa_nil)) qe_int)))

theorem ok_starts_below (T : Txt K mg w cs) : FnOk P w K mg base CX0 4 T.f_starts_below T.d_starts_below ["book", "layer", "state"] (spOf K (S_starts_below cs)) := by
  refine fn_ok T.F_starts_below sc_starts_below (ar_starts_below cs) fun cdv A outer s H E Z hr => ⟨r_starts_below cs, ?_, (red_starts_below cs)⟩
  exact (qss_cons (qs_set (i := 3) sc_starts_below.nd (qe_lst (qa_cons (qe_tup qa_nil) qa_nil)))
      (qss_cons (qs_forR2 (j := 4) (js := [4, 5]) PassesOwn.never (by rfl) sc_starts_below.nd (by rfl) T.z_range qe_int (qe_var 1) (qss_cons (qs_set (i := 5) sc_starts_below.nd (qe_call (ok_values_at T) (hr.mono (by first | decide | omega | exact Nat.le_refl _ | exact Nat.le_trans (by decide) (Nat.le_add_right _ _))) (by rfl) T.m_values_at T.F_values_at.kp T.b_values_at (qa_cons (qe_var 0) (qa_cons (qe_var 4) qa_nil))))
    (qss_one (qs_setLc2D (i := 3) (own := [("row", 6), ("entry", 7)]) (vs := [6, 7]) (us := [7]) (by rfl) sc_starts_below.nd rfl rfl (sw_true rfl rfl rfl (by decide +kernel)) (qi_seq (qe_var 3)) (blkOk_by (N := ["book", "layer", "state", "found", "number", "many", "row", "entry"]) (sc := defScope s_starts_below) (own := [("row", 6), ("entry", 7)]) (by decide +kernel)) (by decide) (simGw_name (j := 6) (by decide)) (simGw_name (j := 7) (by decide)) (fun _ _ _ _ _ => (pg_name (i := 6) sc_starts_below.nd rfl (Or.inl rfl))) (fun _ _ _ _ _ => pts_yes) (fun _ _ _ _ _ Z => (qi_range (by rfl) T.z_range (qe_var 5))) (fun _ _ _ _ _ => (pg_name (i := 7) sc_starts_below.nd rfl (Or.inl rfl))) (fun _ _ _ _ _ => pts_yes) (fun _ _ _ _ _ Z => (qe_tupB (qb_star (qe_var 6) (qb_cons (qe_var 7) qb_nil))))))))
      (qss_one (qs_ret (qe_fz (ql_lc (own := [("row", 6)]) (vs := [6]) (by rfl) sc_starts_below.nd (qi_seq (qe_var 3)) (blkOk_by (N := ["book", "layer", "state", "found", "number", "many", "row", "entry"]) (sc := defScope s_starts_below) (own := [("row", 6)]) (by decide +kernel)) (simGw_name (j := 6) (by decide)) (fun _ _ _ _ _ => (pg_name (i := 6) sc_starts_below.nd rfl (Or.inl rfl))) (fun _ _ _ _ _ => pts_yes) (fun _ _ _ _ _ Z => (qe_addT (qe_var 6) (qe_slA (qe_var 2) (qo_some (qe_sub (qe_var 1) qe_int)) qo_none)))))))))

theorem ok_starts (T : Txt K mg w cs) : FnOk P w K mg base CX0 5 T.f_starts T.d_starts ["book"] (spOf K (S_starts cs)) := by
  refine fn_ok T.F_starts sc_starts (ar_starts cs) fun cdv A outer s H E Z hr => ⟨r_starts cs, ?_, (red_starts cs)⟩
  exact (qss_one (qs_ret (qe_call (ok_starts_below T) (hr.mono (by first | decide | omega | exact Nat.le_refl _ | exact Nat.le_trans (by decide) (Nat.le_add_right _ _))) (by rfl) T.m_starts_below T.F_starts_below.kp T.b_starts_below (qa_cons (qe_var 0) (qa_cons (qe_addT (qe_fld T.cl_Book T.n_Book_size (qe_var 0)) qe_int) (qa_cons (qe_tup qa_nil) qa_nil))))))

theorem ok_place_below (T : Txt K mg w cs) : FnOk P w K mg base CX0 3 T.f_place_below T.d_place_below ["book", "layer", "state"] (spOf K (S_place_below cs)) := by
  refine fn_ok T.F_place_below sc_place_below (ar_place_below cs) fun cdv A outer s H E Z hr => ⟨r_place_below cs, ?_, (red_place_below cs)⟩
  exact (qss_cons (qs_set (i := 3) sc_place_below.nd qe_int)
      (qss_cons (qs_forR2 (j := 4) (js := [4]) PassesOwn.never (by rfl) sc_place_below.nd (by rfl) T.z_range qe_int (qe_var 1) (qss_one (qs_if (qt_truth (qe_call (ok_has_values T) (hr.mono (by first | decide | omega | exact Nat.le_refl _ | exact Nat.le_trans (by decide) (Nat.le_add_right _ _))) (by rfl) T.m_has_values T.F_has_values.kp T.b_has_values (qa_cons (qe_var 0) (qa_cons (qe_var 4) qa_nil)))) (qss_one (qs_set (i := 3) sc_place_below.nd (qe_addT (qe_mulA (qe_var 3) (qe_meth T.cl_Book T.mm_Book_count_at (ok_Book_count_at T) (hr.mono (by first | decide | omega | exact Nat.le_refl _ | exact Nat.le_trans (by decide) (Nat.le_add_right _ _))) T.b_Book_count_at (qe_var 0) (qa_cons (qe_var 4) qa_nil))) (qe_ix (qe_var 2) (qe_sub (qe_var 4) qe_int))))) qss_nil)))
      (qss_one (qs_ret (qe_var 3)))))

theorem ok_kept (T : Txt K mg w cs) : FnOk P w K mg base CX0 2 T.f_kept T.d_kept ["book", "state", "layer"] (spOf K (S_kept cs)) := by
  refine fn_ok T.F_kept sc_kept (ar_kept cs) fun cdv A outer s H E Z hr => ⟨r_kept cs, ?_, (red_kept cs)⟩
  exact (qss_cons (qs_setO (i := 3) sc_kept.nd (ql_list (by rfl) T.z_list (qe_slA (qe_var 1) qo_none (qo_some (qe_sub (qe_var 2) qe_int)))))
      (qss_cons (qs_forR2 (j := 4) (js := [4]) PassesOwn.never (by rfl) sc_kept.nd (by rfl) T.z_range qe_int (qe_var 2) (qss_one (qs_if (qt_cmp (op_eqA hr.units) od_eqA (qe_meth T.cl_Book T.mm_Book_word_at (ok_Book_word_at T) (hr.mono (by first | decide | omega | exact Nat.le_refl _ | exact Nat.le_trans (by decide) (Nat.le_add_right _ _))) T.b_Book_word_at (qe_var 0) (qa_cons (qe_var 4) qa_nil)) qe_str) (qss_one (qs_stoO 3 qe_int (qe_sub (qe_var 4) qe_int))) qss_nil)))
      (qss_one (qs_ret (qe_tuple (by rfl) T.z_tuple (qe_var 3))))))

theorem ok_changed (T : Txt K mg w cs) : FnOk P w K mg base CX0 1 T.f_changed T.d_changed ["state", "layer", "entry"] (spOf K (S_changed cs)) := by
  refine fn_ok T.F_changed sc_changed (ar_changed cs) fun cdv A outer s H E Z hr => ⟨r_changed cs, ?_, (red_changed cs)⟩
  exact (qss_one (qs_ret (qe_tupB (qb_star (qe_slA (qe_var 0) qo_none (qo_some (qe_sub (qe_var 1) qe_int))) (qb_cons (qe_var 2) (qb_star (qe_slA (qe_var 0) (qo_some (qe_var 1)) qo_none) qb_nil))))))

theorem ok_Book_product (T : Txt K mg w cs) : FnOk P w K mg base CX0 1 T.f_Book_product T.d_Book_product ["self", "layer", "first", "second"] (spOf K (S_Book_product cs)) := by
  refine fn_ok T.F_Book_product sc_Book_product (ar_Book_product cs) fun cdv A outer s H E Z hr => ⟨r_Book_product cs, ?_, (red_Book_product cs)⟩
  exact (qss_one (qs_ret (qe_ix (qe_ix (qe_ix (qe_ixR (qe_fld T.cl_Book T.n_Book_layers (qe_var 0)) (qe_sub (qe_var 1) qe_int)) qe_int) (qe_var 2)) (qe_var 3))))

theorem ok_noted (T : Txt K mg w cs) : FnOk P w K mg base CX0 2 T.f_noted T.d_noted ["book", "state", "layer", "member"] (spOf K (S_noted cs)) := by
  refine fn_ok T.F_noted sc_noted (ar_noted cs) fun cdv A outer s H E Z hr => ⟨r_noted cs, ?_, (red_noted cs)⟩
  exact (qss_cons (qs_set (i := 4) sc_noted.nd (qe_meth T.cl_Book T.mm_Book_product (ok_Book_product T) (hr.mono (by first | decide | omega | exact Nat.le_refl _ | exact Nat.le_trans (by decide) (Nat.le_add_right _ _))) T.b_Book_product (qe_var 0) (qa_cons (qe_var 2) (qa_cons (qe_ix (qe_var 1) (qe_sub (qe_var 2) qe_int)) (qa_cons (qe_var 3) qa_nil)))))
      (qss_one (qs_ret (qe_call (ok_changed T) (hr.mono (by first | decide | omega | exact Nat.le_refl _ | exact Nat.le_trans (by decide) (Nat.le_add_right _ _))) (by rfl) T.m_changed T.F_changed.kp T.b_changed (qa_cons (qe_var 1) (qa_cons (qe_var 2) (qa_cons (qe_var 4) qa_nil)))))))

theorem ok_end_at (T : Txt K mg w cs) : FnOk P w K mg base CX0 3 T.f_end_at T.d_end_at ["book", "state", "deed"] (spOf K (S_end_at cs)) := by
  refine fn_ok T.F_end_at sc_end_at (ar_end_at cs) fun cdv A outer s H E Z hr => ⟨r_end_at cs, ?_, (red_end_at cs)⟩
  exact (qss_cons (qs_if (qt_cmp (op_eqA hr.units) od_eqA (qe_ix (qe_var 2) qe_int) qe_str) (qss_one (qs_ret (qe_tup (qa_cons qe_str (qa_cons (qe_ix (qe_var 2) qe_int) (qa_cons (qe_call (ok_kept T) (hr.mono (by first | decide | omega | exact Nat.le_refl _ | exact Nat.le_trans (by decide) (Nat.le_add_right _ _))) (by rfl) T.m_kept T.F_kept.kp T.b_kept (qa_cons (qe_var 0) (qa_cons (qe_var 1) (qa_cons (qe_addT (qe_fld T.cl_Book T.n_Book_size (qe_var 0)) qe_int) qa_nil)))) qa_nil)))))) qss_nil)
      (qss_one (qs_ret (qe_tup (qa_cons qe_str (qa_cons (qe_ix (qe_var 2) qe_int) (qa_cons (qe_ix (qe_var 2) qe_int) (qa_cons (qe_call (ok_kept T) (hr.mono (by first | decide | omega | exact Nat.le_refl _ | exact Nat.le_trans (by decide) (Nat.le_add_right _ _))) (by rfl) T.m_kept T.F_kept.kp T.b_kept (qa_cons (qe_var 0) (qa_cons (qe_var 1) (qa_cons (qe_ix (qe_var 2) qe_int) qa_nil)))) qa_nil))))))))

theorem ok_entries_beneath (T : Txt K mg w cs) : FnOk P w K mg base CX0 3 T.f_entries_beneath T.d_entries_beneath ["book", "layer", "rest"] (spOf K (S_entries_beneath cs)) := by
  refine fn_ok T.F_entries_beneath sc_entries_beneath (ar_entries_beneath cs) fun cdv A outer s H E Z hr => ⟨r_entries_beneath cs, ?_, (red_entries_beneath cs)⟩
  exact (qss_cons (qs_setO (i := 3) sc_entries_beneath.nd (ql_lst qa_nil))
      (qss_cons (qs_forR2 (j := 4) (js := [4]) PassesOwn.never (by rfl) sc_entries_beneath.nd (by rfl) T.z_range qe_int (qe_var 1) (qss_one (qs_if (qt_truth (qe_call (ok_has_values T) (hr.mono (by first | decide | omega | exact Nat.le_refl _ | exact Nat.le_trans (by decide) (Nat.le_add_right _ _))) (by rfl) T.m_has_values T.F_has_values.kp T.b_has_values (qa_cons (qe_var 0) (qa_cons (qe_var 4) qa_nil)))) (qss_cons (qs_set (i := 5) sc_entries_beneath.nd (qe_meth T.cl_Book T.mm_Book_count_at (ok_Book_count_at T) (hr.mono (by first | decide | omega | exact Nat.le_refl _ | exact Nat.le_trans (by decide) (Nat.le_add_right _ _))) T.b_Book_count_at (qe_var 0) (qa_cons (qe_var 4) qa_nil)))
      (qss_cons (qs_app (j := 3) (qe_mod (qe_var 2) (qe_var 5)))
      (qss_one (qs_set (i := 2) sc_entries_beneath.nd (qe_fdivA (qe_var 2) (qe_var 5)))))) (qss_one (qs_app (j := 3) qe_int)))))
      (qss_one (qs_ret (qe_tuple (by rfl) T.z_tuple (qe_var 3))))))

theorem ok_Book_ways_at (T : Txt K mg w cs) : FnOk P w K mg base CX0 1 T.f_Book_ways_at T.d_Book_ways_at ["self", "layer", "deed"] (spOf K (S_Book_ways_at cs)) := by
  refine fn_ok T.F_Book_ways_at sc_Book_ways_at (ar_Book_ways_at cs) fun cdv A outer s H E Z hr => ⟨r_Book_ways_at cs, ?_, (red_Book_ways_at cs)⟩
  exact (qss_one (qs_ret (qe_ix (qe_ix (qe_ixR (qe_fld T.cl_Book T.n_Book_layers (qe_var 0)) (qe_sub (qe_var 1) qe_int)) qe_int) (qe_var 2))))

theorem ok_asked (T : Txt K mg w cs) : FnOk P w K mg base CX0 4 T.f_asked T.d_asked ["book", "state", "deed", "number"] (spOf K (S_asked cs)) := by
  refine fn_ok T.F_asked sc_asked (ar_asked cs) fun cdv A outer s H E Z hr => ⟨r_asked cs, ?_, (red_asked cs)⟩
  exact (qss_cons (qs_unp (is := [4, 5, 6]) rfl (qe_var 2) (pgs_cons (pg_name (i := 4) sc_asked.nd rfl (Or.inl rfl)) (pgs_cons (pg_name (i := 5) sc_asked.nd rfl (Or.inl rfl)) (pgs_cons (pg_name (i := 6) sc_asked.nd rfl (Or.inl rfl)) pgs_nil))))
      (qss_cons (qs_set (i := 7) sc_asked.nd (qe_meth T.cl_Book T.mm_Book_ways_at (ok_Book_ways_at T) (hr.mono (by first | decide | omega | exact Nat.le_refl _ | exact Nat.le_trans (by decide) (Nat.le_add_right _ _))) T.b_Book_ways_at (qe_var 0) (qa_cons (qe_var 5) (qa_cons (qe_var 6) qa_nil))))
      (qss_cons (qs_set (i := 8) sc_asked.nd (qe_call (ok_entries_beneath T) (hr.mono (by first | decide | omega | exact Nat.le_refl _ | exact Nat.le_trans (by decide) (Nat.le_add_right _ _))) (by rfl) T.m_entries_beneath T.F_entries_beneath.kp T.b_entries_beneath (qa_cons (qe_var 0) (qa_cons (qe_var 5) (qa_cons (qe_fdivA (qe_var 3) (qe_var 7)) qa_nil)))))
      (qss_one (qs_ret (qe_tup (qa_cons (qe_var 5) (qa_cons (qe_var 6) (qa_cons (qe_call (ok_kept T) (hr.mono (by first | decide | omega | exact Nat.le_refl _ | exact Nat.le_trans (by decide) (Nat.le_add_right _ _))) (by rfl) T.m_kept T.F_kept.kp T.b_kept (qa_cons (qe_var 0) (qa_cons (qe_var 1) (qa_cons (qe_var 5) qa_nil)))) (qa_cons (qe_mod (qe_var 3) (qe_var 7)) (qa_cons (qe_var 8) qa_nil)))))))))))

theorem ok_way_on (T : Txt K mg w cs) : FnOk P w K mg base CX0 1 T.f_way_on T.d_way_on ["state", "deed", "number"] (spOf K (S_way_on cs)) := by
  refine fn_ok T.F_way_on sc_way_on (ar_way_on cs) fun cdv A outer s H E Z hr => ⟨r_way_on cs, ?_, (red_way_on cs)⟩
  exact (qss_cons (qs_set (i := 3) sc_way_on.nd (qe_ix (qe_var 1) qe_int))
      (qss_cons (qs_if (qt_cmp (op_eqA hr.units) od_eqA (qe_var 3) qe_str) (qss_one (qs_ret (qe_mod (qe_var 2) qe_int))) qss_nil)
      (qss_cons (qs_if (qt_cmp (op_eqA hr.units) od_eqA (qe_var 3) qe_str) (qss_one (qs_ret (qe_if (qt_cmp op_lt od_lt (qe_mod (qe_var 2) (qe_ix (qe_var 1) qe_int)) (qe_ix (qe_var 1) qe_int)) qe_int qe_int))) qss_nil)
      (qss_cons (qs_if (qt_cmp op_inA od_inA (qe_var 3) (qe_tup (qa_cons qe_str (qa_cons qe_str qa_nil)))) (qss_one (qs_ret (qe_ix (qe_var 0) (qe_sub (qe_ix (qe_var 1) qe_int) qe_int)))) qss_nil)
      (qss_one (qs_ret qe_int))))))

theorem ok_state_after (T : Txt K mg w cs) : FnOk P w K mg base CX0 3 T.f_state_after T.d_state_after ["book", "state", "deed"] (spOf K (S_state_after cs)) := by
  refine fn_ok T.F_state_after sc_state_after (ar_state_after cs) fun cdv A outer s H E Z hr => ⟨r_state_after cs, ?_, (red_state_after cs)⟩
  exact (qss_cons (qs_if (qt_cmp (op_eqA hr.units) od_eqA (qe_ix (qe_var 2) qe_int) qe_str) (qss_one (qs_ret (qe_call (ok_changed T) (hr.mono (by first | decide | omega | exact Nat.le_refl _ | exact Nat.le_trans (by decide) (Nat.le_add_right _ _))) (by rfl) T.m_changed T.F_changed.kp T.b_changed (qa_cons (qe_var 1) (qa_cons (qe_ix (qe_var 2) qe_int) (qa_cons (qe_ix (qe_var 2) qe_int) qa_nil)))))) qss_nil)
      (qss_cons (qs_if (qt_cmp (op_eqA hr.units) od_eqA (qe_ix (qe_var 2) qe_int) qe_str) (qss_one (qs_ret (qe_call (ok_noted T) (hr.mono (by first | decide | omega | exact Nat.le_refl _ | exact Nat.le_trans (by decide) (Nat.le_add_right _ _))) (by rfl) T.m_noted T.F_noted.kp T.b_noted (qa_cons (qe_var 0) (qa_cons (qe_var 1) (qa_cons (qe_ix (qe_var 2) qe_int) (qa_cons (qe_ix (qe_var 2) qe_int) qa_nil))))))) qss_nil)
      (qss_one (qs_ret (qe_var 1)))))

theorem ok_takes_number (T : Txt K mg w cs) : FnOk P w K mg base CX0 1 T.f_takes_number T.d_takes_number ["deed"] (spOf K (S_takes_number cs)) := by
  refine fn_ok T.F_takes_number sc_takes_number (ar_takes_number cs) fun cdv A outer s H E Z hr => ⟨r_takes_number cs, ?_, (red_takes_number cs)⟩
  exact (qss_one (qs_ret (qe_cmp op_inA od_inA (qe_ix (qe_var 0) qe_int) (qe_tup (qa_cons qe_str (qa_cons qe_str (qa_cons qe_str qa_nil)))))))

theorem ok_step_of (T : Txt K mg w cs) : FnOk P w K mg base CX0 5 T.f_step_of T.d_step_of ["book", "state", "deed", "number"] (spOf K (S_step_of cs)) := by
  refine fn_ok T.F_step_of sc_step_of (ar_step_of cs) fun cdv A outer s H E Z hr => ⟨r_step_of cs, ?_, (red_step_of cs)⟩
  exact (qss_cons (qs_if (qt_cmp (op_eqA hr.units) od_eqA (qe_ix (qe_var 2) qe_int) qe_str) (qss_cons (qs_set (i := 4) sc_step_of.nd (qe_call (ok_asked T) (hr.mono (by first | decide | omega | exact Nat.le_refl _ | exact Nat.le_trans (by decide) (Nat.le_add_right _ _))) (by rfl) T.m_asked T.F_asked.kp T.b_asked (qa_cons (qe_var 0) (qa_cons (qe_var 1) (qa_cons (qe_var 2) (qa_cons (qe_var 3) qa_nil))))))
    (qss_one (qs_ret (qe_tup (qa_cons (qe_ix (qe_var 4) qe_int) (qa_cons (qe_addT (qe_ix (qe_var 4) qe_int) (qe_slA (qe_var 1) (qo_some (qe_sub (qe_ix (qe_var 2) qe_int) qe_int)) qo_none)) (qa_cons (qe_tup (qa_cons (qe_var 4) qa_nil)) qa_nil))))))) qss_nil)
      (qss_one (qs_ret (qe_tup (qa_cons (qe_call (ok_way_on T) (hr.mono (by first | decide | omega | exact Nat.le_refl _ | exact Nat.le_trans (by decide) (Nat.le_add_right _ _))) (by rfl) T.m_way_on T.F_way_on.kp T.b_way_on (qa_cons (qe_var 1) (qa_cons (qe_var 2) (qa_cons (qe_var 3) qa_nil)))) (qa_cons (qe_call (ok_state_after T) (hr.mono (by first | decide | omega | exact Nat.le_refl _ | exact Nat.le_trans (by decide) (Nat.le_add_right _ _))) (by rfl) T.m_state_after T.F_state_after.kp T.b_state_after (qa_cons (qe_var 0) (qa_cons (qe_var 1) (qa_cons (qe_var 2) qa_nil)))) (qa_cons (qe_tup qa_nil) qa_nil)))))))

theorem ok_Play_init (T : Txt K mg w cs) : FnOk P w K mg base CX0 1 T.f_Play_init T.d_Play_init ["self", "book", "start", "script"] (spOf K (S_Play_init cs)) := by
  refine fn_ok T.F_Play_init sc_Play_init (ar_Play_init cs) fun cdv A outer s H E Z hr => ⟨r_Play_init cs, ?_, (red_Play_init cs)⟩
  exact (qss_cons (qs_fld T.cl_Play T.n_Play_book (qe_var 0) (qe_var 1))
      (qss_cons (qs_fld T.cl_Play T.n_Play_state (qe_var 0) (qe_tuple (by rfl) T.z_tuple (qe_var 2)))
      (qss_cons (qs_fld T.cl_Play T.n_Play_script (qe_var 0) (qe_tuple (by rfl) T.z_tuple (qe_var 3)))
      (qss_cons (qs_fld T.cl_Play T.n_Play_taken (qe_var 0) qe_int)
      (qss_cons (qs_fld T.cl_Play T.n_Play_deeds (qe_var 0) qe_int)
      (qss_one (qs_fld T.cl_Play T.n_Play_trail (qe_var 0) (qe_newM (ql_lst qa_nil)))))))))

theorem ok_Play_number (T : Txt K mg w cs) : FnOk P w K mg base CX0 1 T.f_Play_number T.d_Play_number ["self"] (spOf K (S_Play_number cs)) := by
  refine fn_ok T.F_Play_number sc_Play_number (ar_Play_number cs) fun cdv A outer s H E Z hr => ⟨r_Play_number cs, ?_, (red_Play_number cs)⟩
  exact (qss_cons (qs_augF T.cl_Play T.n_Play_taken inop_add od_plus (qe_var 0) qe_int)
      (qss_cons (qs_if (qt_cmp op_le od_le (qe_fld T.cl_Play T.n_Play_taken (qe_var 0)) (qe_lenR (by rfl) T.z_len (qe_fld T.cl_Play T.n_Play_script (qe_var 0)))) (qss_one (qs_ret (qe_ixR (qe_fld T.cl_Play T.n_Play_script (qe_var 0)) (qe_sub (qe_fld T.cl_Play T.n_Play_taken (qe_var 0)) qe_int)))) qss_nil)
      (qss_one (qs_ret qe_int))))

theorem ok_Play_answer (T : Txt K mg w cs) : FnOk P w K mg base CX0 6 T.f_Play_answer T.d_Play_answer ["self", "deed"] (spOf K (S_Play_answer cs)) := by
  refine fn_ok T.F_Play_answer sc_Play_answer (ar_Play_answer cs) fun cdv A outer s H E Z hr => ⟨r_Play_answer cs, ?_, (red_Play_answer cs)⟩
  exact (qss_cons (qs_set (i := 2) sc_Play_answer.nd (qe_if (qt_truth (qe_call (ok_takes_number T) (hr.mono (by first | decide | omega | exact Nat.le_refl _ | exact Nat.le_trans (by decide) (Nat.le_add_right _ _))) (by rfl) T.m_takes_number T.F_takes_number.kp T.b_takes_number (qa_cons (qe_var 1) qa_nil))) (qe_meth0 T.cl_Play T.mm_Play_number (ok_Play_number T) (hr.mono (by first | decide | omega | exact Nat.le_refl _ | exact Nat.le_trans (by decide) (Nat.le_add_right _ _))) T.b_Play_number (qe_var 0)) qe_int))
      (qss_cons (qs_unpG (rs := [gmN 3, gmF cs.Play "state" (dVar 0), gmN 4]) rfl (qe_call (ok_step_of T) (hr.mono (by first | decide | omega | exact Nat.le_refl _ | exact Nat.le_trans (by decide) (Nat.le_add_right _ _))) (by rfl) T.m_step_of T.F_step_of.kp T.b_step_of (qa_cons (qe_fld T.cl_Play T.n_Play_book (qe_var 0)) (qa_cons (qe_fld T.cl_Play T.n_Play_state (qe_var 0)) (qa_cons (qe_var 1) (qa_cons (qe_var 2) qa_nil))))) (qgs_cons (qg_name (j := 3) sc_Play_answer.nd) (qgs_cons (qg_fld T.cl_Play T.n_Play_state (qe_var 0)) (qgs_cons (qg_name (j := 4) sc_Play_answer.nd) qgs_nil))))
      (qss_cons (qs_extM (qe_fld T.cl_Play T.n_Play_trail (qe_var 0)) (qe_var 4))
      (qss_cons (qs_augF T.cl_Play T.n_Play_deeds inop_add od_plus (qe_var 0) qe_int)
      (qss_one (qs_ret (qe_var 3)))))))

theorem ok_Play_restore (T : Txt K mg w cs) : FnOk P w K mg base CX0 2 T.f_Play_restore T.d_Play_restore ["self", "layer", "state"] (spOf K (S_Play_restore cs)) := by
  refine fn_ok T.F_Play_restore sc_Play_restore (ar_Play_restore cs) fun cdv A outer s H E Z hr => ⟨r_Play_restore cs, ?_, (red_Play_restore cs)⟩
  exact (qss_one (qs_forR2 (j := 3) (js := [3]) PassesOwn.never (by rfl) sc_Play_restore.nd (by rfl) T.z_range (qe_addT (qe_var 1) qe_int) (qe_addT (qe_fld T.cl_Book T.n_Book_size (qe_fld T.cl_Play T.n_Play_book (qe_var 0))) qe_int) (qss_one (qs_if (qt_cmp op_inA od_inA (qe_meth T.cl_Book T.mm_Book_word_at (ok_Book_word_at T) (hr.mono (by first | decide | omega | exact Nat.le_refl _ | exact Nat.le_trans (by decide) (Nat.le_add_right _ _))) T.b_Book_word_at (qe_fld T.cl_Play T.n_Play_book (qe_var 0)) (qa_cons (qe_var 3) qa_nil)) (qe_tup (qa_cons qe_str (qa_cons qe_str qa_nil)))) (qss_one (qs_fld T.cl_Play T.n_Play_state (qe_var 0) (qe_call (ok_changed T) (hr.mono (by first | decide | omega | exact Nat.le_refl _ | exact Nat.le_trans (by decide) (Nat.le_add_right _ _))) (by rfl) T.m_changed T.F_changed.kp T.b_changed (qa_cons (qe_fld T.cl_Play T.n_Play_state (qe_var 0)) (qa_cons (qe_var 3) (qa_cons (qe_ix (qe_var 2) (qe_sub (qe_var 3) qe_int)) qa_nil)))))) qss_nil))))

theorem ok_Play_outcome (T : Txt K mg w cs) : FnOk P w K mg base CX0 4 T.f_Play_outcome T.d_Play_outcome ["self", "deed"] (spOf K (S_Play_outcome cs)) := by
  refine fn_ok T.F_Play_outcome sc_Play_outcome (ar_Play_outcome cs) fun cdv A outer s H E Z hr => ⟨r_Play_outcome cs, ?_, (red_Play_outcome cs)⟩
  exact (qss_one (qs_ret (qe_tup (qa_cons (qe_tuple (by rfl) T.z_tuple (qe_fld T.cl_Play T.n_Play_trail (qe_var 0))) (qa_cons (qe_call (ok_end_at T) (hr.mono (by first | decide | omega | exact Nat.le_refl _ | exact Nat.le_trans (by decide) (Nat.le_add_right _ _))) (by rfl) T.m_end_at T.F_end_at.kp T.b_end_at (qa_cons (qe_fld T.cl_Play T.n_Play_book (qe_var 0)) (qa_cons (qe_fld T.cl_Play T.n_Play_state (qe_var 0)) (qa_cons (qe_var 1) qa_nil)))) qa_nil)))))

theorem okx_BookError (T : Txt K mg w cs) : FnOk P w K mg base CX0 1 T.f_BookError_init T.d_BookError_init ["self", "layer"] (spInit cs.BookError ["layer"]) := by
  refine T.F_BookError_init.ok sc_BookError_init (spInit_len rfl) fun cdv A outer s H vs Q E hr h => ⟨_, pss_one (ps_ost (pe_var (i := 0) rfl (Or.inl rfl) (by decide) (by decide)) (pe_var (i := 1) rfl (Or.inl rfl) (by decide) (by decide))), ?_⟩
  exact init1 T.o_BookError T.n_BookError_layer h

theorem ok_is_name (T : Txt K mg w cs) : FnOk P w K mg base CX0 1 T.f_is_name T.d_is_name ["token"] (spOf K (S_is_name cs)) := by
  refine fn_ok T.F_is_name sc_is_name (ar_is_name cs) fun cdv A outer s H E Z hr => ⟨r_is_name cs, ?_, (red_is_name cs)⟩
  exact (qss_one (qs_ret (qe_and (qe_cmp op_le od_le (qe_len (by rfl) T.z_len (qa_cons (qe_var 0) qa_nil)) qe_int) (qe_and (qe_m0 PySem.F.slot_str_isascii PySem.F.type_str_isascii mt_isascii (qe_var 0)) (qe_and (qe_m0 PySem.F.slot_str_isalpha PySem.F.type_str_isalpha mt_isalpha (qe_var 0)) (qe_one (qe_m0 PySem.F.slot_str_islower PySem.F.type_str_islower mt_islower (qe_var 0))))))))

theorem ok_is_associative (T : Txt K mg w cs) : FnOk P w K mg base CX0 1 T.f_is_associative T.d_is_associative ["table"] (spOf K (S_is_associative cs)) := by
  refine fn_ok T.F_is_associative sc_is_associative (ar_is_associative cs) fun cdv A outer s H E Z hr => ⟨r_is_associative cs, ?_, (red_is_associative cs)⟩
  exact (qss_cons (qs_set (i := 1) sc_is_associative.nd (qe_rngV (by rfl) T.z_range (qe_len (by rfl) T.z_len (qa_cons (qe_var 0) qa_nil))))
      (qss_cons (qs_forI (js := [2, 3]) PassesOwn.never (by rfl) (qi_rngV (qe_var 1)) (pg_name (i := 2) sc_is_associative.nd rfl (Or.inl rfl)) simG_name (qss_one (qs_forI (js := [3, 4]) PassesOwn.never (by rfl) (qi_rngV (qe_var 1)) (pg_name (i := 3) sc_is_associative.nd rfl (Or.inl rfl)) simG_name (qss_one (qs_forI (js := [4]) PassesOwn.never (by rfl) (qi_rngV (qe_var 1)) (pg_name (i := 4) sc_is_associative.nd rfl (Or.inl rfl)) simG_name (qss_one (qs_if (qt_cmp (op_neA hr.units) od_neA (qe_ix (qe_ix (qe_var 0) (qe_ix (qe_ix (qe_var 0) (qe_var 2)) (qe_var 3))) (qe_var 4)) (qe_ix (qe_ix (qe_var 0) (qe_var 2)) (qe_ix (qe_ix (qe_var 0) (qe_var 3)) (qe_var 4)))) (qss_one (qs_ret qe_bl)) qss_nil)))))))
      (qss_one (qs_ret qe_bl))))

theorem ok_is_square (T : Txt K mg w cs) : FnOk P w K mg base CX0 1 T.f_is_square T.d_is_square ["table"] (spOf K (S_is_square cs)) := by
  refine fn_ok T.F_is_square sc_is_square (ar_is_square cs) fun cdv A outer s H E Z hr => ⟨r_is_square cs, ?_, (red_is_square cs)⟩
  exact (qss_cons (qs_set (i := 1) sc_is_square.nd (qe_len (by rfl) T.z_len (qa_cons (qe_var 0) qa_nil)))
      (qss_cons (qs_for (j := 2) (js := [2]) PassesOwn.never (by rfl) sc_is_square.nd (qe_var 0) (qss_one (qs_if (qw_or (qt_cmp (op_neA hr.units) od_neA (qe_len (by rfl) T.z_len (qa_cons (qe_var 2) qa_nil)) (qe_var 1)) (qw_or (qt_cmp op_lt od_lt (qe_minT (by rfl) hr.units (by rfl) T.z_min (qa_cons (qe_var 2) qa_nil)) qe_int) (qw_or1 (qt_cmp op_ge od_ge (qe_maxT (by rfl) hr.units (by rfl) T.z_max (qa_cons (qe_var 2) qa_nil)) (qe_var 1))))).qt (qss_one (qs_ret qe_bl)) qss_nil)))
      (qss_one (qs_ret qe_bl))))

theorem ok_is_monoid (T : Txt K mg w cs) : FnOk P w K mg base CX0 2 T.f_is_monoid T.d_is_monoid ["table"] (spOf K (S_is_monoid cs)) := by
  refine fn_ok T.F_is_monoid sc_is_monoid (ar_is_monoid cs) fun cdv A outer s H E Z hr => ⟨r_is_monoid cs, ?_, (red_is_monoid cs)⟩
  exact (qss_cons (qs_if (qw_or (qt_not (qt_chain op_le od_le op_le od_le qe_int (qe_len (by rfl) T.z_len (qa_cons (qe_var 0) qa_nil)) qe_int)) (qw_or1 (qt_not (qt_truth (qe_call (ok_is_square T) (hr.mono (by first | decide | omega | exact Nat.le_refl _ | exact Nat.le_trans (by decide) (Nat.le_add_right _ _))) (by rfl) T.m_is_square T.F_is_square.kp T.b_is_square (qa_cons (qe_var 0) qa_nil)))))).qt (qss_one (qs_ret qe_bl)) qss_nil)
      (qss_cons (qs_forR (j := 1) (js := [1]) PassesOwn.never (by rfl) sc_is_monoid.nd (by rfl) T.z_range (qe_len (by rfl) T.z_len (qa_cons (qe_var 0) qa_nil)) (qss_one (qs_if (qw_or (qt_cmp (op_neA hr.units) od_neA (qe_ix (qe_ix (qe_var 0) qe_int) (qe_var 1)) (qe_var 1)) (qw_or1 (qt_cmp (op_neA hr.units) od_neA (qe_ix (qe_ix (qe_var 0) (qe_var 1)) qe_int) (qe_var 1)))).qt (qss_one (qs_ret qe_bl)) qss_nil)))
      (qss_one (qs_ret (qe_call (ok_is_associative T) (hr.mono (by first | decide | omega | exact Nat.le_refl _ | exact Nat.le_trans (by decide) (Nat.le_add_right _ _))) (by rfl) T.m_is_associative T.F_is_associative.kp T.b_is_associative (qa_cons (qe_var 0) qa_nil))))))

theorem ok_is_layer (T : Txt K mg w cs) : FnOk P w K mg base CX0 3 T.f_is_layer T.d_is_layer ["layer"] (spOf K (S_is_layer cs)) := by
  refine fn_ok T.F_is_layer sc_is_layer (ar_is_layer cs) fun cdv A outer s H E Z hr => ⟨r_is_layer cs, ?_, (red_is_layer cs)⟩
  exact (qss_cons (qs_unp (is := [1, 2, 3]) rfl (qe_var 0) (pgs_cons (pg_name (i := 1) sc_is_layer.nd rfl (Or.inl rfl)) (pgs_cons (pg_name (i := 2) sc_is_layer.nd rfl (Or.inl rfl)) (pgs_cons (pg_name (i := 3) sc_is_layer.nd rfl (Or.inl rfl)) pgs_nil))))
      (qss_cons (qs_if (qw_or (qt_not (qt_truth (qe_call (ok_is_name T) (hr.mono (by first | decide | omega | exact Nat.le_refl _ | exact Nat.le_trans (by decide) (Nat.le_add_right _ _))) (by rfl) T.m_is_name T.F_is_name.kp T.b_is_name (qa_cons (qe_var 2) qa_nil)))) (qw_or1 (qt_cmp op_ninA od_inA (qe_var 1) (qe_glob (v := .ref T.k_LAYER_WORDS) (u := .ref T.k_LAYER_WORDS) (by rfl) T.m_LAYER_WORDS rfl T.tp_LAYER_WORDS)))).qt (qss_one (qs_ret qe_bl)) qss_nil)
      (qss_cons (qs_if (qt_cmp (op_eqA hr.units) od_eqA (qe_var 1) qe_str) (qss_one (qs_ret (qe_call (ok_is_monoid T) (hr.mono (by first | decide | omega | exact Nat.le_refl _ | exact Nat.le_trans (by decide) (Nat.le_add_right _ _))) (by rfl) T.m_is_monoid T.F_is_monoid.kp T.b_is_monoid (qa_cons (qe_var 3) qa_nil)))) qss_nil)
      (qss_cons (qs_if (qt_cmp (op_eqA hr.units) od_eqA (qe_var 1) qe_str) (qss_one (qs_ret (qe_and (qe_chain op_le od_le op_le od_le qe_int (qe_len (by rfl) T.z_len (qa_cons (qe_var 3) qa_nil)) qe_int) (qe_and (qe_cmp op_le od_le qe_int (qe_minT (by rfl) hr.units (by rfl) T.z_min (qa_cons (qe_var 3) qa_nil))) (qe_one (qe_cmp op_le od_le (qe_maxT (by rfl) hr.units (by rfl) T.z_max (qa_cons (qe_var 3) qa_nil)) qe_int)))))) qss_nil)
      (qss_cons (qs_if (qt_cmp (op_eqA hr.units) od_eqA (qe_var 1) qe_str) (qss_one (qs_ret (qe_chain op_le od_le op_le od_le qe_int (qe_var 3) qe_int))) qss_nil)
      (qss_one (qs_ret (qe_chain op_le od_le op_le od_le qe_int (qe_var 3) qe_int))))))))

theorem ok_states_of (T : Txt K mg w cs) : FnOk P w K mg base CX0 1 T.f_states_of T.d_states_of ["layers"] (spOf K (S_states_of cs)) := by
  refine fn_ok T.F_states_of sc_states_of (ar_states_of cs) fun cdv A outer s H E Z hr => ⟨r_states_of cs, ?_, (red_states_of cs)⟩
  exact (qss_cons (qs_set (i := 1) sc_states_of.nd qe_int)
      (qss_cons (qs_forU (is := [2, 3, 4]) (js := [2, 3, 4]) PassesOwn.never (by rfl) (qe_var 0) (pgs_cons (pg_name (i := 2) sc_states_of.nd rfl (Or.inl rfl)) (pgs_cons (pg_name (i := 3) sc_states_of.nd rfl (Or.inl rfl)) (pgs_cons (pg_name (i := 4) sc_states_of.nd rfl (Or.inl rfl)) pgs_nil))) (qss_one (qs_if (qt_cmp op_inA od_inA (qe_var 2) (qe_tup (qa_cons qe_str (qa_cons qe_str qa_nil)))) (qss_one (qs_set (i := 1) sc_states_of.nd (qe_mulA (qe_var 1) (qe_var 4)))) qss_nil)))
      (qss_one (qs_ret (qe_var 1)))))

theorem ok_Book_init (T : Txt K mg w cs) : FnOk P w K mg base (L2.CX P w) 4 T.f_Book_init T.d_Book_init ["self", "kernel", "layers"] (spOf K (S_Book_init cs)) := by
  refine fn_okX T.F_Book_init sc_Book_init (ar_Book_init cs) fun cdv A outer s H E Z Ψ hr tk po xo => ⟨r_Book_init cs Ψ, ?_, fun ds M Φ => (red_Book_init cs) ds M Φ Ψ⟩
  exact (qss_cons (qs_if (qw_or (qt_ninK T.kd_KERNELS T.nk_KERNELS (by rfl) T.m_KERNELS (qe_var 1)) (qw_or1 (qt_cmp op_gt od_gt (qe_len (by rfl) T.z_len (qa_cons (qe_var 2) qa_nil)) (qe_globI (by rfl) T.g_MOST_LAYERS)))).qt (qss_one (qs_raise (names := ["layer"]) (by rfl) tk xo T.o_BookError T.ii_BookError T.ti_BookError_init (okx_BookError T) (hr.mono (by first | decide | omega | exact Nat.le_refl _ | exact Nat.le_trans (by decide) (Nat.le_add_right _ _))) T.b_BookError_init (by rfl) T.m_BookError (qa_cons qe_int qa_nil))) qss_nil)
      (qss_cons (qs_fld T.cl_Book T.n_Book_kernel (qe_var 0) (qe_var 1))
      (qss_cons (qs_fld T.cl_Book T.n_Book_layers (qe_var 0) (qe_tuple (by rfl) T.z_tuple (qe_var 2)))
      (qss_cons (qs_fld T.cl_Book T.n_Book_size (qe_var 0) (qe_lenR (by rfl) T.z_len (qe_fld T.cl_Book T.n_Book_layers (qe_var 0))))
      (qss_cons (qs_fld T.cl_Book T.n_Book_numbers (qe_var 0) qe_dnew)
      (qss_cons (qs_forI (js := [3, 4]) po (by rfl) (qi_enum (by rfl) T.z_enumerate (qe_fld T.cl_Book T.n_Book_layers (qe_var 0))) (pg_tup rfl (pgs_cons (pg_name (i := 3) sc_Book_init.nd rfl (Or.inl rfl)) (pgs_cons (pg_name (i := 4) sc_Book_init.nd rfl (Or.inl rfl)) pgs_nil))) (simG_tup (is := [3, 4])) (qss_cons (qs_if (qw_or (qt_not (qt_truth (qe_call (ok_is_layer T) (hr.mono (by first | decide | omega | exact Nat.le_refl _ | exact Nat.le_trans (by decide) (Nat.le_add_right _ _))) (by rfl) T.m_is_layer T.F_is_layer.kp T.b_is_layer (qa_cons (qe_var 4) qa_nil)))) (qw_or1 (qt_din (Nat.lt_of_le_of_lt (Nat.add_le_add_left (by decide : 1 ≤ 64) _) hr.units) (qe_ix (qe_var 4) qe_int) (qe_fld T.cl_Book T.n_Book_numbers (qe_var 0))))).qt (qss_one (qs_raise (names := ["layer"]) (by rfl) tk xo T.o_BookError T.ii_BookError T.ti_BookError_init (okx_BookError T) (hr.mono (by first | decide | omega | exact Nat.le_refl _ | exact Nat.le_trans (by decide) (Nat.le_add_right _ _))) T.b_BookError_init (by rfl) T.m_BookError (qa_cons (qe_addT (qe_var 3) qe_int) qa_nil))) qss_nil)
    (qss_one (qs_dput (Nat.lt_of_le_of_lt (Nat.add_le_add_left (by decide : 1 ≤ 64) _) hr.units) (qe_addT (qe_var 3) qe_int) (qe_fld T.cl_Book T.n_Book_numbers (qe_var 0)) (qe_ix (qe_var 4) qe_int)))))
      (qss_one (qs_if (qt_cmp op_gt od_gt (qe_call (ok_states_of T) (hr.mono (by first | decide | omega | exact Nat.le_refl _ | exact Nat.le_trans (by decide) (Nat.le_add_right _ _))) (by rfl) T.m_states_of T.F_states_of.kp T.b_states_of (qa_cons (qe_fld T.cl_Book T.n_Book_layers (qe_var 0)) qa_nil)) (qe_globI (by rfl) T.g_MOST_STATES)) (qss_one (qs_raise (names := ["layer"]) (by rfl) tk xo T.o_BookError T.ii_BookError T.ti_BookError_init (okx_BookError T) (hr.mono (by first | decide | omega | exact Nat.le_refl _ | exact Nat.le_trans (by decide) (Nat.le_add_right _ _))) T.b_BookError_init (by rfl) T.m_BookError (qa_cons qe_int qa_nil))) qss_nil))))))))

theorem ok_law_row (T : Txt K mg w cs) : FnOk P w K mg base CX0 1 T.f_law_row T.d_law_row ["_law_script", "_law_k", "_law_count"] (spOf K S_law_row) := by
  refine fn_ok T.F_law_row sc_law_row (ar_law_row) fun cdv A outer s H E Z hr => ⟨r_law_row, ?_, (red_law_row)⟩
  exact (qss_cons (qs_set (i := 3) sc_law_row.nd qe_int)
      (qss_cons (qs_if (qt_cmp op_lt od_lt (qe_var 1) (qe_len (by rfl) T.z_len (qa_cons (qe_var 0) qa_nil))) (qss_one (qs_set (i := 3) sc_law_row.nd (qe_int1 (by rfl) T.z_int (qa_cons (qe_ix (qe_var 0) (qe_var 1)) qa_nil)))) qss_nil)
      (qss_cons (qs_setO (i := 4) sc_law_row.nd (ql_lst qa_nil))
      (qss_cons (qs_if (qt_cmp op_ge od_ge (qe_var 3) (qe_pow qe_int qe_int)) (qss_cons (qs_forR (j := 5) (js := [5]) PassesOwn.never (by rfl) sc_law_row.nd (by rfl) T.z_range (qe_var 2) (qss_cons (qs_app (j := 4) (qe_mod (qe_int1 (by rfl) T.z_int (qa_cons (qe_var 3) qa_nil)) qe_int))
    (qss_one (qs_set (i := 3) sc_law_row.nd (qe_fdivA (qe_var 3) qe_int)))))
    (qss_one (qs_ret (qe_var 4)))) qss_nil)
      (qss_cons (qs_set (i := 6) sc_law_row.nd (qe_mod (qe_int1 (by rfl) T.z_int (qa_cons (qe_addT (qe_addT (qe_mulA (qe_var 3) qe_int) (qe_mulA (qe_var 1) qe_int)) qe_int) qa_nil)) qe_int))
      (qss_cons (qs_forR (j := 5) (js := [5]) PassesOwn.never (by rfl) sc_law_row.nd (by rfl) T.z_range (qe_var 2) (qss_cons (qs_set (i := 6) sc_law_row.nd (qe_mod (qe_int1 (by rfl) T.z_int (qa_cons (qe_addT (qe_addT (qe_mulA (qe_var 6) qe_int) (qe_mulA (qe_var 5) qe_int)) qe_int) qa_nil)) qe_int))
    (qss_one (qs_app (j := 4) (qe_mod (qe_fdivA (qe_var 6) qe_int) qe_int)))))
      (qss_one (qs_ret (qe_var 4)))))))))

theorem ok_law_book (T : Txt K mg w cs) : FnOk P w K mg base CX0 1 T.f_law_book T.d_law_book ["_law_k"] (spOf K (S_law_book cs)) := by
  refine fn_ok T.F_law_book sc_law_book (ar_law_book cs) fun cdv A outer s H E Z hr => ⟨r_law_book cs, ?_, (red_law_book cs)⟩
  exact (qss_cons (qs_set (i := 1) sc_law_book.nd (qe_tup (qa_cons qe_str (qa_cons qe_str (qa_cons (qe_tup (qa_cons (qe_tup (qa_cons qe_int (qa_cons qe_int (qa_cons qe_int qa_nil)))) (qa_cons (qe_tup (qa_cons qe_int (qa_cons qe_int (qa_cons qe_int qa_nil)))) (qa_cons (qe_tup (qa_cons qe_int (qa_cons qe_int (qa_cons qe_int qa_nil)))) qa_nil)))) qa_nil)))))
      (qss_cons (qs_set (i := 2) sc_law_book.nd (qe_tup (qa_cons qe_str (qa_cons qe_str (qa_cons (qe_tup (qa_cons (qe_tup (qa_cons qe_int (qa_cons qe_int qa_nil))) (qa_cons (qe_tup (qa_cons qe_int (qa_cons qe_int qa_nil))) qa_nil))) qa_nil)))))
      (qss_cons (qs_set (i := 3) sc_law_book.nd (qe_tup (qa_cons qe_str (qa_cons (qe_tup (qa_cons (qe_tup (qa_cons qe_str (qa_cons qe_str (qa_cons qe_int qa_nil)))) (qa_cons (qe_var 1) (qa_cons (qe_tup (qa_cons qe_str (qa_cons qe_str (qa_cons (qe_tup (qa_cons qe_int (qa_cons qe_int qa_nil))) qa_nil)))) (qa_cons (qe_tup (qa_cons qe_str (qa_cons qe_str (qa_cons qe_int qa_nil)))) (qa_cons (qe_tup (qa_cons qe_str (qa_cons qe_str (qa_cons qe_int qa_nil)))) qa_nil)))))) qa_nil))))
      (qss_cons (qs_set (i := 4) sc_law_book.nd (qe_tup (qa_cons qe_str (qa_cons (qe_tup (qa_cons (qe_tup (qa_cons qe_str (qa_cons qe_str (qa_cons qe_int qa_nil)))) (qa_cons (qe_tup (qa_cons qe_str (qa_cons qe_str (qa_cons qe_int qa_nil)))) (qa_cons (qe_tup (qa_cons qe_str (qa_cons qe_str (qa_cons qe_int qa_nil)))) (qa_cons (qe_tup (qa_cons qe_str (qa_cons qe_str (qa_cons (qe_tup (qa_cons qe_int qa_nil)) qa_nil)))) (qa_cons (qe_var 2) qa_nil)))))) qa_nil))))
      (qss_cons (qs_set (i := 5) sc_law_book.nd (qe_tup (qa_cons qe_str (qa_cons (qe_tup (qa_cons (qe_var 2) (qa_cons (qe_tup (qa_cons qe_str (qa_cons qe_str (qa_cons (qe_tup (qa_cons qe_int (qa_cons qe_int qa_nil))) qa_nil)))) (qa_cons (qe_tup (qa_cons qe_str (qa_cons qe_str (qa_cons qe_int qa_nil)))) (qa_cons (qe_var 1) (qa_cons (qe_tup (qa_cons qe_str (qa_cons qe_str (qa_cons (qe_tup (qa_cons qe_int qa_nil)) qa_nil)))) qa_nil)))))) qa_nil))))
      (qss_cons (qs_set (i := 6) sc_law_book.nd (qe_tup (qa_cons qe_str (qa_cons (qe_tup (qa_cons (qe_tup (qa_cons qe_str (qa_cons qe_str (qa_cons qe_int qa_nil)))) (qa_cons (qe_tup (qa_cons qe_str (qa_cons qe_str (qa_cons qe_int qa_nil)))) (qa_cons (qe_tup (qa_cons qe_str (qa_cons qe_str (qa_cons qe_int qa_nil)))) (qa_cons (qe_tup (qa_cons qe_str (qa_cons qe_str (qa_cons (qe_tup (qa_cons qe_int (qa_cons qe_int qa_nil))) qa_nil)))) (qa_cons (qe_var 1) qa_nil)))))) qa_nil))))
      (qss_one (qs_ret (qe_ix (qe_lst (qa_cons (qe_var 3) (qa_cons (qe_var 4) (qa_cons (qe_var 5) (qa_cons (qe_var 6) qa_nil))))) (qe_mod (qe_int1 (by rfl) T.z_int (qa_cons (qe_var 0) qa_nil)) qe_int))))))))))

theorem ok_law_deeds (T : Txt K mg w cs) : FnOk P w K mg base CX0 1 T.f_law_deeds T.d_law_deeds ["_law_kernel", "_law_layers"] (spOf K (S_law_deeds cs)) := by
  refine fn_ok T.F_law_deeds sc_law_deeds (ar_law_deeds cs) fun cdv A outer s H E Z hr => ⟨r_law_deeds cs, ?_, (red_law_deeds cs)⟩
  exact (qss_cons (qs_setO (i := 2) sc_law_deeds.nd (ql_lst qa_nil))
      (qss_cons (qs_if (qt_cmp op_inA od_inA (qe_var 0) (qe_tup (qa_cons qe_str (qa_cons qe_str (qa_cons qe_str qa_nil))))) (qss_one (qs_app (j := 2) (qe_tup (qa_cons qe_str (qa_cons qe_int qa_nil))))) qss_nil)
      (qss_cons (qs_if (qt_cmp (op_eqA hr.units) od_eqA (qe_var 0) qe_str) (qss_one (qs_app (j := 2) (qe_tup (qa_cons qe_str (qa_cons qe_int qa_nil))))) qss_nil)
      (qss_cons (qs_if (qt_cmp op_inA od_inA (qe_var 0) (qe_tup (qa_cons qe_str (qa_cons qe_str (qa_cons qe_str qa_nil))))) (qss_one (qs_setO (i := 2) sc_law_deeds.nd (ql_catO 2 (qe_lst (qa_cons (qe_tup (qa_cons qe_str (qa_cons qe_int (qa_cons qe_int (qa_cons qe_int qa_nil))))) (qa_cons (qe_tup (qa_cons qe_str (qa_cons qe_int (qa_cons qe_int (qa_cons qe_int qa_nil))))) (qa_cons (qe_tup (qa_cons qe_str (qa_cons qe_int (qa_cons qe_int (qa_cons qe_int qa_nil))))) qa_nil))))))) qss_nil)
      (qss_cons (qs_if (qt_cmp (op_eqA hr.units) od_eqA (qe_var 0) qe_str) (qss_one (qs_app (j := 2) (qe_tup (qa_cons qe_str (qa_cons qe_int (qa_cons qe_int (qa_cons qe_int qa_nil))))))) qss_nil)
      (qss_cons (qs_forR (j := 3) (js := [3, 4]) PassesOwn.never (by rfl) sc_law_deeds.nd (by rfl) T.z_range (qe_len (by rfl) T.z_len (qa_cons (qe_var 1) qa_nil)) (qss_cons (qs_set (i := 4) sc_law_deeds.nd (qe_ix (qe_var 1) (qe_var 3)))
    (qss_cons (qs_if (qt_cmp (op_eqA hr.units) od_eqA (qe_ix (qe_var 4) qe_int) qe_str) (qss_one (qs_setO (i := 2) sc_law_deeds.nd (ql_catR (qe_addT (qe_var 2) (qe_lst (qa_cons (qe_tup (qa_cons qe_str (qa_cons (qe_addT (qe_var 3) qe_int) qa_nil))) qa_nil))) (qe_fz (ql_lc (own := [("_law_i", 5)]) (vs := [5]) (by rfl) sc_law_deeds.nd (qi_range (by rfl) T.z_range (qe_ix (qe_var 4) qe_int)) (blkOk_by (N := ["_law_kernel", "_law_layers", "_law_deeds_here", "_law_at", "_law_layer", "_law_i", "_law_m", "_law_d"]) (sc := defScope s_law_deeds) (own := [("_law_i", 5)]) (by decide +kernel)) (simGw_name (j := 5) (by decide)) (fun _ _ _ _ _ => (pg_name (i := 5) sc_law_deeds.nd rfl (Or.inl rfl))) (fun _ _ _ _ _ => pts_yes) (fun _ _ _ _ _ Z => (qe_tup (qa_cons qe_str (qa_cons (qe_addT (qe_var 3) qe_int) (qa_cons (qe_var 5) qa_nil)))))))))) qss_nil)
    (qss_cons (qs_if (qt_cmp (op_eqA hr.units) od_eqA (qe_ix (qe_var 4) qe_int) qe_str) (qss_one (qs_app (j := 2) (qe_tup (qa_cons qe_str (qa_cons (qe_addT (qe_var 3) qe_int) qa_nil))))) qss_nil)
    (qss_cons (qs_if (qt_cmp (op_eqA hr.units) od_eqA (qe_ix (qe_var 4) qe_int) qe_str) (qss_one (qs_setO (i := 2) sc_law_deeds.nd (ql_catO 2 (qe_fz (ql_lc (own := [("_law_m", 6)]) (vs := [6]) (by rfl) sc_law_deeds.nd (qi_range (by rfl) T.z_range (qe_len (by rfl) T.z_len (qa_cons (qe_ix (qe_var 4) qe_int) qa_nil))) (blkOk_by (N := ["_law_kernel", "_law_layers", "_law_deeds_here", "_law_at", "_law_layer", "_law_i", "_law_m", "_law_d"]) (sc := defScope s_law_deeds) (own := [("_law_m", 6)]) (by decide +kernel)) (simGw_name (j := 6) (by decide)) (fun _ _ _ _ _ => (pg_name (i := 6) sc_law_deeds.nd rfl (Or.inl rfl))) (fun _ _ _ _ _ => pts_yes) (fun _ _ _ _ _ Z => (qe_tup (qa_cons qe_str (qa_cons (qe_addT (qe_var 3) qe_int) (qa_cons (qe_var 6) qa_nil)))))))))) qss_nil)
    (qss_one (qs_if (qt_cmp (op_eqA hr.units) od_eqA (qe_ix (qe_var 4) qe_int) qe_str) (qss_one (qs_setO (i := 2) sc_law_deeds.nd (ql_catO 2 (qe_fz (ql_lc (own := [("_law_d", 7)]) (vs := [7]) (by rfl) sc_law_deeds.nd (qi_range (by rfl) T.z_range (qe_len (by rfl) T.z_len (qa_cons (qe_ix (qe_var 4) qe_int) qa_nil))) (blkOk_by (N := ["_law_kernel", "_law_layers", "_law_deeds_here", "_law_at", "_law_layer", "_law_i", "_law_m", "_law_d"]) (sc := defScope s_law_deeds) (own := [("_law_d", 7)]) (by decide +kernel)) (simGw_name (j := 7) (by decide)) (fun _ _ _ _ _ => (pg_name (i := 7) sc_law_deeds.nd rfl (Or.inl rfl))) (fun _ _ _ _ _ => pts_yes) (fun _ _ _ _ _ Z => (qe_tup (qa_cons qe_str (qa_cons (qe_addT (qe_var 3) qe_int) (qa_cons (qe_var 7) qa_nil)))))))))) qss_nil)))))))
      (qss_one (qs_ret (qe_var 2)))))))))

theorem ok_law_starts (T : Txt K mg w cs) : FnOk P w K mg base CX0 1 T.f_law_starts T.d_law_starts ["_law_layers", "_law_layer", "_law_state"] (spOf K (S_law_starts cs)) := by
  refine fn_ok T.F_law_starts sc_law_starts (ar_law_starts cs) fun cdv A outer s H E Z hr => ⟨r_law_starts cs, ?_, (red_law_starts cs)⟩
  exact (qss_cons (qs_set (i := 3) sc_law_starts.nd (qe_lst (qa_cons (qe_tup qa_nil) qa_nil)))
      (qss_cons (qs_forR (j := 4) (js := [4, 5, 6, 7]) PassesOwn.never (by rfl) sc_law_starts.nd (by rfl) T.z_range (qe_len (by rfl) T.z_len (qa_cons (qe_var 0) qa_nil)) (qss_cons (qs_set (i := 5) sc_law_starts.nd (qe_lst (qa_cons qe_int qa_nil)))
    (qss_cons (qs_if (qt_cmp op_ge od_ge (qe_addT (qe_var 4) qe_int) (qe_var 1)) (qss_one (qs_set (i := 5) sc_law_starts.nd (qe_lst (qa_cons (qe_ix (qe_var 2) (qe_var 4)) qa_nil)))) (qss_one (qs_if (qw_or (qt_cmp (op_eqA hr.units) od_eqA (qe_ix (qe_ix (qe_var 0) (qe_var 4)) qe_int) qe_str) (qw_or1 (qt_cmp (op_eqA hr.units) od_eqA (qe_ix (qe_ix (qe_var 0) (qe_var 4)) qe_int) qe_str))).qt (qss_one (qs_set (i := 5) sc_law_starts.nd (qe_fz (ql_listR (by rfl) (by rfl) T.z_list (by rfl) T.z_range (qe_ix (qe_ix (qe_var 0) (qe_var 4)) qe_int))))) qss_nil)))
    (qss_cons (qs_setO (i := 6) sc_law_starts.nd (ql_lst qa_nil))
    (qss_cons (qs_for (j := 7) (js := [7, 8]) PassesOwn.never (by rfl) sc_law_starts.nd (qe_var 3) (qss_one (qs_for (j := 8) (js := [8]) PassesOwn.never (by rfl) sc_law_starts.nd (qe_var 5) (qss_one (qs_app (j := 6) (qe_addT (qe_var 7) (qe_tup (qa_cons (qe_var 8) qa_nil))))))))
    (qss_one (qs_set (i := 3) sc_law_starts.nd (qe_fz (ql_list (by rfl) T.z_list (qe_var 6))))))))))
      (qss_one (qs_ret (qe_var 3)))))

theorem ok_law_kept (T : Txt K mg w cs) : FnOk P w K mg base CX0 1 T.f_law_kept T.d_law_kept ["_law_layers", "_law_state", "_law_layer"] (spOf K (S_law_kept cs)) := by
  refine fn_ok T.F_law_kept sc_law_kept (ar_law_kept cs) fun cdv A outer s H E Z hr => ⟨r_law_kept cs, ?_, (red_law_kept cs)⟩
  exact (qss_cons (qs_setO (i := 3) sc_law_kept.nd (ql_lst qa_nil))
      (qss_cons (qs_forR (j := 4) (js := [4]) PassesOwn.never (by rfl) sc_law_kept.nd (by rfl) T.z_range (qe_sub (qe_var 2) qe_int) (qss_one (qs_if (qt_cmp (op_eqA hr.units) od_eqA (qe_ix (qe_ix (qe_var 0) (qe_var 4)) qe_int) qe_str) (qss_one (qs_app (j := 3) qe_int)) (qss_one (qs_app (j := 3) (qe_ix (qe_var 1) (qe_var 4)))))))
      (qss_one (qs_ret (qe_tuple (by rfl) T.z_tuple (qe_var 3))))))

theorem ok_law_asked (T : Txt K mg w cs) : FnOk P w K mg base CX0 2 T.f_law_asked T.d_law_asked ["_law_layers", "_law_state", "_law_deed", "_law_number", "_law_trail"] (spOf K (S_law_asked cs)) := by
  refine fn_ok T.F_law_asked sc_law_asked (ar_law_asked cs) fun cdv A outer s H E Z hr => ⟨r_law_asked cs, ?_, (red_law_asked cs)⟩
  exact (qss_cons (qs_set (i := 5) sc_law_asked.nd (qe_call (ok_law_kept T) (hr.mono (by first | decide | omega | exact Nat.le_refl _ | exact Nat.le_trans (by decide) (Nat.le_add_right _ _))) (by rfl) T.m_law_kept T.F_law_kept.kp T.b_law_kept (qa_cons (qe_var 0) (qa_cons (qe_var 1) (qa_cons (qe_ix (qe_var 2) qe_int) qa_nil)))))
      (qss_cons (qs_set (i := 6) sc_law_asked.nd (qe_ix (qe_ix (qe_ix (qe_var 0) (qe_sub (qe_ix (qe_var 2) qe_int) qe_int)) qe_int) (qe_ix (qe_var 2) qe_int)))
      (qss_cons (qs_set (i := 7) sc_law_asked.nd (qe_fdivA (qe_var 3) (qe_var 6)))
      (qss_cons (qs_setO (i := 8) sc_law_asked.nd (ql_list (by rfl) T.z_list (qe_var 1)))
      (qss_cons (qs_forR (j := 9) (js := [9]) PassesOwn.never (by rfl) sc_law_asked.nd (by rfl) T.z_range (qe_sub (qe_ix (qe_var 2) qe_int) qe_int) (qss_cons (qs_stoO 8 qe_int (qe_var 9))
    (qss_one (qs_if (qw_or (qt_cmp (op_eqA hr.units) od_eqA (qe_ix (qe_ix (qe_var 0) (qe_var 9)) qe_int) qe_str) (qw_or1 (qt_cmp (op_eqA hr.units) od_eqA (qe_ix (qe_ix (qe_var 0) (qe_var 9)) qe_int) qe_str))).qt (qss_cons (qs_stoO 8 (qe_mod (qe_int1 (by rfl) T.z_int (qa_cons (qe_var 7) qa_nil)) (qe_ix (qe_ix (qe_var 0) (qe_var 9)) qe_int)) (qe_var 9))
      (qss_one (qs_set (i := 7) sc_law_asked.nd (qe_fdivA (qe_var 7) (qe_ix (qe_ix (qe_var 0) (qe_var 9)) qe_int))))) qss_nil))))
      (qss_cons (qs_appM (qe_var 4) (qe_tup (qa_cons (qe_ix (qe_var 2) qe_int) (qa_cons (qe_ix (qe_var 2) qe_int) (qa_cons (qe_var 5) (qa_cons (qe_mod (qe_int1 (by rfl) T.z_int (qa_cons (qe_var 3) qa_nil)) (qe_var 6)) (qa_cons (qe_tuple (by rfl) T.z_tuple (qe_slA (qe_var 8) qo_none (qo_some (qe_sub (qe_ix (qe_var 2) qe_int) qe_int)))) qa_nil)))))))
      (qss_one (qs_ret (qe_tup (qa_cons (qe_mod (qe_int1 (by rfl) T.z_int (qa_cons (qe_var 3) qa_nil)) (qe_var 6)) (qa_cons (qe_var 8) qa_nil)))))))))))

theorem ok_law_step (T : Txt K mg w cs) : FnOk P w K mg base CX0 3 T.f_law_step T.d_law_step ["_law_layers", "_law_state", "_law_deed", "_law_number", "_law_trail"] (spOf K (S_law_step cs)) := by
  refine fn_ok T.F_law_step sc_law_step (ar_law_step cs) fun cdv A outer s H E Z hr => ⟨r_law_step cs, ?_, (red_law_step cs)⟩
  exact (qss_cons (qs_if (qt_cmp (op_eqA hr.units) od_eqA (qe_ix (qe_var 2) qe_int) qe_str) (qss_one (qs_ret (qe_tup (qa_cons (qe_mod (qe_int1 (by rfl) T.z_int (qa_cons (qe_var 3) qa_nil)) qe_int) (qa_cons (qe_fz (ql_list (by rfl) T.z_list (qe_var 1))) qa_nil))))) qss_nil)
      (qss_cons (qs_if (qt_cmp (op_eqA hr.units) od_eqA (qe_ix (qe_var 2) qe_int) qe_str) (qss_one (qs_ret (qe_tup (qa_cons (qe_int1 (by rfl) T.z_int (qa_cons (qe_cmp op_ge od_ge (qe_mod (qe_int1 (by rfl) T.z_int (qa_cons (qe_var 3) qa_nil)) (qe_ix (qe_var 2) qe_int)) (qe_ix (qe_var 2) qe_int)) qa_nil)) (qa_cons (qe_fz (ql_list (by rfl) T.z_list (qe_var 1))) qa_nil))))) qss_nil)
      (qss_cons (qs_if (qt_cmp (op_eqA hr.units) od_eqA (qe_ix (qe_var 2) qe_int) qe_str) (qss_one (qs_ret (qe_call (ok_law_asked T) (hr.mono (by first | decide | omega | exact Nat.le_refl _ | exact Nat.le_trans (by decide) (Nat.le_add_right _ _))) (by rfl) T.m_law_asked T.F_law_asked.kp T.b_law_asked (qa_cons (qe_var 0) (qa_cons (qe_var 1) (qa_cons (qe_var 2) (qa_cons (qe_var 3) (qa_cons (qe_var 4) qa_nil)))))))) qss_nil)
      (qss_cons (qs_setO (i := 5) sc_law_step.nd (ql_list (by rfl) T.z_list (qe_var 1)))
      (qss_cons (qs_set (i := 6) sc_law_step.nd (qe_sub (qe_ix (qe_var 2) qe_int) qe_int))
      (qss_cons (qs_if (qw_or (qt_cmp (op_eqA hr.units) od_eqA (qe_ix (qe_var 2) qe_int) qe_str) (qw_or1 (qt_cmp (op_eqA hr.units) od_eqA (qe_ix (qe_var 2) qe_int) qe_str))).qt (qss_one (qs_ret (qe_tup (qa_cons (qe_ix (qe_var 1) (qe_var 6)) (qa_cons (qe_var 5) qa_nil))))) qss_nil)
      (qss_cons (qs_if (qt_cmp (op_eqA hr.units) od_eqA (qe_ix (qe_var 2) qe_int) qe_str) (qss_one (qs_stoO 5 (qe_ix (qe_var 2) qe_int) (qe_var 6))) (qss_one (qs_stoO 5 (qe_ix (qe_ix (qe_ix (qe_ix (qe_var 0) (qe_var 6)) qe_int) (qe_ix (qe_var 1) (qe_var 6))) (qe_ix (qe_var 2) qe_int)) (qe_var 6))))
      (qss_one (qs_ret (qe_tup (qa_cons qe_int (qa_cons (qe_var 5) qa_nil))))))))))))

theorem ok_law_back (T : Txt K mg w cs) : FnOk P w K mg base CX0 1 T.f_law_back T.d_law_back ["_law_layers", "_law_state", "_law_layer", "_law_old"] (spOf K (S_law_back cs)) := by
  refine fn_ok T.F_law_back sc_law_back (ar_law_back cs) fun cdv A outer s H E Z hr => ⟨r_law_back cs, ?_, (red_law_back cs)⟩
  exact (qss_cons (qs_setO (i := 4) sc_law_back.nd (ql_list (by rfl) T.z_list (qe_var 1)))
      (qss_cons (qs_forR2 (j := 5) (js := [5]) PassesOwn.never (by rfl) sc_law_back.nd (by rfl) T.z_range (qe_var 2) (qe_len (by rfl) T.z_len (qa_cons (qe_var 0) qa_nil)) (qss_one (qs_if (qw_or (qt_cmp (op_eqA hr.units) od_eqA (qe_ix (qe_ix (qe_var 0) (qe_var 5)) qe_int) qe_str) (qw_or1 (qt_cmp (op_eqA hr.units) od_eqA (qe_ix (qe_ix (qe_var 0) (qe_var 5)) qe_int) qe_str))).qt (qss_one (qs_stoO 4 (qe_ix (qe_var 3) (qe_var 5)) (qe_var 5))) qss_nil)))
      (qss_one (qs_ret (qe_var 4)))))

theorem ok_law_states (T : Txt K mg w cs) : FnOk P w K mg base CX0 6 T.f_law_states T.d_law_states ["_law_book_here", "_law_layers", "_law_row_here"] (spOf K (S_law_states cs)) := by
  refine fn_ok T.F_law_states sc_law_states (ar_law_states cs) fun cdv A outer s H E Z hr => ⟨r_law_states cs, ?_, (red_law_states cs)⟩
  exact (qss_cons (qs_set (i := 3) sc_law_states.nd (qe_repT (qe_tup (qa_cons qe_int qa_nil)) (qe_len (by rfl) T.z_len (qa_cons (qe_var 1) qa_nil))))
      (qss_cons (qs_set (i := 4) sc_law_states.nd (qe_call (ok_law_starts T) (hr.mono (by first | decide | omega | exact Nat.le_refl _ | exact Nat.le_trans (by decide) (Nat.le_add_right _ _))) (by rfl) T.m_law_starts T.F_law_starts.kp T.b_law_starts (qa_cons (qe_var 1) (qa_cons (qe_addT (qe_len (by rfl) T.z_len (qa_cons (qe_var 1) qa_nil)) qe_int) (qa_cons (qe_var 3) qa_nil)))))
      (qss_cons (qs_if (qt_cmp (op_neA hr.units) od_neA (qe_call (ok_starts T) (hr.mono (by first | decide | omega | exact Nat.le_refl _ | exact Nat.le_trans (by decide) (Nat.le_add_right _ _))) (by rfl) T.m_starts T.F_starts.kp T.b_starts (qa_cons (qe_var 0) qa_nil)) (qe_var 4)) (qss_one (qs_ret qe_bl)) qss_nil)
      (qss_cons (qs_setO (i := 5) sc_law_states.nd (ql_list (by rfl) T.z_list (qe_ix (qe_var 4) (qe_mod (qe_int1 (by rfl) T.z_int (qa_cons (qe_ix (qe_var 2) qe_int) qa_nil)) (qe_len (by rfl) T.z_len (qa_cons (qe_var 4) qa_nil))))))
      (qss_cons (qs_forR (j := 6) (js := [6]) PassesOwn.never (by rfl) sc_law_states.nd (by rfl) T.z_range (qe_len (by rfl) T.z_len (qa_cons (qe_var 1) qa_nil)) (qss_one (qs_if (qt_cmp (op_eqA hr.units) od_eqA (qe_ix (qe_ix (qe_var 1) (qe_var 6)) qe_int) qe_str) (qss_one (qs_stoO 5 (qe_mod (qe_int1 (by rfl) T.z_int (qa_cons (qe_ix (qe_var 2) (qe_addT qe_int (qe_var 6))) qa_nil)) (qe_len (by rfl) T.z_len (qa_cons (qe_ix (qe_ix (qe_var 1) (qe_var 6)) qe_int) qa_nil))) (qe_var 6))) qss_nil)))
      (qss_cons (qs_set (i := 5) sc_law_states.nd (qe_tuple (by rfl) T.z_tuple (qe_var 5)))
      (qss_cons (qs_set (i := 7) sc_law_states.nd (qe_addT qe_int (qe_mod (qe_ix (qe_var 2) qe_int) (qe_addT (qe_len (by rfl) T.z_len (qa_cons (qe_var 1) qa_nil)) qe_int))))
      (qss_cons (qs_set (i := 8) sc_law_states.nd (qe_call (ok_law_starts T) (hr.mono (by first | decide | omega | exact Nat.le_refl _ | exact Nat.le_trans (by decide) (Nat.le_add_right _ _))) (by rfl) T.m_law_starts T.F_law_starts.kp T.b_law_starts (qa_cons (qe_var 1) (qa_cons (qe_var 7) (qa_cons (qe_var 5) qa_nil)))))
      (qss_cons (qs_if (qt_cmp (op_neA hr.units) od_neA (qe_call (ok_starts_below T) (hr.mono (by first | decide | omega | exact Nat.le_refl _ | exact Nat.le_trans (by decide) (Nat.le_add_right _ _))) (by rfl) T.m_starts_below T.F_starts_below.kp T.b_starts_below (qa_cons (qe_var 0) (qa_cons (qe_var 7) (qa_cons (qe_var 5) qa_nil)))) (qe_var 8)) (qss_one (qs_ret qe_bl)) qss_nil)
      (qss_cons (qs_forR (j := 6) (js := [6]) PassesOwn.never (by rfl) sc_law_states.nd (by rfl) T.z_range (qe_len (by rfl) T.z_len (qa_cons (qe_var 8) qa_nil)) (qss_one (qs_if (qt_cmp (op_neA hr.units) od_neA (qe_call (ok_place_below T) (hr.mono (by first | decide | omega | exact Nat.le_refl _ | exact Nat.le_trans (by decide) (Nat.le_add_right _ _))) (by rfl) T.m_place_below T.F_place_below.kp T.b_place_below (qa_cons (qe_var 0) (qa_cons (qe_var 7) (qa_cons (qe_ix (qe_var 8) (qe_var 6)) qa_nil)))) (qe_var 6)) (qss_one (qs_ret qe_bl)) qss_nil)))
      (qss_cons (qs_if (qt_cmp (op_neA hr.units) od_neA (qe_call (ok_kept T) (hr.mono (by first | decide | omega | exact Nat.le_refl _ | exact Nat.le_trans (by decide) (Nat.le_add_right _ _))) (by rfl) T.m_kept T.F_kept.kp T.b_kept (qa_cons (qe_var 0) (qa_cons (qe_var 5) (qa_cons (qe_var 7) qa_nil)))) (qe_call (ok_law_kept T) (hr.mono (by first | decide | omega | exact Nat.le_refl _ | exact Nat.le_trans (by decide) (Nat.le_add_right _ _))) (by rfl) T.m_law_kept T.F_law_kept.kp T.b_law_kept (qa_cons (qe_var 1) (qa_cons (qe_var 5) (qa_cons (qe_var 7) qa_nil))))) (qss_one (qs_ret qe_bl)) qss_nil)
      (qss_cons (qs_if (qt_cmp (op_neA hr.units) od_neA (qe_call (ok_changed T) (hr.mono (by first | decide | omega | exact Nat.le_refl _ | exact Nat.le_trans (by decide) (Nat.le_add_right _ _))) (by rfl) T.m_changed T.F_changed.kp T.b_changed (qa_cons (qe_var 5) (qa_cons qe_int (qa_cons qe_int qa_nil)))) (qe_addT (qe_tup (qa_cons (qe_ix (qe_var 5) qe_int) (qa_cons qe_int qa_nil))) (qe_slA (qe_var 5) (qo_some qe_int) qo_none))) (qss_one (qs_ret qe_bl)) qss_nil)
      (qss_cons (qs_forR (j := 6) (js := [6]) PassesOwn.never (by rfl) sc_law_states.nd (by rfl) T.z_range (qe_len (by rfl) T.z_len (qa_cons (qe_var 1) qa_nil)) (qss_one (qs_if (qt_cmp (op_eqA hr.units) od_eqA (qe_ix (qe_ix (qe_var 1) (qe_var 6)) qe_int) qe_str) (qss_cons (qs_set (i := 9) sc_law_states.nd (qe_mod (qe_int1 (by rfl) T.z_int (qa_cons (qe_ix (qe_var 2) qe_int) qa_nil)) (qe_len (by rfl) T.z_len (qa_cons (qe_ix (qe_ix (qe_var 1) (qe_var 6)) qe_int) qa_nil))))
      (qss_cons (qs_set (i := 4) sc_law_states.nd (qe_addT (qe_addT (qe_slA (qe_var 5) qo_none (qo_some (qe_var 6))) (qe_tup (qa_cons (qe_ix (qe_ix (qe_ix (qe_ix (qe_var 1) (qe_var 6)) qe_int) (qe_ix (qe_var 5) (qe_var 6))) (qe_var 9)) qa_nil))) (qe_slA (qe_var 5) (qo_some (qe_addT (qe_var 6) qe_int)) qo_none)))
      (qss_one (qs_if (qt_cmp (op_neA hr.units) od_neA (qe_call (ok_noted T) (hr.mono (by first | decide | omega | exact Nat.le_refl _ | exact Nat.le_trans (by decide) (Nat.le_add_right _ _))) (by rfl) T.m_noted T.F_noted.kp T.b_noted (qa_cons (qe_var 0) (qa_cons (qe_var 5) (qa_cons (qe_addT (qe_var 6) qe_int) (qa_cons (qe_var 9) qa_nil))))) (qe_var 4)) (qss_one (qs_ret qe_bl)) qss_nil)))) qss_nil)))
      (qss_one (qs_ret qe_bl)))))))))))))))

theorem ok_law_end (T : Txt K mg w cs) : FnOk P w K mg base CX0 2 T.f_law_end T.d_law_end ["_law_layers", "_law_state", "_law_row_here"] (spOf K (S_law_end cs)) := by
  refine fn_ok T.F_law_end sc_law_end (ar_law_end cs) fun cdv A outer s H E Z hr => ⟨r_law_end cs, ?_, (red_law_end cs)⟩
  exact (qss_cons (qs_setLcD (i := 3) (own := [("_law_at", 4)]) (vs := [4]) (by rfl) sc_law_end.nd rfl rfl (sw_true rfl rfl rfl (by decide +kernel)) (qi_range (by rfl) T.z_range (qe_len (by rfl) T.z_len (qa_cons (qe_var 0) qa_nil))) (blkOk_by (N := ["_law_layers", "_law_state", "_law_row_here", "_law_kinds", "_law_at", "_law_layer", "_law_kind", "_law_text"]) (sc := defScope s_law_end) (own := [("_law_at", 4)]) (by decide +kernel)) (simGw_name (j := 4) (by decide)) (fun _ _ _ _ _ => (pg_name (i := 4) sc_law_end.nd rfl (Or.inl rfl))) (fun _ _ _ _ _ => pts_of fun Z => (qt_cmp (op_eqA hr.units) od_eqA (qe_ix (qe_ix (qe_var 0) (qe_var 4)) qe_int) qe_str)) (fun _ _ _ _ _ Z => (qe_addT (qe_var 4) qe_int)))
      (qss_cons (qs_if (qw_and (qt_cmp (op_eqA hr.units) od_eqA (qe_mod (qe_ix (qe_var 2) qe_int) qe_int) qe_int) (qw_and1 (qt_neR hr.units (qe_var 3) (qe_lst qa_nil)))).qt (qss_cons (qs_set (i := 5) sc_law_end.nd (qe_ix (qe_var 3) (qe_mod (qe_int1 (by rfl) T.z_int (qa_cons (qe_ix (qe_var 2) qe_int) qa_nil)) (qe_len (by rfl) T.z_len (qa_cons (qe_var 3) qa_nil)))))
    (qss_cons (qs_set (i := 6) sc_law_end.nd (qe_mod (qe_int1 (by rfl) T.z_int (qa_cons (qe_ix (qe_var 2) qe_int) qa_nil)) (qe_ix (qe_ix (qe_var 0) (qe_sub (qe_var 5) qe_int)) qe_int)))
    (qss_one (qs_ret (qe_tup (qa_cons (qe_tup (qa_cons qe_str (qa_cons (qe_var 5) (qa_cons (qe_var 6) qa_nil)))) (qa_cons (qe_tup (qa_cons qe_str (qa_cons (qe_var 5) (qa_cons (qe_var 6) (qa_cons (qe_call (ok_law_kept T) (hr.mono (by first | decide | omega | exact Nat.le_refl _ | exact Nat.le_trans (by decide) (Nat.le_add_right _ _))) (by rfl) T.m_law_kept T.F_law_kept.kp T.b_law_kept (qa_cons (qe_var 0) (qa_cons (qe_var 1) (qa_cons (qe_var 5) qa_nil)))) qa_nil))))) qa_nil))))))) qss_nil)
      (qss_cons (qs_set (i := 7) sc_law_end.nd (qe_ix (qe_lst (qa_cons qe_str (qa_cons qe_str (qa_cons qe_str qa_nil)))) (qe_mod (qe_ix (qe_var 2) qe_int) qe_int)))
      (qss_one (qs_ret (qe_tup (qa_cons (qe_tup (qa_cons qe_str (qa_cons (qe_var 7) qa_nil))) (qa_cons (qe_tup (qa_cons qe_str (qa_cons (qe_var 7) (qa_cons (qe_call (ok_law_kept T) (hr.mono (by first | decide | omega | exact Nat.le_refl _ | exact Nat.le_trans (by decide) (Nat.le_add_right _ _))) (by rfl) T.m_law_kept T.F_law_kept.kp T.b_law_kept (qa_cons (qe_var 0) (qa_cons (qe_var 1) (qa_cons (qe_addT (qe_len (by rfl) T.z_len (qa_cons (qe_var 0) qa_nil)) qe_int) qa_nil)))) qa_nil)))) qa_nil))))))))

theorem ok_law (T : Txt K mg w cs) : FnOk P w K mg base CX0 7 T.f_law T.d_law ["_law_script"] (spOf K (S_law cs)) := by
  refine fn_ok T.F_law sc_law (ar_law cs) fun cdv A outer s H E Z hr => ⟨r_law cs, ?_, (red_law cs)⟩
  exact (qss_cons (qs_set (i := 1) sc_law.nd (qe_call (ok_law_row T) (hr.mono (by first | decide | omega | exact Nat.le_refl _ | exact Nat.le_trans (by decide) (Nat.le_add_right _ _))) (by rfl) T.m_law_row T.F_law_row.kp T.b_law_row (qa_cons (qe_var 0) (qa_cons qe_int (qa_cons qe_int qa_nil)))))
      (qss_cons (qs_unp (is := [2, 3]) rfl (qe_call (ok_law_book T) (hr.mono (by first | decide | omega | exact Nat.le_refl _ | exact Nat.le_trans (by decide) (Nat.le_add_right _ _))) (by rfl) T.m_law_book T.F_law_book.kp T.b_law_book (qa_cons (qe_ix (qe_var 1) qe_int) qa_nil)) (pgs_cons (pg_name (i := 2) sc_law.nd rfl (Or.inl rfl)) (pgs_cons (pg_name (i := 3) sc_law.nd rfl (Or.inl rfl)) pgs_nil)))
      (qss_cons (qs_set (i := 4) sc_law.nd (qe_makeX takes0 xok_E0 T.mk_Book (ok_Book_init T) (hr.mono (by first | decide | omega | exact Nat.le_refl _ | exact Nat.le_trans (by decide) (Nat.le_add_right _ _))) (by rfl) T.m_Book T.b_Book_init (qa_cons (qe_var 2) (qa_cons (qe_var 3) qa_nil))))
      (qss_cons (qs_if (qt_not (qt_truth (qe_call (ok_law_states T) (hr.mono (by first | decide | omega | exact Nat.le_refl _ | exact Nat.le_trans (by decide) (Nat.le_add_right _ _))) (by rfl) T.m_law_states T.F_law_states.kp T.b_law_states (qa_cons (qe_var 4) (qa_cons (qe_var 3) (qa_cons (qe_call (ok_law_row T) (hr.mono (by first | decide | omega | exact Nat.le_refl _ | exact Nat.le_trans (by decide) (Nat.le_add_right _ _))) (by rfl) T.m_law_row T.F_law_row.kp T.b_law_row (qa_cons (qe_var 0) (qa_cons qe_int (qa_cons qe_int qa_nil)))) qa_nil)))))) (qss_one (qs_ret qe_bl)) qss_nil)
      (qss_cons (qs_set (i := 5) sc_law.nd (qe_call (ok_law_starts T) (hr.mono (by first | decide | omega | exact Nat.le_refl _ | exact Nat.le_trans (by decide) (Nat.le_add_right _ _))) (by rfl) T.m_law_starts T.F_law_starts.kp T.b_law_starts (qa_cons (qe_var 3) (qa_cons (qe_addT (qe_len (by rfl) T.z_len (qa_cons (qe_var 3) qa_nil)) qe_int) (qa_cons (qe_repT (qe_tup (qa_cons qe_int qa_nil)) (qe_len (by rfl) T.z_len (qa_cons (qe_var 3) qa_nil))) qa_nil)))))
      (qss_cons (qs_set (i := 5) sc_law.nd (qe_ix (qe_var 5) (qe_mod (qe_int1 (by rfl) T.z_int (qa_cons (qe_ix (qe_var 1) qe_int) qa_nil)) (qe_len (by rfl) T.z_len (qa_cons (qe_var 5) qa_nil)))))
      (qss_cons (qs_setLcD (i := 6) (own := [("_law_number", 7)]) (vs := [7]) (by rfl) sc_law.nd rfl rfl (sw_true rfl rfl rfl (by decide +kernel)) (qi_seq (qe_slA (qe_var 0) (qo_some qe_int) (qo_some (qe_addT qe_int (qe_mod (qe_ix (qe_var 1) qe_int) qe_int))))) (blkOk_by (N := ["_law_script", "_law_row_here", "_law_kernel", "_law_layers", "_law_book_here", "_law_start", "_law_numbers", "_law_number", "_law_handed", "_law_play", "_law_deeds_here", "_law_state", "_law_seen", "_law_trail", "_law_taken", "_law_at", "_law_drawn", "_law_deed", "_law_answer", "_law_told", "_law_layer", "_law_old", "_law_end_here", "_law_outcome"]) (sc := defScope s_law) (own := [("_law_number", 7)]) (by decide +kernel)) (simGw_name (j := 7) (by decide)) (fun _ _ _ _ _ => (pg_name (i := 7) sc_law.nd rfl (Or.inl rfl))) (fun _ _ _ _ _ => pts_yes) (fun _ _ _ _ _ Z => (qe_abs (by rfl) T.z_abs (qa_cons (qe_int1 (by rfl) T.z_int (qa_cons (qe_var 7) qa_nil)) qa_nil))))
      (qss_cons (qs_set (i := 8) sc_law.nd (qe_fz (ql_list (by rfl) T.z_list (qe_var 6))))
      (qss_cons (qs_set (i := 9) sc_law.nd (qe_make T.mk_Play (ok_Play_init T) (hr.mono (by first | decide | omega | exact Nat.le_refl _ | exact Nat.le_trans (by decide) (Nat.le_add_right _ _))) (by rfl) T.m_Play T.b_Play_init (qa_cons (qe_var 4) (qa_cons (qe_var 5) (qa_cons (qe_var 8) qa_nil)))))
      (qss_cons (qs_set (i := 10) sc_law.nd (qe_call (ok_law_deeds T) (hr.mono (by first | decide | omega | exact Nat.le_refl _ | exact Nat.le_trans (by decide) (Nat.le_add_right _ _))) (by rfl) T.m_law_deeds T.F_law_deeds.kp T.b_law_deeds (qa_cons (qe_var 2) (qa_cons (qe_var 3) qa_nil))))
      (qss_cons (qs_set (i := 11) sc_law.nd (qe_fz (ql_list (by rfl) T.z_list (qe_var 5))))
      (qss_cons (qs_setO (i := 12) sc_law.nd (ql_lst (qa_cons (qe_var 11) qa_nil)))
      (qss_cons (qs_setM (i := 13) sc_law.nd (ql_lst qa_nil))
      (qss_cons (qs_set (i := 14) sc_law.nd qe_int)
      (qss_cons (qs_forR (j := 15) (js := [7, 15, 16, 18, 19]) PassesOwn.never (by rfl) sc_law.nd (by rfl) T.z_range (qe_mod (qe_ix (qe_var 1) qe_int) qe_int) (qss_cons (qs_set (i := 16) sc_law.nd (qe_call (ok_law_row T) (hr.mono (by first | decide | omega | exact Nat.le_refl _ | exact Nat.le_trans (by decide) (Nat.le_add_right _ _))) (by rfl) T.m_law_row T.F_law_row.kp T.b_law_row (qa_cons (qe_var 0) (qa_cons (qe_addT qe_int (qe_var 15)) (qa_cons qe_int qa_nil)))))
    (qss_cons (qs_set (i := 17) sc_law.nd (qe_ix (qe_var 10) (qe_mod (qe_int1 (by rfl) T.z_int (qa_cons (qe_ix (qe_var 16) qe_int) qa_nil)) (qe_len (by rfl) T.z_len (qa_cons (qe_var 10) qa_nil)))))
    (qss_cons (qs_set (i := 7) sc_law.nd qe_int)
    (qss_cons (qs_if (qt_cmp op_inA od_inA (qe_ix (qe_var 17) qe_int) (qe_tup (qa_cons qe_str (qa_cons qe_str (qa_cons qe_str qa_nil))))) (qss_cons (qs_if (qt_cmp op_lt od_lt (qe_var 14) (qe_len (by rfl) T.z_len (qa_cons (qe_var 6) qa_nil))) (qss_one (qs_set (i := 7) sc_law.nd (qe_ix (qe_var 6) (qe_var 14)))) qss_nil)
      (qss_one (qs_set (i := 14) sc_law.nd (qe_addT (qe_var 14) qe_int)))) qss_nil)
    (qss_cons (qs_unp (is := [18, 11]) rfl (qe_call (ok_law_step T) (hr.mono (by first | decide | omega | exact Nat.le_refl _ | exact Nat.le_trans (by decide) (Nat.le_add_right _ _))) (by rfl) T.m_law_step T.F_law_step.kp T.b_law_step (qa_cons (qe_var 3) (qa_cons (qe_var 11) (qa_cons (qe_var 17) (qa_cons (qe_var 7) (qa_cons (qe_var 13) qa_nil)))))) (pgs_cons (pg_name (i := 18) sc_law.nd rfl (Or.inl rfl)) (pgs_cons (pg_name (i := 11) sc_law.nd rfl (Or.inl rfl)) pgs_nil)))
    (qss_cons (qs_set (i := 19) sc_law.nd (qe_meth T.cl_Play T.mm_Play_answer (ok_Play_answer T) (hr.mono (by first | decide | omega | exact Nat.le_refl _ | exact Nat.le_trans (by decide) (Nat.le_add_right _ _))) T.b_Play_answer (qe_var 9) (qa_cons (qe_var 17) qa_nil)))
    (qss_cons (qs_if (qw_or (qt_not (qt_truth (qe_isi (qe_var 19) (by rfl) T.z_isinstance (by rfl) T.z_int (by decide +kernel)))) (qw_or (qt_truth (qe_isi (qe_var 19) (by rfl) T.z_isinstance (by rfl) T.z_bool (by decide +kernel))) (qw_or1 (qt_cmp (op_neA hr.units) od_neA (qe_var 19) (qe_var 18))))).qt (qss_one (qs_ret qe_bl)) qss_nil)
    (qss_cons (qs_if (qt_cmp (op_eqA hr.units) od_eqA (qe_mod (qe_ix (qe_var 16) qe_int) qe_int) qe_int) (qss_cons (qs_set (i := 20) sc_law.nd (qe_addT qe_int (qe_mod (qe_int1 (by rfl) T.z_int (qa_cons (qe_ix (qe_var 16) qe_int) qa_nil)) (qe_len (by rfl) T.z_len (qa_cons (qe_var 3) qa_nil)))))
      (qss_cons (qs_set (i := 21) sc_law.nd (qe_ixO 12 (qe_mod (qe_int1 (by rfl) T.z_int (qa_cons (qe_ix (qe_var 16) qe_int) qa_nil)) (qe_lenO 12 (by rfl) T.z_len))))
      (qss_cons (qs_set (i := 11) sc_law.nd (qe_call (ok_law_back T) (hr.mono (by first | decide | omega | exact Nat.le_refl _ | exact Nat.le_trans (by decide) (Nat.le_add_right _ _))) (by rfl) T.m_law_back T.F_law_back.kp T.b_law_back (qa_cons (qe_var 3) (qa_cons (qe_var 11) (qa_cons (qe_var 20) (qa_cons (qe_var 21) qa_nil))))))
      (qss_one (qs_expr (qe_meth T.cl_Play T.mm_Play_restore (ok_Play_restore T) (hr.mono (by first | decide | omega | exact Nat.le_refl _ | exact Nat.le_trans (by decide) (Nat.le_add_right _ _))) T.b_Play_restore (qe_var 9) (qa_cons (qe_var 20) (qa_cons (qe_tuple (by rfl) T.z_tuple (qe_var 21)) qa_nil)))))))) qss_nil)
    (qss_cons (qs_app (j := 12) (qe_var 11))
    (qss_one (qs_if (qw_or (qt_cmp (op_neA hr.units) od_neA (qe_fld T.cl_Play T.n_Play_state (qe_var 9)) (qe_tuple (by rfl) T.z_tuple (qe_var 11))) (qw_or (qt_cmp (op_neA hr.units) od_neA (qe_fld T.cl_Play T.n_Play_taken (qe_var 9)) (qe_var 14)) (qw_or (qt_cmp (op_neA hr.units) od_neA (qe_fld T.cl_Play T.n_Play_deeds (qe_var 9)) (qe_addT (qe_var 15) qe_int)) (qw_or1 (qt_neR hr.units (qe_fld T.cl_Play T.n_Play_trail (qe_var 9)) (qe_var 13)))))).qt (qss_one (qs_ret qe_bl)) qss_nil))))))))))))
      (qss_cons (qs_unp (is := [17, 22]) rfl (qe_call (ok_law_end T) (hr.mono (by first | decide | omega | exact Nat.le_refl _ | exact Nat.le_trans (by decide) (Nat.le_add_right _ _))) (by rfl) T.m_law_end T.F_law_end.kp T.b_law_end (qa_cons (qe_var 3) (qa_cons (qe_var 11) (qa_cons (qe_call (ok_law_row T) (hr.mono (by first | decide | omega | exact Nat.le_refl _ | exact Nat.le_trans (by decide) (Nat.le_add_right _ _))) (by rfl) T.m_law_row T.F_law_row.kp T.b_law_row (qa_cons (qe_var 0) (qa_cons qe_int (qa_cons qe_int qa_nil)))) qa_nil)))) (pgs_cons (pg_name (i := 17) sc_law.nd rfl (Or.inl rfl)) (pgs_cons (pg_name (i := 22) sc_law.nd rfl (Or.inl rfl)) pgs_nil)))
      (qss_cons (qs_set (i := 23) sc_law.nd (qe_meth T.cl_Play T.mm_Play_outcome (ok_Play_outcome T) (hr.mono (by first | decide | omega | exact Nat.le_refl _ | exact Nat.le_trans (by decide) (Nat.le_add_right _ _))) T.b_Play_outcome (qe_var 9) (qa_cons (qe_var 17) qa_nil)))
      (qss_one (qs_ret (qe_and (qe_cmp (op_eqA hr.units) od_eqA (qe_var 23) (qe_tup (qa_cons (qe_tuple (by rfl) T.z_tuple (qe_var 13)) (qa_cons (qe_var 22) qa_nil)))) (qe_and (qe_isi (qe_ix (qe_var 23) qe_int) (by rfl) T.z_isinstance (by rfl) T.z_tuple (by decide +kernel)) (qe_one (qe_cmp (op_eqA hr.units) od_eqA (qe_var 8) (qe_var 6))))))))))))))))))))))))

end
theorem all_mk {l : PySem.W.OpenLaw} {w : World} {K : PySem.W.Frag} {h : Heap} {mg : Str → Option Value} {fa f0 f1 f2 f3 f4 f5 f6 f7 f8 f9 f10 f11 f12 f13 f14 f15 f16 f17 f18 f19 f20 f21 f22 f23 f24 f25 f26 f27 f28 f29 f30 f31 f32 f33 f34 f35 f36 f37 f38 f39 f40 f41 f42 k_LAYER_WORDS k_KERNELS c_Play c_DeedsError c_BookError c_Book : Addr} (X : K.In h) (G : h.Ns mainGlobals mg) (hfa : mg "law" = some (.ref fa))
    (m_Play : PySem.W.nsIn K mainGlobals "Play" = some (some (.ref c_Play))) (kc_Play : PySem.W.keepIn K (.ref c_Play) = true)
    (pg_Play : PySem.W.plainGet K c_Play Str.empty = true) (hd_Play : PySem.W.hasDictIn K c_Play = true) (po_Play : PySem.W.plainOver K c_Play = true) (sa_Play : PySem.W.findIn K (.ref c_Play) "__setattr__" = some (some (.builtin "object.__setattr__")))
    (n_Play_book : PySem.W.findIn K (.ref c_Play) "book" = some none)
    (n_Play_deeds : PySem.W.findIn K (.ref c_Play) "deeds" = some none)
    (n_Play_script : PySem.W.findIn K (.ref c_Play) "script" = some none)
    (n_Play_state : PySem.W.findIn K (.ref c_Play) "state" = some none)
    (n_Play_taken : PySem.W.findIn K (.ref c_Play) "taken" = some none)
    (n_Play_trail : PySem.W.findIn K (.ref c_Play) "trail" = some none)
    (m_DeedsError : PySem.W.nsIn K mainGlobals "DeedsError" = some (some (.ref c_DeedsError))) (kc_DeedsError : PySem.W.keepIn K (.ref c_DeedsError) = true)
    (m_BookError : PySem.W.nsIn K mainGlobals "BookError" = some (some (.ref c_BookError))) (kc_BookError : PySem.W.keepIn K (.ref c_BookError) = true)
    {nm_BookError q_BookError : Str} {N_BookError : Addr} {bs_BookError : List Value} {sn_BookError : List Str} {sub_BookError : List Value} {ab_BookError : Bool} {col_BookError : Option Bool} {dd_BookError : Option Addr} {k0_BookError k1_BookError k2_BookError k3_BookError k5_BookError : Option Value}
    (xL_BookError : K.lookup c_BookError = some (excClassObj nm_BookError q_BookError c_BookError N_BookError bs_BookError [.ref c_DeedsError, .type "ValueError", .type "Exception", .type "BaseException", .type "object"] true sn_BookError sub_BookError ab_BookError col_BookError dd_BookError k0_BookError k1_BookError k2_BookError k3_BookError k5_BookError "ValueError.__new__"))
    (sa_BookError : PySem.W.findIn K (.ref c_BookError) "__setattr__" = some (some (.builtin "object.__setattr__"))) (ga_BookError : PySem.W.findIn K (.ref c_BookError) "__getattribute__" = some (some (.builtin "BaseException.__getattribute__"))) (gg_BookError : PySem.W.findIn K (.ref c_BookError) "__getattr__" = some none)
    (eC_BookError : PySem.W.subIn K (.ref c_BookError) (.type "BaseException") = some true) (tC_BookError : PySem.W.typeIn K (.ref c_BookError) = some (.type "type")) (hC_BookError : PySem.W.hasDictIn K c_BookError = true)
    (n_BookError_layer : PySem.W.findIn K (.ref c_BookError) "layer" = some none)
    (m_Book : PySem.W.nsIn K mainGlobals "Book" = some (some (.ref c_Book))) (kc_Book : PySem.W.keepIn K (.ref c_Book) = true)
    (pg_Book : PySem.W.plainGet K c_Book Str.empty = true) (hd_Book : PySem.W.hasDictIn K c_Book = true) (po_Book : PySem.W.plainOver K c_Book = true) (sa_Book : PySem.W.findIn K (.ref c_Book) "__setattr__" = some (some (.builtin "object.__setattr__")))
    (n_Book_kernel : PySem.W.findIn K (.ref c_Book) "kernel" = some none)
    (n_Book_layers : PySem.W.findIn K (.ref c_Book) "layers" = some none)
    (n_Book_numbers : PySem.W.findIn K (.ref c_Book) "numbers" = some none)
    (n_Book_size : PySem.W.findIn K (.ref c_Book) "size" = some none)
    {oc0 kV0 dc0 pm0 cd0 ct0 : Value} {od0 an0 : Option Addr} {sl0 : Array (Option Value)}
    (a0 : PySem.W.findIn K (.ref c_Book) "word_at" = some (some (.ref f0)))
    (l0 : K.lookup f0 = some ⟨oc0, od0, .func (PySem.W.fnOf "word_at" "Book.word_at" (defArgs s_Book_word_at) (defBody s_Book_word_at) (defScope s_Book_word_at) .none kV0 dc0 pm0 an0 cd0 ct0), sl0⟩) (c0 : PySem.W.codeIn K cd0 "Book.word_at" = true) (k0 : PySem.W.keepIn K (.ref f0) = true)
    (i0 : PySem.W.isFn K (.ref f0) = true)
    {oc1 kV1 dc1 pm1 cd1 ct1 : Value} {od1 an1 : Option Addr} {sl1 : Array (Option Value)}
    (a1 : PySem.W.nsIn K mainGlobals "has_values" = some (some (.ref f1)))
    (l1 : K.lookup f1 = some ⟨oc1, od1, .func (PySem.W.fnOf "has_values" "has_values" (defArgs s_has_values) (defBody s_has_values) (defScope s_has_values) .none kV1 dc1 pm1 an1 cd1 ct1), sl1⟩) (c1 : PySem.W.codeIn K cd1 "has_values" = true) (k1 : PySem.W.keepIn K (.ref f1) = true)
    {oc2 kV2 dc2 pm2 cd2 ct2 : Value} {od2 an2 : Option Addr} {sl2 : Array (Option Value)}
    (a2 : PySem.W.findIn K (.ref c_Book) "count_at" = some (some (.ref f2)))
    (l2 : K.lookup f2 = some ⟨oc2, od2, .func (PySem.W.fnOf "count_at" "Book.count_at" (defArgs s_Book_count_at) (defBody s_Book_count_at) (defScope s_Book_count_at) .none kV2 dc2 pm2 an2 cd2 ct2), sl2⟩) (c2 : PySem.W.codeIn K cd2 "Book.count_at" = true) (k2 : PySem.W.keepIn K (.ref f2) = true)
    (i2 : PySem.W.isFn K (.ref f2) = true)
    {oc3 kV3 dc3 pm3 cd3 ct3 : Value} {od3 an3 : Option Addr} {sl3 : Array (Option Value)}
    (a3 : PySem.W.nsIn K mainGlobals "values_at" = some (some (.ref f3)))
    (l3 : K.lookup f3 = some ⟨oc3, od3, .func (PySem.W.fnOf "values_at" "values_at" (defArgs s_values_at) (defBody s_values_at) (defScope s_values_at) .none kV3 dc3 pm3 an3 cd3 ct3), sl3⟩) (c3 : PySem.W.codeIn K cd3 "values_at" = true) (k3 : PySem.W.keepIn K (.ref f3) = true)
    {oc4 kV4 dc4 pm4 cd4 ct4 : Value} {od4 an4 : Option Addr} {sl4 : Array (Option Value)}
    (a4 : PySem.W.nsIn K mainGlobals "starts_below" = some (some (.ref f4)))
    (l4 : K.lookup f4 = some ⟨oc4, od4, .func (PySem.W.fnOf "starts_below" "starts_below" (defArgs s_starts_below) (defBody s_starts_below) (defScope s_starts_below) .none kV4 dc4 pm4 an4 cd4 ct4), sl4⟩) (c4 : PySem.W.codeIn K cd4 "starts_below" = true) (k4 : PySem.W.keepIn K (.ref f4) = true)
    {oc5 kV5 dc5 pm5 cd5 ct5 : Value} {od5 an5 : Option Addr} {sl5 : Array (Option Value)}
    (a5 : PySem.W.nsIn K mainGlobals "starts" = some (some (.ref f5)))
    (l5 : K.lookup f5 = some ⟨oc5, od5, .func (PySem.W.fnOf "starts" "starts" (defArgs s_starts) (defBody s_starts) (defScope s_starts) .none kV5 dc5 pm5 an5 cd5 ct5), sl5⟩) (c5 : PySem.W.codeIn K cd5 "starts" = true) (k5 : PySem.W.keepIn K (.ref f5) = true)
    {oc6 kV6 dc6 pm6 cd6 ct6 : Value} {od6 an6 : Option Addr} {sl6 : Array (Option Value)}
    (a6 : PySem.W.nsIn K mainGlobals "place_below" = some (some (.ref f6)))
    (l6 : K.lookup f6 = some ⟨oc6, od6, .func (PySem.W.fnOf "place_below" "place_below" (defArgs s_place_below) (defBody s_place_below) (defScope s_place_below) .none kV6 dc6 pm6 an6 cd6 ct6), sl6⟩) (c6 : PySem.W.codeIn K cd6 "place_below" = true) (k6 : PySem.W.keepIn K (.ref f6) = true)
    {oc7 kV7 dc7 pm7 cd7 ct7 : Value} {od7 an7 : Option Addr} {sl7 : Array (Option Value)}
    (a7 : PySem.W.nsIn K mainGlobals "kept" = some (some (.ref f7)))
    (l7 : K.lookup f7 = some ⟨oc7, od7, .func (PySem.W.fnOf "kept" "kept" (defArgs s_kept) (defBody s_kept) (defScope s_kept) .none kV7 dc7 pm7 an7 cd7 ct7), sl7⟩) (c7 : PySem.W.codeIn K cd7 "kept" = true) (k7 : PySem.W.keepIn K (.ref f7) = true)
    {oc8 kV8 dc8 pm8 cd8 ct8 : Value} {od8 an8 : Option Addr} {sl8 : Array (Option Value)}
    (a8 : PySem.W.nsIn K mainGlobals "changed" = some (some (.ref f8)))
    (l8 : K.lookup f8 = some ⟨oc8, od8, .func (PySem.W.fnOf "changed" "changed" (defArgs s_changed) (defBody s_changed) (defScope s_changed) .none kV8 dc8 pm8 an8 cd8 ct8), sl8⟩) (c8 : PySem.W.codeIn K cd8 "changed" = true) (k8 : PySem.W.keepIn K (.ref f8) = true)
    {oc9 kV9 dc9 pm9 cd9 ct9 : Value} {od9 an9 : Option Addr} {sl9 : Array (Option Value)}
    (a9 : PySem.W.findIn K (.ref c_Book) "product" = some (some (.ref f9)))
    (l9 : K.lookup f9 = some ⟨oc9, od9, .func (PySem.W.fnOf "product" "Book.product" (defArgs s_Book_product) (defBody s_Book_product) (defScope s_Book_product) .none kV9 dc9 pm9 an9 cd9 ct9), sl9⟩) (c9 : PySem.W.codeIn K cd9 "Book.product" = true) (k9 : PySem.W.keepIn K (.ref f9) = true)
    (i9 : PySem.W.isFn K (.ref f9) = true)
    {oc10 kV10 dc10 pm10 cd10 ct10 : Value} {od10 an10 : Option Addr} {sl10 : Array (Option Value)}
    (a10 : PySem.W.nsIn K mainGlobals "noted" = some (some (.ref f10)))
    (l10 : K.lookup f10 = some ⟨oc10, od10, .func (PySem.W.fnOf "noted" "noted" (defArgs s_noted) (defBody s_noted) (defScope s_noted) .none kV10 dc10 pm10 an10 cd10 ct10), sl10⟩) (c10 : PySem.W.codeIn K cd10 "noted" = true) (k10 : PySem.W.keepIn K (.ref f10) = true)
    {oc11 kV11 dc11 pm11 cd11 ct11 : Value} {od11 an11 : Option Addr} {sl11 : Array (Option Value)}
    (a11 : PySem.W.nsIn K mainGlobals "end_at" = some (some (.ref f11)))
    (l11 : K.lookup f11 = some ⟨oc11, od11, .func (PySem.W.fnOf "end_at" "end_at" (defArgs s_end_at) (defBody s_end_at) (defScope s_end_at) .none kV11 dc11 pm11 an11 cd11 ct11), sl11⟩) (c11 : PySem.W.codeIn K cd11 "end_at" = true) (k11 : PySem.W.keepIn K (.ref f11) = true)
    {oc12 kV12 dc12 pm12 cd12 ct12 : Value} {od12 an12 : Option Addr} {sl12 : Array (Option Value)}
    (a12 : PySem.W.nsIn K mainGlobals "_entries_beneath" = some (some (.ref f12)))
    (l12 : K.lookup f12 = some ⟨oc12, od12, .func (PySem.W.fnOf "_entries_beneath" "_entries_beneath" (defArgs s_entries_beneath) (defBody s_entries_beneath) (defScope s_entries_beneath) .none kV12 dc12 pm12 an12 cd12 ct12), sl12⟩) (c12 : PySem.W.codeIn K cd12 "_entries_beneath" = true) (k12 : PySem.W.keepIn K (.ref f12) = true)
    {oc13 kV13 dc13 pm13 cd13 ct13 : Value} {od13 an13 : Option Addr} {sl13 : Array (Option Value)}
    (a13 : PySem.W.findIn K (.ref c_Book) "ways_at" = some (some (.ref f13)))
    (l13 : K.lookup f13 = some ⟨oc13, od13, .func (PySem.W.fnOf "ways_at" "Book.ways_at" (defArgs s_Book_ways_at) (defBody s_Book_ways_at) (defScope s_Book_ways_at) .none kV13 dc13 pm13 an13 cd13 ct13), sl13⟩) (c13 : PySem.W.codeIn K cd13 "Book.ways_at" = true) (k13 : PySem.W.keepIn K (.ref f13) = true)
    (i13 : PySem.W.isFn K (.ref f13) = true)
    {oc14 kV14 dc14 pm14 cd14 ct14 : Value} {od14 an14 : Option Addr} {sl14 : Array (Option Value)}
    (a14 : PySem.W.nsIn K mainGlobals "_asked" = some (some (.ref f14)))
    (l14 : K.lookup f14 = some ⟨oc14, od14, .func (PySem.W.fnOf "_asked" "_asked" (defArgs s_asked) (defBody s_asked) (defScope s_asked) .none kV14 dc14 pm14 an14 cd14 ct14), sl14⟩) (c14 : PySem.W.codeIn K cd14 "_asked" = true) (k14 : PySem.W.keepIn K (.ref f14) = true)
    {oc15 kV15 dc15 pm15 cd15 ct15 : Value} {od15 an15 : Option Addr} {sl15 : Array (Option Value)}
    (a15 : PySem.W.nsIn K mainGlobals "_way_on" = some (some (.ref f15)))
    (l15 : K.lookup f15 = some ⟨oc15, od15, .func (PySem.W.fnOf "_way_on" "_way_on" (defArgs s_way_on) (defBody s_way_on) (defScope s_way_on) .none kV15 dc15 pm15 an15 cd15 ct15), sl15⟩) (c15 : PySem.W.codeIn K cd15 "_way_on" = true) (k15 : PySem.W.keepIn K (.ref f15) = true)
    {oc16 kV16 dc16 pm16 cd16 ct16 : Value} {od16 an16 : Option Addr} {sl16 : Array (Option Value)}
    (a16 : PySem.W.nsIn K mainGlobals "_state_after" = some (some (.ref f16)))
    (l16 : K.lookup f16 = some ⟨oc16, od16, .func (PySem.W.fnOf "_state_after" "_state_after" (defArgs s_state_after) (defBody s_state_after) (defScope s_state_after) .none kV16 dc16 pm16 an16 cd16 ct16), sl16⟩) (c16 : PySem.W.codeIn K cd16 "_state_after" = true) (k16 : PySem.W.keepIn K (.ref f16) = true)
    {oc17 kV17 dc17 pm17 cd17 ct17 : Value} {od17 an17 : Option Addr} {sl17 : Array (Option Value)}
    (a17 : PySem.W.nsIn K mainGlobals "takes_number" = some (some (.ref f17)))
    (l17 : K.lookup f17 = some ⟨oc17, od17, .func (PySem.W.fnOf "takes_number" "takes_number" (defArgs s_takes_number) (defBody s_takes_number) (defScope s_takes_number) .none kV17 dc17 pm17 an17 cd17 ct17), sl17⟩) (c17 : PySem.W.codeIn K cd17 "takes_number" = true) (k17 : PySem.W.keepIn K (.ref f17) = true)
    {oc18 kV18 dc18 pm18 cd18 ct18 : Value} {od18 an18 : Option Addr} {sl18 : Array (Option Value)}
    (a18 : PySem.W.nsIn K mainGlobals "step_of" = some (some (.ref f18)))
    (l18 : K.lookup f18 = some ⟨oc18, od18, .func (PySem.W.fnOf "step_of" "step_of" (defArgs s_step_of) (defBody s_step_of) (defScope s_step_of) .none kV18 dc18 pm18 an18 cd18 ct18), sl18⟩) (c18 : PySem.W.codeIn K cd18 "step_of" = true) (k18 : PySem.W.keepIn K (.ref f18) = true)
    {oc19 kV19 dc19 pm19 cd19 ct19 : Value} {od19 an19 : Option Addr} {sl19 : Array (Option Value)}
    (a19 : PySem.W.findIn K (.ref c_Play) "__init__" = some (some (.ref f19)))
    (l19 : K.lookup f19 = some ⟨oc19, od19, .func (PySem.W.fnOf "__init__" "Play.__init__" (defArgs s_Play_init) (defBody s_Play_init) (defScope s_Play_init) .none kV19 dc19 pm19 an19 cd19 ct19), sl19⟩) (c19 : PySem.W.codeIn K cd19 "Play.__init__" = true) (k19 : PySem.W.keepIn K (.ref f19) = true)
    (i19 : PySem.W.isFn K (.ref f19) = true)
    (mk_Play : PySem.W.makesIn K c_Play = true)
    {oc20 kV20 dc20 pm20 cd20 ct20 : Value} {od20 an20 : Option Addr} {sl20 : Array (Option Value)}
    (a20 : PySem.W.findIn K (.ref c_Play) "_number" = some (some (.ref f20)))
    (l20 : K.lookup f20 = some ⟨oc20, od20, .func (PySem.W.fnOf "_number" "Play._number" (defArgs s_Play_number) (defBody s_Play_number) (defScope s_Play_number) .none kV20 dc20 pm20 an20 cd20 ct20), sl20⟩) (c20 : PySem.W.codeIn K cd20 "Play._number" = true) (k20 : PySem.W.keepIn K (.ref f20) = true)
    (i20 : PySem.W.isFn K (.ref f20) = true)
    {oc21 kV21 dc21 pm21 cd21 ct21 : Value} {od21 an21 : Option Addr} {sl21 : Array (Option Value)}
    (a21 : PySem.W.findIn K (.ref c_Play) "answer" = some (some (.ref f21)))
    (l21 : K.lookup f21 = some ⟨oc21, od21, .func (PySem.W.fnOf "answer" "Play.answer" (defArgs s_Play_answer) (defBody s_Play_answer) (defScope s_Play_answer) .none kV21 dc21 pm21 an21 cd21 ct21), sl21⟩) (c21 : PySem.W.codeIn K cd21 "Play.answer" = true) (k21 : PySem.W.keepIn K (.ref f21) = true)
    (i21 : PySem.W.isFn K (.ref f21) = true)
    {oc22 kV22 dc22 pm22 cd22 ct22 : Value} {od22 an22 : Option Addr} {sl22 : Array (Option Value)}
    (a22 : PySem.W.findIn K (.ref c_Play) "restore" = some (some (.ref f22)))
    (l22 : K.lookup f22 = some ⟨oc22, od22, .func (PySem.W.fnOf "restore" "Play.restore" (defArgs s_Play_restore) (defBody s_Play_restore) (defScope s_Play_restore) .none kV22 dc22 pm22 an22 cd22 ct22), sl22⟩) (c22 : PySem.W.codeIn K cd22 "Play.restore" = true) (k22 : PySem.W.keepIn K (.ref f22) = true)
    (i22 : PySem.W.isFn K (.ref f22) = true)
    {oc23 kV23 dc23 pm23 cd23 ct23 : Value} {od23 an23 : Option Addr} {sl23 : Array (Option Value)}
    (a23 : PySem.W.findIn K (.ref c_Play) "outcome" = some (some (.ref f23)))
    (l23 : K.lookup f23 = some ⟨oc23, od23, .func (PySem.W.fnOf "outcome" "Play.outcome" (defArgs s_Play_outcome) (defBody s_Play_outcome) (defScope s_Play_outcome) .none kV23 dc23 pm23 an23 cd23 ct23), sl23⟩) (c23 : PySem.W.codeIn K cd23 "Play.outcome" = true) (k23 : PySem.W.keepIn K (.ref f23) = true)
    (i23 : PySem.W.isFn K (.ref f23) = true)
    {oc24 kV24 dc24 pm24 cd24 ct24 : Value} {od24 an24 : Option Addr} {sl24 : Array (Option Value)}
    (a24 : PySem.W.findIn K (.ref c_BookError) "__init__" = some (some (.ref f24)))
    (l24 : K.lookup f24 = some ⟨oc24, od24, .func (PySem.W.fnOf "__init__" "BookError.__init__" (defArgs s_BookError_init) (defBody s_BookError_init) (defScope s_BookError_init) .none kV24 dc24 pm24 an24 cd24 ct24), sl24⟩) (c24 : PySem.W.codeIn K cd24 "BookError.__init__" = true) (k24 : PySem.W.keepIn K (.ref f24) = true)
    (t24 : PySem.W.typeIn K (.ref f24) = some (.type "function"))
    {oc25 kV25 dc25 pm25 cd25 ct25 : Value} {od25 an25 : Option Addr} {sl25 : Array (Option Value)}
    (a25 : PySem.W.nsIn K mainGlobals "is_name" = some (some (.ref f25)))
    (l25 : K.lookup f25 = some ⟨oc25, od25, .func (PySem.W.fnOf "is_name" "is_name" (defArgs s_is_name) (defBody s_is_name) (defScope s_is_name) .none kV25 dc25 pm25 an25 cd25 ct25), sl25⟩) (c25 : PySem.W.codeIn K cd25 "is_name" = true) (k25 : PySem.W.keepIn K (.ref f25) = true)
    {oc26 kV26 dc26 pm26 cd26 ct26 : Value} {od26 an26 : Option Addr} {sl26 : Array (Option Value)}
    (a26 : PySem.W.nsIn K mainGlobals "_is_associative" = some (some (.ref f26)))
    (l26 : K.lookup f26 = some ⟨oc26, od26, .func (PySem.W.fnOf "_is_associative" "_is_associative" (defArgs s_is_associative) (defBody s_is_associative) (defScope s_is_associative) .none kV26 dc26 pm26 an26 cd26 ct26), sl26⟩) (c26 : PySem.W.codeIn K cd26 "_is_associative" = true) (k26 : PySem.W.keepIn K (.ref f26) = true)
    {oc27 kV27 dc27 pm27 cd27 ct27 : Value} {od27 an27 : Option Addr} {sl27 : Array (Option Value)}
    (a27 : PySem.W.nsIn K mainGlobals "_is_square" = some (some (.ref f27)))
    (l27 : K.lookup f27 = some ⟨oc27, od27, .func (PySem.W.fnOf "_is_square" "_is_square" (defArgs s_is_square) (defBody s_is_square) (defScope s_is_square) .none kV27 dc27 pm27 an27 cd27 ct27), sl27⟩) (c27 : PySem.W.codeIn K cd27 "_is_square" = true) (k27 : PySem.W.keepIn K (.ref f27) = true)
    {oc28 kV28 dc28 pm28 cd28 ct28 : Value} {od28 an28 : Option Addr} {sl28 : Array (Option Value)}
    (a28 : PySem.W.nsIn K mainGlobals "_is_monoid" = some (some (.ref f28)))
    (l28 : K.lookup f28 = some ⟨oc28, od28, .func (PySem.W.fnOf "_is_monoid" "_is_monoid" (defArgs s_is_monoid) (defBody s_is_monoid) (defScope s_is_monoid) .none kV28 dc28 pm28 an28 cd28 ct28), sl28⟩) (c28 : PySem.W.codeIn K cd28 "_is_monoid" = true) (k28 : PySem.W.keepIn K (.ref f28) = true)
    {oc29 kV29 dc29 pm29 cd29 ct29 : Value} {od29 an29 : Option Addr} {sl29 : Array (Option Value)}
    (a29 : PySem.W.nsIn K mainGlobals "_is_layer" = some (some (.ref f29)))
    (l29 : K.lookup f29 = some ⟨oc29, od29, .func (PySem.W.fnOf "_is_layer" "_is_layer" (defArgs s_is_layer) (defBody s_is_layer) (defScope s_is_layer) .none kV29 dc29 pm29 an29 cd29 ct29), sl29⟩) (c29 : PySem.W.codeIn K cd29 "_is_layer" = true) (k29 : PySem.W.keepIn K (.ref f29) = true)
    {oc30 kV30 dc30 pm30 cd30 ct30 : Value} {od30 an30 : Option Addr} {sl30 : Array (Option Value)}
    (a30 : PySem.W.nsIn K mainGlobals "_states_of" = some (some (.ref f30)))
    (l30 : K.lookup f30 = some ⟨oc30, od30, .func (PySem.W.fnOf "_states_of" "_states_of" (defArgs s_states_of) (defBody s_states_of) (defScope s_states_of) .none kV30 dc30 pm30 an30 cd30 ct30), sl30⟩) (c30 : PySem.W.codeIn K cd30 "_states_of" = true) (k30 : PySem.W.keepIn K (.ref f30) = true)
    {oc31 kV31 dc31 pm31 cd31 ct31 : Value} {od31 an31 : Option Addr} {sl31 : Array (Option Value)}
    (a31 : PySem.W.findIn K (.ref c_Book) "__init__" = some (some (.ref f31)))
    (l31 : K.lookup f31 = some ⟨oc31, od31, .func (PySem.W.fnOf "__init__" "Book.__init__" (defArgs s_Book_init) (defBody s_Book_init) (defScope s_Book_init) .none kV31 dc31 pm31 an31 cd31 ct31), sl31⟩) (c31 : PySem.W.codeIn K cd31 "Book.__init__" = true) (k31 : PySem.W.keepIn K (.ref f31) = true)
    (i31 : PySem.W.isFn K (.ref f31) = true)
    (mk_Book : PySem.W.makesIn K c_Book = true)
    {oc32 kV32 dc32 pm32 cd32 ct32 : Value} {od32 an32 : Option Addr} {sl32 : Array (Option Value)}
    (a32 : PySem.W.nsIn K mainGlobals "_law_row" = some (some (.ref f32)))
    (l32 : K.lookup f32 = some ⟨oc32, od32, .func (PySem.W.fnOf "_law_row" "_law_row" (defArgs s_law_row) (defBody s_law_row) (defScope s_law_row) .none kV32 dc32 pm32 an32 cd32 ct32), sl32⟩) (c32 : PySem.W.codeIn K cd32 "_law_row" = true) (k32 : PySem.W.keepIn K (.ref f32) = true)
    {oc33 kV33 dc33 pm33 cd33 ct33 : Value} {od33 an33 : Option Addr} {sl33 : Array (Option Value)}
    (a33 : PySem.W.nsIn K mainGlobals "_law_book" = some (some (.ref f33)))
    (l33 : K.lookup f33 = some ⟨oc33, od33, .func (PySem.W.fnOf "_law_book" "_law_book" (defArgs s_law_book) (defBody s_law_book) (defScope s_law_book) .none kV33 dc33 pm33 an33 cd33 ct33), sl33⟩) (c33 : PySem.W.codeIn K cd33 "_law_book" = true) (k33 : PySem.W.keepIn K (.ref f33) = true)
    {oc34 kV34 dc34 pm34 cd34 ct34 : Value} {od34 an34 : Option Addr} {sl34 : Array (Option Value)}
    (a34 : PySem.W.nsIn K mainGlobals "_law_deeds" = some (some (.ref f34)))
    (l34 : K.lookup f34 = some ⟨oc34, od34, .func (PySem.W.fnOf "_law_deeds" "_law_deeds" (defArgs s_law_deeds) (defBody s_law_deeds) (defScope s_law_deeds) .none kV34 dc34 pm34 an34 cd34 ct34), sl34⟩) (c34 : PySem.W.codeIn K cd34 "_law_deeds" = true) (k34 : PySem.W.keepIn K (.ref f34) = true)
    {oc35 kV35 dc35 pm35 cd35 ct35 : Value} {od35 an35 : Option Addr} {sl35 : Array (Option Value)}
    (a35 : PySem.W.nsIn K mainGlobals "_law_starts" = some (some (.ref f35)))
    (l35 : K.lookup f35 = some ⟨oc35, od35, .func (PySem.W.fnOf "_law_starts" "_law_starts" (defArgs s_law_starts) (defBody s_law_starts) (defScope s_law_starts) .none kV35 dc35 pm35 an35 cd35 ct35), sl35⟩) (c35 : PySem.W.codeIn K cd35 "_law_starts" = true) (k35 : PySem.W.keepIn K (.ref f35) = true)
    {oc36 kV36 dc36 pm36 cd36 ct36 : Value} {od36 an36 : Option Addr} {sl36 : Array (Option Value)}
    (a36 : PySem.W.nsIn K mainGlobals "_law_kept" = some (some (.ref f36)))
    (l36 : K.lookup f36 = some ⟨oc36, od36, .func (PySem.W.fnOf "_law_kept" "_law_kept" (defArgs s_law_kept) (defBody s_law_kept) (defScope s_law_kept) .none kV36 dc36 pm36 an36 cd36 ct36), sl36⟩) (c36 : PySem.W.codeIn K cd36 "_law_kept" = true) (k36 : PySem.W.keepIn K (.ref f36) = true)
    {oc37 kV37 dc37 pm37 cd37 ct37 : Value} {od37 an37 : Option Addr} {sl37 : Array (Option Value)}
    (a37 : PySem.W.nsIn K mainGlobals "_law_asked" = some (some (.ref f37)))
    (l37 : K.lookup f37 = some ⟨oc37, od37, .func (PySem.W.fnOf "_law_asked" "_law_asked" (defArgs s_law_asked) (defBody s_law_asked) (defScope s_law_asked) .none kV37 dc37 pm37 an37 cd37 ct37), sl37⟩) (c37 : PySem.W.codeIn K cd37 "_law_asked" = true) (k37 : PySem.W.keepIn K (.ref f37) = true)
    {oc38 kV38 dc38 pm38 cd38 ct38 : Value} {od38 an38 : Option Addr} {sl38 : Array (Option Value)}
    (a38 : PySem.W.nsIn K mainGlobals "_law_step" = some (some (.ref f38)))
    (l38 : K.lookup f38 = some ⟨oc38, od38, .func (PySem.W.fnOf "_law_step" "_law_step" (defArgs s_law_step) (defBody s_law_step) (defScope s_law_step) .none kV38 dc38 pm38 an38 cd38 ct38), sl38⟩) (c38 : PySem.W.codeIn K cd38 "_law_step" = true) (k38 : PySem.W.keepIn K (.ref f38) = true)
    {oc39 kV39 dc39 pm39 cd39 ct39 : Value} {od39 an39 : Option Addr} {sl39 : Array (Option Value)}
    (a39 : PySem.W.nsIn K mainGlobals "_law_back" = some (some (.ref f39)))
    (l39 : K.lookup f39 = some ⟨oc39, od39, .func (PySem.W.fnOf "_law_back" "_law_back" (defArgs s_law_back) (defBody s_law_back) (defScope s_law_back) .none kV39 dc39 pm39 an39 cd39 ct39), sl39⟩) (c39 : PySem.W.codeIn K cd39 "_law_back" = true) (k39 : PySem.W.keepIn K (.ref f39) = true)
    {oc40 kV40 dc40 pm40 cd40 ct40 : Value} {od40 an40 : Option Addr} {sl40 : Array (Option Value)}
    (a40 : PySem.W.nsIn K mainGlobals "_law_states" = some (some (.ref f40)))
    (l40 : K.lookup f40 = some ⟨oc40, od40, .func (PySem.W.fnOf "_law_states" "_law_states" (defArgs s_law_states) (defBody s_law_states) (defScope s_law_states) .none kV40 dc40 pm40 an40 cd40 ct40), sl40⟩) (c40 : PySem.W.codeIn K cd40 "_law_states" = true) (k40 : PySem.W.keepIn K (.ref f40) = true)
    {oc41 kV41 dc41 pm41 cd41 ct41 : Value} {od41 an41 : Option Addr} {sl41 : Array (Option Value)}
    (a41 : PySem.W.nsIn K mainGlobals "_law_end" = some (some (.ref f41)))
    (l41 : K.lookup f41 = some ⟨oc41, od41, .func (PySem.W.fnOf "_law_end" "_law_end" (defArgs s_law_end) (defBody s_law_end) (defScope s_law_end) .none kV41 dc41 pm41 an41 cd41 ct41), sl41⟩) (c41 : PySem.W.codeIn K cd41 "_law_end" = true) (k41 : PySem.W.keepIn K (.ref f41) = true)
    {oc42 kV42 dc42 pm42 cd42 ct42 : Value} {od42 an42 : Option Addr} {sl42 : Array (Option Value)}
    (a42 : PySem.W.nsIn K mainGlobals "law" = some (some (.ref f42)))
    (l42 : K.lookup f42 = some ⟨oc42, od42, .func (PySem.W.fnOf "law" "law" (defArgs s_law) (defBody s_law) (defScope s_law) .none kV42 dc42 pm42 an42 cd42 ct42), sl42⟩) (c42 : PySem.W.codeIn K cd42 "law" = true) (k42 : PySem.W.keepIn K (.ref f42) = true)
    (z_abs : PySem.W.nsIn K mainGlobals "abs" = some none)
    (z_bool : PySem.W.nsIn K mainGlobals "bool" = some none)
    (z_enumerate : PySem.W.nsIn K mainGlobals "enumerate" = some none)
    (z_int : PySem.W.nsIn K mainGlobals "int" = some none)
    (z_isinstance : PySem.W.nsIn K mainGlobals "isinstance" = some none)
    (z_len : PySem.W.nsIn K mainGlobals "len" = some none)
    (z_list : PySem.W.nsIn K mainGlobals "list" = some none)
    (z_max : PySem.W.nsIn K mainGlobals "max" = some none)
    (z_min : PySem.W.nsIn K mainGlobals "min" = some none)
    (z_range : PySem.W.nsIn K mainGlobals "range" = some none)
    (z_tuple : PySem.W.nsIn K mainGlobals "tuple" = some none)
    {t_MOST_LAYERS : Tok} (g_MOST_LAYERS : PySem.W.nsIn K mainGlobals "MOST_LAYERS" = some (some (.int 5 t_MOST_LAYERS)))
    {t_MOST_STATES : Tok} (g_MOST_STATES : PySem.W.nsIn K mainGlobals "MOST_STATES" = some (some (.int 12 t_MOST_STATES)))
    {od_LAYER_WORDS : Option Addr} {its_LAYER_WORDS : Array Value} {n_LAYER_WORDS : Nat} {sl_LAYER_WORDS : Array (Option Value)}
    (g_LAYER_WORDS : PySem.W.nsIn K mainGlobals "LAYER_WORDS" = some (some (.ref k_LAYER_WORDS))) (lk_LAYER_WORDS : K.lookup k_LAYER_WORDS = some ⟨.type "tuple", od_LAYER_WORDS, .seq its_LAYER_WORDS n_LAYER_WORDS, sl_LAYER_WORDS⟩) (zz_LAYER_WORDS : its_LAYER_WORDS.size ≤ sizeLine) (vv_LAYER_WORDS : Vals ((["cell", "setting", "note", "fail", "outside"] : List Str).map V.str) its_LAYER_WORDS.toList)
    {es_KERNELS : Array DictEntry} {n_KERNELS : Nat} {u_KERNELS_0 : Value} {u_KERNELS_1 : Value} {u_KERNELS_2 : Value} {u_KERNELS_3 : Value} {u_KERNELS_4 : Value} {u_KERNELS_5 : Value} {u_KERNELS_6 : Value}
    (g_KERNELS : PySem.W.nsIn K mainGlobals "KERNELS" = some (some (.ref k_KERNELS))) (lk_KERNELS : K.lookup k_KERNELS = some ⟨.type "dict", none, .dict es_KERNELS n_KERNELS, #[]⟩) (kl_KERNELS : PySem.W.KeysLit w.params es_KERNELS.toList) (lw_KERNELS : (k_KERNELS == sysModules) = false)
    (nk_KERNELS_0 : PySem.W.nsIn K k_KERNELS "none" = some (some u_KERNELS_0))
    (nk_KERNELS_1 : PySem.W.nsIn K k_KERNELS "choose" = some (some u_KERNELS_1))
    (nk_KERNELS_2 : PySem.W.nsIn K k_KERNELS "draw" = some (some u_KERNELS_2))
    (nk_KERNELS_3 : PySem.W.nsIn K k_KERNELS "spread" = some (some u_KERNELS_3))
    (nk_KERNELS_4 : PySem.W.nsIn K k_KERNELS "twochoose" = some (some u_KERNELS_4))
    (nk_KERNELS_5 : PySem.W.nsIn K k_KERNELS "twodraw" = some (some u_KERNELS_5))
    (nk_KERNELS_6 : PySem.W.nsIn K k_KERNELS "mixed" = some (some u_KERNELS_6)) :
    ∃ fd : FuncData, (∀ (s : Shared) (v : Value), BindsTo s fd ⟨[v], []⟩ [("_law_script", v)]) ∧ ∀ base : Heap, K.In base → base.Ns mainGlobals mg → FnOk l.prog w K mg base CX0 7 fa fd ["_law_script"] (spOf K lawSp) := by
  have e := hfa.symm.trans (PySem.W.mg_of X G a42)
  cases e
  have F0 := fun_mk (st := s_Book_word_at) l0 c0 k0
  have b0 := F0.binds (ps := ["self", "layer"]) fun _ _ _ _ _ _ us hl => match us, hl with | [_, _], _ => rfl
  have F1 := fun_mk (st := s_has_values) l1 c1 k1
  have b1 := F1.binds (ps := ["book", "layer"]) fun _ _ _ _ _ _ us hl => match us, hl with | [_, _], _ => rfl
  have F2 := fun_mk (st := s_Book_count_at) l2 c2 k2
  have b2 := F2.binds (ps := ["self", "layer"]) fun _ _ _ _ _ _ us hl => match us, hl with | [_, _], _ => rfl
  have F3 := fun_mk (st := s_values_at) l3 c3 k3
  have b3 := F3.binds (ps := ["book", "layer"]) fun _ _ _ _ _ _ us hl => match us, hl with | [_, _], _ => rfl
  have F4 := fun_mk (st := s_starts_below) l4 c4 k4
  have b4 := F4.binds (ps := ["book", "layer", "state"]) fun _ _ _ _ _ _ us hl => match us, hl with | [_, _, _], _ => rfl
  have F5 := fun_mk (st := s_starts) l5 c5 k5
  have b5 := F5.binds (ps := ["book"]) fun _ _ _ _ _ _ us hl => match us, hl with | [_], _ => rfl
  have F6 := fun_mk (st := s_place_below) l6 c6 k6
  have b6 := F6.binds (ps := ["book", "layer", "state"]) fun _ _ _ _ _ _ us hl => match us, hl with | [_, _, _], _ => rfl
  have F7 := fun_mk (st := s_kept) l7 c7 k7
  have b7 := F7.binds (ps := ["book", "state", "layer"]) fun _ _ _ _ _ _ us hl => match us, hl with | [_, _, _], _ => rfl
  have F8 := fun_mk (st := s_changed) l8 c8 k8
  have b8 := F8.binds (ps := ["state", "layer", "entry"]) fun _ _ _ _ _ _ us hl => match us, hl with | [_, _, _], _ => rfl
  have F9 := fun_mk (st := s_Book_product) l9 c9 k9
  have b9 := F9.binds (ps := ["self", "layer", "first", "second"]) fun _ _ _ _ _ _ us hl => match us, hl with | [_, _, _, _], _ => rfl
  have F10 := fun_mk (st := s_noted) l10 c10 k10
  have b10 := F10.binds (ps := ["book", "state", "layer", "member"]) fun _ _ _ _ _ _ us hl => match us, hl with | [_, _, _, _], _ => rfl
  have F11 := fun_mk (st := s_end_at) l11 c11 k11
  have b11 := F11.binds (ps := ["book", "state", "deed"]) fun _ _ _ _ _ _ us hl => match us, hl with | [_, _, _], _ => rfl
  have F12 := fun_mk (st := s_entries_beneath) l12 c12 k12
  have b12 := F12.binds (ps := ["book", "layer", "rest"]) fun _ _ _ _ _ _ us hl => match us, hl with | [_, _, _], _ => rfl
  have F13 := fun_mk (st := s_Book_ways_at) l13 c13 k13
  have b13 := F13.binds (ps := ["self", "layer", "deed"]) fun _ _ _ _ _ _ us hl => match us, hl with | [_, _, _], _ => rfl
  have F14 := fun_mk (st := s_asked) l14 c14 k14
  have b14 := F14.binds (ps := ["book", "state", "deed", "number"]) fun _ _ _ _ _ _ us hl => match us, hl with | [_, _, _, _], _ => rfl
  have F15 := fun_mk (st := s_way_on) l15 c15 k15
  have b15 := F15.binds (ps := ["state", "deed", "number"]) fun _ _ _ _ _ _ us hl => match us, hl with | [_, _, _], _ => rfl
  have F16 := fun_mk (st := s_state_after) l16 c16 k16
  have b16 := F16.binds (ps := ["book", "state", "deed"]) fun _ _ _ _ _ _ us hl => match us, hl with | [_, _, _], _ => rfl
  have F17 := fun_mk (st := s_takes_number) l17 c17 k17
  have b17 := F17.binds (ps := ["deed"]) fun _ _ _ _ _ _ us hl => match us, hl with | [_], _ => rfl
  have F18 := fun_mk (st := s_step_of) l18 c18 k18
  have b18 := F18.binds (ps := ["book", "state", "deed", "number"]) fun _ _ _ _ _ _ us hl => match us, hl with | [_, _, _, _], _ => rfl
  have F19 := fun_mk (st := s_Play_init) l19 c19 k19
  have b19 := F19.binds (ps := ["self", "book", "start", "script"]) fun _ _ _ _ _ _ us hl => match us, hl with | [_, _, _, _], _ => rfl
  have F20 := fun_mk (st := s_Play_number) l20 c20 k20
  have b20 := F20.binds (ps := ["self"]) fun _ _ _ _ _ _ us hl => match us, hl with | [_], _ => rfl
  have F21 := fun_mk (st := s_Play_answer) l21 c21 k21
  have b21 := F21.binds (ps := ["self", "deed"]) fun _ _ _ _ _ _ us hl => match us, hl with | [_, _], _ => rfl
  have F22 := fun_mk (st := s_Play_restore) l22 c22 k22
  have b22 := F22.binds (ps := ["self", "layer", "state"]) fun _ _ _ _ _ _ us hl => match us, hl with | [_, _, _], _ => rfl
  have F23 := fun_mk (st := s_Play_outcome) l23 c23 k23
  have b23 := F23.binds (ps := ["self", "deed"]) fun _ _ _ _ _ _ us hl => match us, hl with | [_, _], _ => rfl
  have F24 := fun_mk (st := s_BookError_init) l24 c24 k24
  have b24 := F24.binds (ps := ["self", "layer"]) fun _ _ _ _ _ _ us hl => match us, hl with | [_, _], _ => rfl
  have F25 := fun_mk (st := s_is_name) l25 c25 k25
  have b25 := F25.binds (ps := ["token"]) fun _ _ _ _ _ _ us hl => match us, hl with | [_], _ => rfl
  have F26 := fun_mk (st := s_is_associative) l26 c26 k26
  have b26 := F26.binds (ps := ["table"]) fun _ _ _ _ _ _ us hl => match us, hl with | [_], _ => rfl
  have F27 := fun_mk (st := s_is_square) l27 c27 k27
  have b27 := F27.binds (ps := ["table"]) fun _ _ _ _ _ _ us hl => match us, hl with | [_], _ => rfl
  have F28 := fun_mk (st := s_is_monoid) l28 c28 k28
  have b28 := F28.binds (ps := ["table"]) fun _ _ _ _ _ _ us hl => match us, hl with | [_], _ => rfl
  have F29 := fun_mk (st := s_is_layer) l29 c29 k29
  have b29 := F29.binds (ps := ["layer"]) fun _ _ _ _ _ _ us hl => match us, hl with | [_], _ => rfl
  have F30 := fun_mk (st := s_states_of) l30 c30 k30
  have b30 := F30.binds (ps := ["layers"]) fun _ _ _ _ _ _ us hl => match us, hl with | [_], _ => rfl
  have F31 := fun_mk (st := s_Book_init) l31 c31 k31
  have b31 := F31.binds (ps := ["self", "kernel", "layers"]) fun _ _ _ _ _ _ us hl => match us, hl with | [_, _, _], _ => rfl
  have F32 := fun_mk (st := s_law_row) l32 c32 k32
  have b32 := F32.binds (ps := ["_law_script", "_law_k", "_law_count"]) fun _ _ _ _ _ _ us hl => match us, hl with | [_, _, _], _ => rfl
  have F33 := fun_mk (st := s_law_book) l33 c33 k33
  have b33 := F33.binds (ps := ["_law_k"]) fun _ _ _ _ _ _ us hl => match us, hl with | [_], _ => rfl
  have F34 := fun_mk (st := s_law_deeds) l34 c34 k34
  have b34 := F34.binds (ps := ["_law_kernel", "_law_layers"]) fun _ _ _ _ _ _ us hl => match us, hl with | [_, _], _ => rfl
  have F35 := fun_mk (st := s_law_starts) l35 c35 k35
  have b35 := F35.binds (ps := ["_law_layers", "_law_layer", "_law_state"]) fun _ _ _ _ _ _ us hl => match us, hl with | [_, _, _], _ => rfl
  have F36 := fun_mk (st := s_law_kept) l36 c36 k36
  have b36 := F36.binds (ps := ["_law_layers", "_law_state", "_law_layer"]) fun _ _ _ _ _ _ us hl => match us, hl with | [_, _, _], _ => rfl
  have F37 := fun_mk (st := s_law_asked) l37 c37 k37
  have b37 := F37.binds (ps := ["_law_layers", "_law_state", "_law_deed", "_law_number", "_law_trail"]) fun _ _ _ _ _ _ us hl => match us, hl with | [_, _, _, _, _], _ => rfl
  have F38 := fun_mk (st := s_law_step) l38 c38 k38
  have b38 := F38.binds (ps := ["_law_layers", "_law_state", "_law_deed", "_law_number", "_law_trail"]) fun _ _ _ _ _ _ us hl => match us, hl with | [_, _, _, _, _], _ => rfl
  have F39 := fun_mk (st := s_law_back) l39 c39 k39
  have b39 := F39.binds (ps := ["_law_layers", "_law_state", "_law_layer", "_law_old"]) fun _ _ _ _ _ _ us hl => match us, hl with | [_, _, _, _], _ => rfl
  have F40 := fun_mk (st := s_law_states) l40 c40 k40
  have b40 := F40.binds (ps := ["_law_book_here", "_law_layers", "_law_row_here"]) fun _ _ _ _ _ _ us hl => match us, hl with | [_, _, _], _ => rfl
  have F41 := fun_mk (st := s_law_end) l41 c41 k41
  have b41 := F41.binds (ps := ["_law_layers", "_law_state", "_law_row_here"]) fun _ _ _ _ _ _ us hl => match us, hl with | [_, _, _], _ => rfl
  have F42 := fun_mk (st := s_law) l42 c42 k42
  have b42 := F42.binds (ps := ["_law_script"]) fun _ _ _ _ _ _ us hl => match us, hl with | [_], _ => rfl
  have nk_KERNELS : ∀ z ∈ (["none", "choose", "draw", "spread", "twochoose", "twodraw", "mixed"] : List Str), ∃ u, PySem.W.nsIn K k_KERNELS z = some (some u) := by
    intro z hz
    simp only [List.mem_cons, List.not_mem_nil, or_false] at hz
    rcases hz with rfl | rfl | rfl | rfl | rfl | rfl | rfl
    · exact ⟨_, nk_KERNELS_0⟩
    · exact ⟨_, nk_KERNELS_1⟩
    · exact ⟨_, nk_KERNELS_2⟩
    · exact ⟨_, nk_KERNELS_3⟩
    · exact ⟨_, nk_KERNELS_4⟩
    · exact ⟨_, nk_KERNELS_5⟩
    · exact ⟨_, nk_KERNELS_6⟩
  exact ⟨_, fun s v => .of_eq rfl, fun base _ _ => ok_law (T := (⟨_, _, F0, b0, ⟨a0, i0, k0⟩, _, _, F1, b1, PySem.W.mg_of X G a1, _, _, F2, b2, ⟨a2, i2, k2⟩, _, _, F3, b3, PySem.W.mg_of X G a3, _, _, F4, b4, PySem.W.mg_of X G a4, _, _, F5, b5, PySem.W.mg_of X G a5, _, _, F6, b6, PySem.W.mg_of X G a6, _, _, F7, b7, PySem.W.mg_of X G a7, _, _, F8, b8, PySem.W.mg_of X G a8, _, _, F9, b9, ⟨a9, i9, k9⟩, _, _, F10, b10, PySem.W.mg_of X G a10, _, _, F11, b11, PySem.W.mg_of X G a11, _, _, F12, b12, PySem.W.mg_of X G a12, _, _, F13, b13, ⟨a13, i13, k13⟩, _, _, F14, b14, PySem.W.mg_of X G a14, _, _, F15, b15, PySem.W.mg_of X G a15, _, _, F16, b16, PySem.W.mg_of X G a16, _, _, F17, b17, PySem.W.mg_of X G a17, _, _, F18, b18, PySem.W.mg_of X G a18, _, _, F19, b19, ⟨mk_Play, a19, i19, kc_Play⟩, _, _, F20, b20, ⟨a20, i20, k20⟩, _, _, F21, b21, ⟨a21, i21, k21⟩, _, _, F22, b22, ⟨a22, i22, k22⟩, _, _, F23, b23, ⟨a23, i23, k23⟩, _, _, F24, b24, t24, _, _, F25, b25, PySem.W.mg_of X G a25, _, _, F26, b26, PySem.W.mg_of X G a26, _, _, F27, b27, PySem.W.mg_of X G a27, _, _, F28, b28, PySem.W.mg_of X G a28, _, _, F29, b29, PySem.W.mg_of X G a29, _, _, F30, b30, PySem.W.mg_of X G a30, _, _, F31, b31, ⟨mk_Book, a31, i31, kc_Book⟩, _, _, F32, b32, PySem.W.mg_of X G a32, _, _, F33, b33, PySem.W.mg_of X G a33, _, _, F34, b34, PySem.W.mg_of X G a34, _, _, F35, b35, PySem.W.mg_of X G a35, _, _, F36, b36, PySem.W.mg_of X G a36, _, _, F37, b37, PySem.W.mg_of X G a37, _, _, F38, b38, PySem.W.mg_of X G a38, _, _, F39, b39, PySem.W.mg_of X G a39, _, _, F40, b40, PySem.W.mg_of X G a40, _, _, F41, b41, PySem.W.mg_of X G a41, _, _, F42, b42, PySem.W.mg_of X G a42, PySem.W.mg_of X G m_Play, ⟨pg_Play, hd_Play, po_Play, sa_Play⟩, n_Play_book, n_Play_deeds, n_Play_script, n_Play_state, n_Play_taken, n_Play_trail, PySem.W.mg_of X G m_DeedsError, PySem.W.mg_of X G m_BookError, ⟨⟨nm_BookError, q_BookError, N_BookError, bs_BookError, _, sn_BookError, sub_BookError, ab_BookError, col_BookError, dd_BookError, k0_BookError, k1_BookError, k2_BookError, k3_BookError, k5_BookError, xL_BookError, rfl⟩, sa_BookError, eC_BookError, tC_BookError, kc_BookError⟩, a24, ⟨ga_BookError, gg_BookError, eC_BookError, hC_BookError⟩, n_BookError_layer, PySem.W.mg_of X G m_Book, ⟨pg_Book, hd_Book, po_Book, sa_Book⟩, n_Book_kernel, n_Book_layers, n_Book_numbers, n_Book_size, PySem.W.mg_none_of X G z_abs, PySem.W.mg_none_of X G z_bool, PySem.W.mg_none_of X G z_enumerate, PySem.W.mg_none_of X G z_int, PySem.W.mg_none_of X G z_isinstance, PySem.W.mg_none_of X G z_len, PySem.W.mg_none_of X G z_list, PySem.W.mg_none_of X G z_max, PySem.W.mg_none_of X G z_min, PySem.W.mg_none_of X G z_range, PySem.W.mg_none_of X G z_tuple, ⟨t_MOST_LAYERS, PySem.W.mg_of X G g_MOST_LAYERS⟩, ⟨t_MOST_STATES, PySem.W.mg_of X G g_MOST_STATES⟩, _, PySem.W.mg_of X G g_LAYER_WORDS, (fun F => rp_strs lk_LAYER_WORDS rfl rfl zz_LAYER_WORDS vv_LAYER_WORDS), _, _, _, PySem.W.mg_of X G g_KERNELS, ⟨lk_KERNELS, kl_KERNELS, lw_KERNELS⟩, nk_KERNELS⟩ : Txt K mg w ⟨c_Play, c_DeedsError, c_BookError, c_Book⟩))⟩
end My
open PySem PySem.W PyProof.Rows
set_option maxHeartbeats 0 in
theorem PySem.Challenge.cw_besideandthrough_k02_plays_holds : PySem.Challenge.rw_besideandthrough_k02_plays.Holds := by
  w_on; o_law; k_head; (case hw => w_witness2)
  k_fill
  refine L2.walk_of (l := PySem.Challenge.rw_besideandthrough_k02_plays) (n := 63) (k := 7) (x := "_law_script") (CX := fun _ => L2.CX0) (sp := fun w => DL.spOf _ DL.lawSp) rfl (by decide) rfl ⟨rfl, by decide, by decide⟩ (fun w h Y => PySem.W.kIn_of Y) ?F (fun _ _ a ns hl _ hS => DL.law_start hl hS) (fun _ _ _ _ _ h => h)
  case F =>
    intro w mg fa h KX G hmg
    refine' My.all_mk KX G hmg ?m_Play ?kc_Play ?pg_Play ?hd_Play ?po_Play ?sa_Play ?n_Play_book ?n_Play_deeds ?n_Play_script ?n_Play_state ?n_Play_taken ?n_Play_trail ?m_DeedsError ?kc_DeedsError ?m_BookError ?kc_BookError ?xL_BookError ?sa_BookError ?ga_BookError ?gg_BookError ?eC_BookError ?tC_BookError ?hC_BookError ?n_BookError_layer ?m_Book ?kc_Book ?pg_Book ?hd_Book ?po_Book ?sa_Book ?n_Book_kernel ?n_Book_layers ?n_Book_numbers ?n_Book_size ?a0 ?l0 ?c0 ?k0 ?i0 ?a1 ?l1 ?c1 ?k1 ?a2 ?l2 ?c2 ?k2 ?i2 ?a3 ?l3 ?c3 ?k3 ?a4 ?l4 ?c4 ?k4 ?a5 ?l5 ?c5 ?k5 ?a6 ?l6 ?c6 ?k6 ?a7 ?l7 ?c7 ?k7 ?a8 ?l8 ?c8 ?k8 ?a9 ?l9 ?c9 ?k9 ?i9 ?a10 ?l10 ?c10 ?k10 ?a11 ?l11 ?c11 ?k11 ?a12 ?l12 ?c12 ?k12 ?a13 ?l13 ?c13 ?k13 ?i13 ?a14 ?l14 ?c14 ?k14 ?a15 ?l15 ?c15 ?k15 ?a16 ?l16 ?c16 ?k16 ?a17 ?l17 ?c17 ?k17 ?a18 ?l18 ?c18 ?k18 ?a19 ?l19 ?c19 ?k19 ?i19 ?mk_Play ?a20 ?l20 ?c20 ?k20 ?i20 ?a21 ?l21 ?c21 ?k21 ?i21 ?a22 ?l22 ?c22 ?k22 ?i22 ?a23 ?l23 ?c23 ?k23 ?i23 ?a24 ?l24 ?c24 ?k24 ?t24 ?a25 ?l25 ?c25 ?k25 ?a26 ?l26 ?c26 ?k26 ?a27 ?l27 ?c27 ?k27 ?a28 ?l28 ?c28 ?k28 ?a29 ?l29 ?c29 ?k29 ?a30 ?l30 ?c30 ?k30 ?a31 ?l31 ?c31 ?k31 ?i31 ?mk_Book ?a32 ?l32 ?c32 ?k32 ?a33 ?l33 ?c33 ?k33 ?a34 ?l34 ?c34 ?k34 ?a35 ?l35 ?c35 ?k35 ?a36 ?l36 ?c36 ?k36 ?a37 ?l37 ?c37 ?k37 ?a38 ?l38 ?c38 ?k38 ?a39 ?l39 ?c39 ?k39 ?a40 ?l40 ?c40 ?k40 ?a41 ?l41 ?c41 ?k41 ?a42 ?l42 ?c42 ?k42 ?z_abs ?z_bool ?z_enumerate ?z_int ?z_isinstance ?z_len ?z_list ?z_max ?z_min ?z_range ?z_tuple ?g_MOST_LAYERS ?g_MOST_STATES ?g_LAYER_WORDS ?lk_LAYER_WORDS ?zz_LAYER_WORDS ?vv_LAYER_WORDS ?g_KERNELS ?lk_KERNELS ?kl_KERNELS ?lw_KERNELS ?nk_KERNELS_0 ?nk_KERNELS_1 ?nk_KERNELS_2 ?nk_KERNELS_3 ?nk_KERNELS_4 ?nk_KERNELS_5 ?nk_KERNELS_6
    (case m_Play => k_is); (case kc_Play => k_is); (case pg_Play => k_is); (case hd_Play => k_is); (case po_Play => k_is); (case sa_Play => k_is); (case n_Play_book => k_is); (case n_Play_deeds => k_is); (case n_Play_script => k_is); (case n_Play_state => k_is); (case n_Play_taken => k_is); (case n_Play_trail => k_is); (case m_DeedsError => k_is); (case kc_DeedsError => k_is); (case m_BookError => k_is); (case kc_BookError => k_is); (case xL_BookError => k_is); (case sa_BookError => k_is); (case ga_BookError => k_is); (case gg_BookError => k_is); (case eC_BookError => k_is); (case tC_BookError => k_is); (case hC_BookError => k_is); (case n_BookError_layer => k_is); (case m_Book => k_is); (case kc_Book => k_is); (case pg_Book => k_is); (case hd_Book => k_is); (case po_Book => k_is); (case sa_Book => k_is); (case n_Book_kernel => k_is); (case n_Book_layers => k_is); (case n_Book_numbers => k_is); (case n_Book_size => k_is); (case a0 => k_is); (case l0 => k_is); (case c0 => k_is); (case k0 => k_is); (case i0 => k_is); (case a1 => k_is); (case l1 => k_is); (case c1 => k_is); (case k1 => k_is); (case a2 => k_is); (case l2 => k_is); (case c2 => k_is); (case k2 => k_is); (case i2 => k_is); (case a3 => k_is); (case l3 => k_is); (case c3 => k_is); (case k3 => k_is); (case a4 => k_is); (case l4 => k_is); (case c4 => k_is); (case k4 => k_is); (case a5 => k_is); (case l5 => k_is); (case c5 => k_is); (case k5 => k_is); (case a6 => k_is); (case l6 => k_is); (case c6 => k_is); (case k6 => k_is); (case a7 => k_is); (case l7 => k_is); (case c7 => k_is); (case k7 => k_is); (case a8 => k_is); (case l8 => k_is); (case c8 => k_is); (case k8 => k_is); (case a9 => k_is); (case l9 => k_is); (case c9 => k_is); (case k9 => k_is); (case i9 => k_is); (case a10 => k_is); (case l10 => k_is); (case c10 => k_is); (case k10 => k_is); (case a11 => k_is); (case l11 => k_is); (case c11 => k_is); (case k11 => k_is); (case a12 => k_is); (case l12 => k_is); (case c12 => k_is); (case k12 => k_is); (case a13 => k_is); (case l13 => k_is); (case c13 => k_is); (case k13 => k_is); (case i13 => k_is); (case a14 => k_is); (case l14 => k_is); (case c14 => k_is); (case k14 => k_is); (case a15 => k_is); (case l15 => k_is); (case c15 => k_is); (case k15 => k_is); (case a16 => k_is); (case l16 => k_is); (case c16 => k_is); (case k16 => k_is); (case a17 => k_is); (case l17 => k_is); (case c17 => k_is); (case k17 => k_is); (case a18 => k_is); (case l18 => k_is); (case c18 => k_is); (case k18 => k_is); (case a19 => k_is); (case l19 => k_is); (case c19 => k_is); (case k19 => k_is); (case i19 => k_is); (case mk_Play => k_is); (case a20 => k_is); (case l20 => k_is); (case c20 => k_is); (case k20 => k_is); (case i20 => k_is); (case a21 => k_is); (case l21 => k_is); (case c21 => k_is); (case k21 => k_is); (case i21 => k_is); (case a22 => k_is); (case l22 => k_is); (case c22 => k_is); (case k22 => k_is); (case i22 => k_is); (case a23 => k_is); (case l23 => k_is); (case c23 => k_is); (case k23 => k_is); (case i23 => k_is); (case a24 => k_is); (case l24 => k_is); (case c24 => k_is); (case k24 => k_is); (case t24 => k_is); (case a25 => k_is); (case l25 => k_is); (case c25 => k_is); (case k25 => k_is); (case a26 => k_is); (case l26 => k_is); (case c26 => k_is); (case k26 => k_is); (case a27 => k_is); (case l27 => k_is); (case c27 => k_is); (case k27 => k_is); (case a28 => k_is); (case l28 => k_is); (case c28 => k_is); (case k28 => k_is); (case a29 => k_is); (case l29 => k_is); (case c29 => k_is); (case k29 => k_is); (case a30 => k_is); (case l30 => k_is); (case c30 => k_is); (case k30 => k_is); (case a31 => k_is); (case l31 => k_is); (case c31 => k_is); (case k31 => k_is); (case i31 => k_is); (case mk_Book => k_is); (case a32 => k_is); (case l32 => k_is); (case c32 => k_is); (case k32 => k_is); (case a33 => k_is); (case l33 => k_is); (case c33 => k_is); (case k33 => k_is); (case a34 => k_is); (case l34 => k_is); (case c34 => k_is); (case k34 => k_is); (case a35 => k_is); (case l35 => k_is); (case c35 => k_is); (case k35 => k_is); (case a36 => k_is); (case l36 => k_is); (case c36 => k_is); (case k36 => k_is); (case a37 => k_is); (case l37 => k_is); (case c37 => k_is); (case k37 => k_is); (case a38 => k_is); (case l38 => k_is); (case c38 => k_is); (case k38 => k_is); (case a39 => k_is); (case l39 => k_is); (case c39 => k_is); (case k39 => k_is); (case a40 => k_is); (case l40 => k_is); (case c40 => k_is); (case k40 => k_is); (case a41 => k_is); (case l41 => k_is); (case c41 => k_is); (case k41 => k_is); (case a42 => k_is); (case l42 => k_is); (case c42 => k_is); (case k42 => k_is); (case z_abs => k_is); (case z_bool => k_is); (case z_enumerate => k_is); (case z_int => k_is); (case z_isinstance => k_is); (case z_len => k_is); (case z_list => k_is); (case z_max => k_is); (case z_min => k_is); (case z_range => k_is); (case z_tuple => k_is); (case g_MOST_LAYERS => k_is); (case g_MOST_STATES => k_is); (case g_LAYER_WORDS => k_is); (case lk_LAYER_WORDS => k_is); (case zz_LAYER_WORDS => show 5 ≤ sizeLine; decide); (case vv_LAYER_WORDS => exact .cons ⟨_, rfl⟩ (.cons ⟨_, rfl⟩ (.cons ⟨_, rfl⟩ (.cons ⟨_, rfl⟩ (.cons ⟨_, rfl⟩ .nil))))); (case g_KERNELS => k_is); (case lk_KERNELS => k_is); (case kl_KERNELS => first | exact ⟨⟨_, _, rfl, rfl⟩, ⟨⟨_, _, rfl, rfl⟩, ⟨⟨_, _, rfl, rfl⟩, ⟨⟨_, _, rfl, rfl⟩, ⟨⟨_, _, rfl, rfl⟩, ⟨⟨_, _, rfl, rfl⟩, ⟨⟨_, _, rfl, rfl⟩, trivial⟩⟩⟩⟩⟩⟩⟩ | k_is); (case lw_KERNELS => first | rfl | decide | k_is); (case nk_KERNELS_0 => k_is); (case nk_KERNELS_1 => k_is); (case nk_KERNELS_2 => k_is); (case nk_KERNELS_3 => k_is); (case nk_KERNELS_4 => k_is); (case nk_KERNELS_5 => k_is); (case nk_KERNELS_6 => k_is)
