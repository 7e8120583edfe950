import PyProof.Rows.All
import Wide.All
import OpenK.AllK
import Wide.FinOn
import HandS.ForMost
import HandS.Evl
import HandS.Wide
import HandS.Gcd
import HandS.Style
import HandS.IsInst
import HandS.WordsExc
import HandS.ExcInit
import HandS.ExcField
import HandS.TryOnly
import HandS.ExcOwn
import HandS.Text
import HandS.StrMore
import HandS.Iter
import HandS.FStr
import HandS.RaiseMore
import HandS.ExcIs
import KE.KExcIs
import HandS.Walk
import HandS.Star
import HandS.TupAny
import HandS.TupMul
import HandS.Conv
import HandS.Sort
import HandS.More
import KE.DataMinMax
import KE.GoesEnum
import HandS.Zip
import KE.KUnpackStar
import HandS.NoneIn
import HandS.MapJoin
import KE.GoesMore
import PyProof.TupleOfGen
import HandS.TryMany
import KE.KIntText
import KE.KxLen
import KE.KxText
import PyProof.StrLawsTight
import PyProof.StrLawsChain
import PyProof.Rows.StrItems
import PySem.Challenge.RW_besideandthrough_k00_book_texts
set_option Elab.async false
set_option linter.all false
set_option maxRecDepth 100000
set_option maxHeartbeats 4000000
/-! Data over the hand layer: values as trees of data, frozen in a part F of the heap; lists that a def owns stand in its slots. -/
namespace DL
open PySem L2
open Evl (Ex)

/-- a value as data -/
inductive D where
  | non | bl (b : Bool) | int (i : Int) | str (x : Str) | tup (xs : List D) | lst (xs : List D) | scr (ns : List Int) | ref (a : Addr) | rng (lo hi : Int)

mutual
def Rp (K : PySem.W.Frag) (F : Hp) : D → V → Prop
  | .non, v => v = .non
  | .bl b, v => v = .bl b
  | .int i, v => v = .int i
  | .str x, v => v = .str x
  | .tup ds, v => ∃ a vs, v = .ref a ∧ SqT K F a vs ∧ Rps K F ds vs
  | .lst ds, v => ∃ a vs, v = .ref a ∧ F a = some (.lst vs) ∧ Rps K F ds vs
  | .scr ns, v => ∃ a, v = .ref a ∧ SqL K F a (ns.map V.int)
  | .ref a, v => v = .ref a
  | .rng lo hi, v => ∃ a, v = .ref a ∧ F a = some (.rng lo hi)
def Rps (K : PySem.W.Frag) (F : Hp) : List D → List V → Prop
  | [], vs => vs = []
  | d :: ds, vs => ∃ v r, vs = v :: r ∧ Rp K F d v ∧ Rps K F ds r
end

section
variable {K : PySem.W.Frag} {F F' : Hp}
mutual
theorem rp_mono (e : Ex F F') : ∀ (d : D) (v : V), Rp K F d v → Rp K F' d v
  | .non, _, h => h
  | .bl _, _, h => h
  | .int _, _, h => h
  | .str _, _, h => h
  | .tup ds, v, h => by
    obtain ⟨a, vs, e1, h1, h2⟩ := h
    exact ⟨a, vs, e1, Evl.ex_t e h1, rps_mono e ds vs h2⟩
  | .lst ds, v, h => by
    obtain ⟨a, vs, e1, h1, h2⟩ := h
    exact ⟨a, vs, e1, e _ _ h1, rps_mono e ds vs h2⟩
  | .scr ns, v, h => by
    obtain ⟨a, e1, h1⟩ := h
    exact ⟨a, e1, Evl.ex_l e h1⟩
  | .ref _, _, h => h
  | .rng _ _, v, h => by
    obtain ⟨a, e1, h1⟩ := h
    exact ⟨a, e1, e _ _ h1⟩
theorem rps_mono (e : Ex F F') : ∀ (ds : List D) (vs : List V), Rps K F ds vs → Rps K F' ds vs
  | [], _, h => h
  | d :: ds, vs, h => by
    obtain ⟨v, r, e1, h1, h2⟩ := h
    exact ⟨v, r, e1, rp_mono e d v h1, rps_mono e ds r h2⟩
end
theorem rps_len : ∀ {ds : List D} {vs : List V}, Rps K F ds vs → vs.length = ds.length
  | [], vs, h => by
    rw [show vs = [] from h]
    rfl
  | d :: ds, vs, h => by
    obtain ⟨v, r, e1, h1, h2⟩ := h
    rw [e1, List.length_cons, List.length_cons, rps_len h2]
theorem rps_get : ∀ {ds : List D} {vs : List V} {i : Nat} {d : D}, Rps K F ds vs → ds[i]? = some d → ∃ v, vs[i]? = some v ∧ Rp K F d v
  | [], _, _, _, _, h => by simp at h
  | d :: ds, vs, 0, e, h, h' => by
    obtain ⟨v, r, e1, h1, h2⟩ := h
    have : d = e := by simpa using h'
    subst this
    exact ⟨v, by rw [e1] <;> rfl, h1⟩
  | d :: ds, vs, i + 1, e, h, h' => by
    obtain ⟨v, r, e1, h1, h2⟩ := h
    obtain ⟨w, h3, h4⟩ := rps_get (i := i) h2 (by simpa using h')
    exact ⟨w, by rw [e1]; simpa using h3, h4⟩
theorem rps_get' : ∀ {ds : List D} {vs : List V} {i : Nat} {v : V}, Rps K F ds vs → vs[i]? = some v → ∃ d, ds[i]? = some d ∧ Rp K F d v := fun {ds vs i v} h h' => by
  have hl := rps_len h
  have hi : i < vs.length := (List.getElem?_eq_some_iff.mp h').1
  have hd : ds[i]? = some ds[i] := List.getElem?_eq_getElem (by omega)
  obtain ⟨w, h1, h2⟩ := rps_get h hd
  rw [h'] at h1
  cases h1
  exact ⟨_, hd, h2⟩
theorem rps_app : ∀ {ds es : List D} {vs ws : List V}, Rps K F ds vs → Rps K F es ws → Rps K F (ds ++ es) (vs ++ ws)
  | [], _, vs, _, h, h' => by
    rw [show vs = [] from h]
    exact h'
  | d :: ds, es, vs, ws, h, h' => by
    obtain ⟨v, r, e1, h1, h2⟩ := h
    exact ⟨v, r ++ ws, by rw [e1] <;> rfl, h1, rps_app h2 h'⟩
theorem rps_one {d : D} {v : V} (h : Rp K F d v) : Rps K F [d] [v] := ⟨v, [], rfl, h, rfl⟩
theorem rps_ints : ∀ (ns : List Int) (vs : List V), Rps K F (ns.map D.int) vs → vs = ns.map V.int
  | [], _, h => h
  | n :: ns, vs, h => by
    obtain ⟨v, r, e1, h1, h2⟩ := h
    rw [e1, show v = V.int n from h1, rps_ints ns r h2] <;> rfl
theorem ints_rps : ∀ (ns : List Int), Rps K F (ns.map D.int) (ns.map V.int)
  | [] => rfl
  | n :: ns => ⟨.int n, ns.map V.int, rfl, rfl, ints_rps ns⟩
theorem rps_take : ∀ {ds : List D} {vs : List V} (n : Nat), Rps K F ds vs → Rps K F (ds.take n) (vs.take n)
  | [], vs, n, h => by
    rw [show vs = [] from h]
    cases n <;> rfl
  | d :: ds, vs, 0, h => by
    rw [List.take_zero, List.take_zero]
    rfl
  | d :: ds, vs, n + 1, h => by
    obtain ⟨v, r, e1, h1, h2⟩ := h
    rw [e1]
    exact ⟨v, r.take n, rfl, h1, rps_take n h2⟩
theorem rps_drop : ∀ {ds : List D} {vs : List V} (n : Nat), Rps K F ds vs → Rps K F (ds.drop n) (vs.drop n)
  | [], vs, n, h => by
    rw [show vs = [] from h]
    cases n <;> rfl
  | d :: ds, vs, 0, h => h
  | d :: ds, vs, n + 1, h => by
    obtain ⟨v, r, e1, h1, h2⟩ := h
    rw [e1]
    exact rps_drop n h2
theorem rps_set : ∀ {ds : List D} {vs : List V} {d : D} {v : V} (i : Nat), Rps K F ds vs → Rp K F d v → Rps K F (ds.set i d) (vs.set i v)
  | [], vs, d, v, i, h, h' => by
    rw [show vs = [] from h]
    rfl
  | e :: ds, vs, d, v, 0, h, h' => by
    obtain ⟨w, r, e1, h1, h2⟩ := h
    rw [e1]
    exact ⟨v, r, rfl, h', h2⟩
  | e :: ds, vs, d, v, i + 1, h, h' => by
    obtain ⟨w, r, e1, h1, h2⟩ := h
    rw [e1]
    exact ⟨w, r.set i v, rfl, h1, rps_set i h2 h'⟩
end

/-! ### memory that may change, frames -/
inductive OD where
  | lst (ds : List D) | ins (C : Addr) (fs : List (Str × D)) | dct (kvs : List (Key × D))
abbrev Mem := Addr → Option OD
def RpO (K : PySem.W.Frag) (F : Hp) : OD → Option HO → Prop
  | .lst ds, h => ∃ vs, h = some (.lst vs) ∧ Rps K F ds vs
  | .ins C fs, h => ∃ dx vfs, h = some (.ins C dx vfs) ∧ vfs.map Prod.fst = fs.map Prod.fst ∧ Rps K F (fs.map Prod.snd) (vfs.map Prod.snd)
  | .dct kvs, h => ∃ vs, h = some (.dK vs) ∧ vs.map Prod.fst = kvs.map Prod.fst ∧ Rps K F (kvs.map Prod.snd) (vs.map Prod.snd)
theorem RpO.mono {K : PySem.W.Frag} {F F' : Hp} (e : Ex F F') {o : OD} {h : Option HO} (x : RpO K F o h) : RpO K F' o h := by
  cases o with
  | lst ds =>
    obtain ⟨vs, e1, h1⟩ := x
    exact ⟨vs, e1, rps_mono e _ _ h1⟩
  | ins C fs =>
    obtain ⟨dx, vfs, e1, h0, h1⟩ := x
    exact ⟨dx, vfs, e1, h0, rps_mono e _ _ h1⟩
  | dct kvs =>
    obtain ⟨vs, e1, h0, h1⟩ := x
    exact ⟨vs, e1, h0, rps_mono e _ _ h1⟩
theorem RpO.some {K : PySem.W.Frag} {F : Hp} {o : OD} {h : Option HO} (x : RpO K F o h) : ∃ u, h = some u := by
  cases o with
  | lst ds =>
    obtain ⟨vs, e1, h1⟩ := x
    exact ⟨_, e1⟩
  | ins C fs =>
    obtain ⟨dx, vfs, e1, h0, h1⟩ := x
    exact ⟨_, e1⟩
  | dct kvs =>
    obtain ⟨vs, e1, h0, h1⟩ := x
    exact ⟨_, e1⟩

/-- what stays: the rest R of the heap, what was frozen at the entry -/
structure Zx where
  R : Hp
  F0 : Hp
structure Bs (K : PySem.W.Frag) (Z : Zx) (M : Mem) (H F : Hp) : Prop where
  f0 : Ex Z.F0 F
  fH : Ex F H
  rH : Ex Z.R H
  fr : ∀ a o, F a = some o → Z.R a = none
  mm : ∀ a o, M a = some o → F a = none ∧ Z.R a = none ∧ RpO K F o (H a)

inductive Sl where
  | un | d (d : D) | own (ds : List D)
def SlotOk (K : PySem.W.Frag) (Z : Zx) (F : Hp) (M : Mem) (H : Hp) (o : Option (Option V)) : Sl → Prop
  | .un => True
  | .d d => ∃ v, o = some (some v) ∧ Rp K F d v
  | .own ds => ∃ a vs, o = some (some (.ref a)) ∧ H a = some (.lst vs) ∧ Rps K F ds vs ∧ F a = none ∧ Z.R a = none ∧ M a = none
structure Cn (K : PySem.W.Frag) (Z : Zx) (M : Mem) (σ : L2.St) (H : Hp) (Δ : List Sl) (F : Hp) : Prop where
  bs : Bs K Z M H F
  len : Δ.length = σ.length
  slot : ∀ (i : Nat) (s : Sl), Δ[i]? = some s → SlotOk K Z F M H σ[i]? s
  sep : ∀ (i j : Nat) (a : Addr) (ds es : List D), i ≠ j → Δ[i]? = some (.own ds) → Δ[j]? = some (.own es) → σ[i]? = some (some (.ref a)) → σ[j]? = some (some (.ref a)) → False

section
variable {K : PySem.W.Frag} {Z : Zx} {M : Mem} {σ : L2.St} {H F : Hp} {Δ : List Sl} {p : Addr} {o : HO}
theorem Bs.new (b : Bs K Z M H F) (hp : H p = none) (o : HO) : Bs K Z M (upd H p o) (upd F p o) where
  f0 := b.f0.trans (Ex.new (by
    cases h : F p with
    | none => rfl
    | some u => rw [b.fH p u h] at hp; cases hp))
  fH := fun a u h => by
    by_cases e : a = p
    · subst e; rw [upd_same] at h ⊢; exact h
    · rw [upd_ne e] at h ⊢; exact b.fH a u h
  rH := b.rH.trans (Ex.new hp)
  fr := fun a u h => by
    by_cases e : a = p
    · subst e
      cases h : Z.R a with
      | none => rfl
      | some u => rw [b.rH a u h] at hp; cases hp
    · rw [upd_ne e] at h; exact b.fr a u h
  mm := fun a u h => by
    obtain ⟨h1, h2, h3⟩ := b.mm a u h
    obtain ⟨v, hv⟩ := h3.some
    have e : a ≠ p := ne_of_none hv hp
    have eF : Ex F (upd F p o) := Ex.new (by
      cases h : F p with
      | none => rfl
      | some u => rw [b.fH p u h] at hp; cases hp)
    exact ⟨by rw [upd_ne e]; exact h1, h2, by rw [upd_ne e]; exact h3.mono eF⟩
theorem Bs.freeF (b : Bs K Z M H F) (hp : H p = none) : F p = none := by
  cases h : F p with
  | none => rfl
  | some u => rw [b.fH p u h] at hp; cases hp
theorem Bs.freeR (b : Bs K Z M H F) (hp : H p = none) : Z.R p = none := by
  cases h : Z.R p with
  | none => rfl
  | some u => rw [b.rH p u h] at hp; cases hp
theorem Bs.freeM (b : Bs K Z M H F) (hp : H p = none) : M p = none := by
  cases h : M p with
  | none => rfl
  | some u =>
    obtain ⟨h1, h2, h3⟩ := b.mm p u h
    obtain ⟨v, hv⟩ := h3.some
    rw [hp] at hv; cases hv
theorem Bs.newH (b : Bs K Z M H F) (hp : H p = none) (o : HO) : Bs K Z M (upd H p o) F where
  f0 := b.f0
  fH := b.fH.trans (Ex.new hp)
  rH := b.rH.trans (Ex.new hp)
  fr := b.fr
  mm := fun a u h => by
    obtain ⟨h1, h2, h3⟩ := b.mm a u h
    obtain ⟨v, hv⟩ := h3.some
    exact ⟨h1, h2, by rw [upd_ne (ne_of_none hv hp)]; exact h3⟩
theorem Bs.exF (b : Bs K Z M H F) (hp : H p = none) (o : HO) : Ex F (upd F p o) := Ex.new (b.freeF hp)

theorem SlotOk.mono {H' F' : Hp} {so : Option (Option V)} {s : Sl} (h : SlotOk K Z F M H so s) (eF : Ex F F') (hO : ∀ a vs, H a = some (.lst vs) → F a = none → Z.R a = none → M a = none → F' a = none ∧ H' a = some (.lst vs)) : SlotOk K Z F' M H' so s := by
  cases s with
  | un => exact True.intro
  | d d =>
    obtain ⟨v, e, r⟩ := h
    exact ⟨v, e, rp_mono eF _ _ r⟩
  | own ds =>
    obtain ⟨a, vs, e, h1, h2, h3, h4, h5⟩ := h
    obtain ⟨q1, q2⟩ := hO a vs h1 h3 h4 h5
    exact ⟨a, vs, e, q2, rps_mono eF _ _ h2, q1, h4, h5⟩
/-- a new object is laid and frozen -/
theorem Cn.new (c : Cn K Z M σ H Δ F) (hp : H p = none) (o : HO) : Cn K Z M σ (upd H p o) Δ (upd F p o) where
  bs := c.bs.new hp o
  len := c.len
  slot := fun i s h => (c.slot i s h).mono (c.bs.exF hp o) fun a vs h1 h2 _ _ => by
    have e : a ≠ p := ne_of_none h1 hp
    rw [upd_ne e, upd_ne e]
    exact ⟨h2, h1⟩
  sep := c.sep
theorem Cn.newH (c : Cn K Z M σ H Δ F) (hp : H p = none) (o : HO) : Cn K Z M σ (upd H p o) Δ F where
  bs := c.bs.newH hp o
  len := c.len
  slot := fun i s h => (c.slot i s h).mono (Ex.refl _) fun a vs h1 h2 _ _ => by
    have e : a ≠ p := ne_of_none h1 hp
    rw [upd_ne e]
    exact ⟨h2, h1⟩
  sep := c.sep
theorem get_set {α : Type} {xs : List α} {i j : Nat} {x y : α} (h : (xs.set i x)[j]? = some y) : (i = j ∧ i < xs.length ∧ y = x) ∨ (i ≠ j ∧ xs[j]? = some y) := by
  by_cases e : i = j
  · subst e
    left
    by_cases hl : i < xs.length
    · rw [List.getElem?_set_self hl] at h
      exact ⟨rfl, hl, (Option.some.inj h).symm⟩
    · rw [List.getElem?_eq_none_iff.mpr (by rw [List.length_set]; omega)] at h
      cases h
  · right
    rw [List.getElem?_set_ne e] at h
    exact ⟨e, h⟩
/-- a slot is stored -/
theorem Cn.set (c : Cn K Z M σ H Δ F) {d : D} {v : V} (r : Rp K F d v) (i : Nat) : Cn K Z M (σ.set i (some v)) H (Δ.set i (.d d)) F where
  bs := c.bs
  len := by rw [List.length_set, List.length_set, c.len]
  slot := fun j s h => by
    rcases get_set h with ⟨e, hl, e2⟩ | ⟨e, h'⟩
    · subst e e2
      exact ⟨v, by rw [List.getElem?_set_self (by rw [← c.len]; exact hl)], r⟩
    · have q := c.slot j s h'
      rw [List.getElem?_set_ne e]
      exact q
  sep := fun j l a ds es hne h1 h2 h3 h4 => by
    rcases get_set h1 with ⟨_, _, e⟩ | ⟨n1, h1'⟩
    · cases e
    rcases get_set h2 with ⟨_, _, e⟩ | ⟨n2, h2'⟩
    · cases e
    rw [List.getElem?_set_ne n1] at h3
    rw [List.getElem?_set_ne n2] at h4
    exact c.sep j l a ds es hne h1' h2' h3 h4
/-- a slot is stored with a list that is new and its own -/
theorem Cn.setOwn (c : Cn K Z M σ H Δ F) {ds : List D} {vs : List V} (hp : H p = none) (r : Rps K F ds vs) (i : Nat) : Cn K Z M (σ.set i (some (.ref p))) (upd H p (.lst vs)) (Δ.set i (.own ds)) F where
  bs := c.bs.newH hp _
  len := by rw [List.length_set, List.length_set, c.len]
  slot := fun j s h => by
    rcases get_set h with ⟨e, hl, e2⟩ | ⟨e, h'⟩
    · subst e e2
      exact ⟨p, vs, by rw [List.getElem?_set_self (by rw [← c.len]; exact hl)], upd_same, r, c.bs.freeF hp, c.bs.freeR hp, c.bs.freeM hp⟩
    · have q := (c.newH hp (.lst vs)).slot j s h'
      rw [List.getElem?_set_ne e]
      exact q
  sep := fun j l a es fs hne h1 h2 h3 h4 => by
    have other : ∀ (j : Nat) (es : List D) (a : Addr), Δ[j]? = some (.own es) → σ[j]? = some (some (.ref a)) → a ≠ p := fun j es a h h' => by
      obtain ⟨b, ws, e1, e2, _⟩ := c.slot j _ h
      rw [h'] at e1
      cases e1
      exact ne_of_none e2 hp
    rcases get_set h1 with ⟨e1, l1, e1'⟩ | ⟨n1, h1'⟩
    · subst e1
      rcases get_set h2 with ⟨e2, _, _⟩ | ⟨n2, h2'⟩
      · exact hne e2
      rw [List.getElem?_set_ne n2] at h4
      rw [List.getElem?_set_self (by rw [← c.len]; exact l1)] at h3
      cases h3
      exact other l fs _ h2' h4 rfl
    · rw [List.getElem?_set_ne n1] at h3
      rcases get_set h2 with ⟨e2, l2, e2'⟩ | ⟨n2, h2'⟩
      · subst e2
        rw [List.getElem?_set_self (by rw [← c.len]; exact l2)] at h4
        cases h4
        exact other j es _ h1' h3 rfl
      · rw [List.getElem?_set_ne n2] at h4
        exact c.sep j l a es fs hne h1' h2' h3 h4
/-- a slot is forgotten -/
theorem Cn.drop (c : Cn K Z M σ H Δ F) (i : Nat) : Cn K Z M σ H (Δ.set i .un) F where
  bs := c.bs
  len := by rw [List.length_set, c.len]
  slot := fun j s h => by
    rcases get_set h with ⟨e, hl, e2⟩ | ⟨e, h'⟩
    · subst e2; exact True.intro
    · exact c.slot j s h'
  sep := fun j l a ds es hne h1 h2 h3 h4 => by
    rcases get_set h1 with ⟨_, _, e⟩ | ⟨n1, h1'⟩
    · cases e
    rcases get_set h2 with ⟨_, _, e⟩ | ⟨n2, h2'⟩
    · cases e
    exact c.sep j l a ds es hne h1' h2' h3 h4
/-- an own list becomes data -/
theorem Cn.freeze (c : Cn K Z M σ H Δ F) {i : Nat} {ds : List D} {a : Addr} {vs : List V} (hi : Δ[i]? = some (.own ds)) (hσ : σ[i]? = some (some (.ref a))) (hH : H a = some (.lst vs)) (r : Rps K F ds vs) (hF : F a = none) (hR : Z.R a = none) (hM : M a = none) :
    Cn K Z M σ H (Δ.set i (.d (.lst ds))) (upd F a (.lst vs)) where
  bs := {
    f0 := c.bs.f0.trans (Ex.new hF)
    fH := fun b u h => by
      by_cases e : b = a
      · subst e; rw [upd_same] at h; rw [hH]; exact h
      · rw [upd_ne e] at h; exact c.bs.fH b u h
    rH := c.bs.rH
    fr := fun b u h => by
      by_cases e : b = a
      · subst e; exact hR
      · rw [upd_ne e] at h; exact c.bs.fr b u h
    mm := fun b u h => by
      obtain ⟨h1, h2, h3⟩ := c.bs.mm b u h
      have e : b ≠ a := fun e => by
        subst e; rw [hM] at h; cases h
      exact ⟨by rw [upd_ne e]; exact h1, h2, h3.mono (Ex.new hF)⟩ }
  len := by rw [List.length_set, c.len]
  slot := fun j s h => by
    rcases get_set h with ⟨e, hl, e2⟩ | ⟨e, h'⟩
    · subst e e2
      exact ⟨.ref a, hσ, a, vs, rfl, upd_same, rps_mono (Ex.new hF) _ _ r⟩
    · have q := c.slot j s h'
      cases s with
      | un => exact True.intro
      | d d =>
        obtain ⟨v, e1, r1⟩ := q
        exact ⟨v, e1, rp_mono (Ex.new hF) _ _ r1⟩
      | own es =>
        obtain ⟨b, ws, e1, h1, h2, h3, h4, h5⟩ := q
        have hb : b ≠ a := fun e2 => by
          subst e2
          exact c.sep i j b ds es e hi h' hσ e1
        exact ⟨b, ws, e1, h1, rps_mono (Ex.new hF) _ _ h2, by rw [upd_ne hb]; exact h3, h4, h5⟩
  sep := fun j l b es fs hne h1 h2 h3 h4 => by
    rcases get_set h1 with ⟨_, _, e⟩ | ⟨n1, h1'⟩
    · cases e
    rcases get_set h2 with ⟨_, _, e⟩ | ⟨n2, h2'⟩
    · cases e
    exact c.sep j l b es fs hne h1' h2' h3 h4
/-- an own list changes -/
theorem Cn.change (c : Cn K Z M σ H Δ F) {i : Nat} {ds es : List D} {a : Addr} {vs : List V} (hi : Δ[i]? = some (.own ds)) (hσ : σ[i]? = some (some (.ref a))) (hF : F a = none) (hR : Z.R a = none) (hM : M a = none) (r : Rps K F es vs) :
    Cn K Z M σ (upd H a (.lst vs)) (Δ.set i (.own es)) F where
  bs := {
    f0 := c.bs.f0
    fH := fun b u h => by
      have e : b ≠ a := fun e => by subst e; rw [hF] at h; cases h
      rw [upd_ne e]; exact c.bs.fH b u h
    rH := fun b u h => by
      have e : b ≠ a := fun e => by subst e; rw [hR] at h; cases h
      rw [upd_ne e]; exact c.bs.rH b u h
    fr := c.bs.fr
    mm := fun b u h => by
      have e : b ≠ a := fun e => by subst e; rw [hM] at h; cases h
      rw [upd_ne e]; exact c.bs.mm b u h }
  len := by rw [List.length_set, c.len]
  slot := fun j s h => by
    rcases get_set h with ⟨e, hl, e2⟩ | ⟨e, h'⟩
    · subst e e2
      exact ⟨a, vs, hσ, upd_same, r, hF, hR, hM⟩
    · have q := c.slot j s h'
      cases s with
      | un => exact True.intro
      | d d => exact q
      | own fs =>
        obtain ⟨b, ws, e1, h1, h2, h3, h4, h5⟩ := q
        have hb : b ≠ a := fun e2 => by
          subst e2
          exact c.sep i j b ds fs e hi h' hσ e1
        exact ⟨b, ws, e1, by rw [upd_ne hb]; exact h1, h2, h3, h4, h5⟩
  sep := fun j l b fs gs hne h1 h2 h3 h4 => by
    rcases get_set h1 with ⟨e1, l1, e1'⟩ | ⟨n1, h1'⟩
    · subst e1
      rcases get_set h2 with ⟨e2, _, _⟩ | ⟨n2, h2'⟩
      · exact hne e2
      · exact c.sep i l b ds gs hne hi h2' h3 h4
    · rcases get_set h2 with ⟨e2, l2, e2'⟩ | ⟨n2, h2'⟩
      · subst e2
        exact c.sep j i b fs ds hne h1' hi h3 h4
      · exact c.sep j l b fs gs hne h1' h2' h3 h4
end
end DL

set_option Elab.async false
set_option linter.all false
set_option maxRecDepth 100000
set_option maxHeartbeats 4000000
namespace DL
open PySem L2
open Evl (Ex)

/-! ### readings over data -/
abbrev RE := List Sl → Mem → (D → List Sl → Mem → Prop) → Prop
abbrev RT := List Sl → Mem → (Bool → List Sl → Mem → Prop) → Prop
abbrev RA := List Sl → Mem → (List D → List Sl → Mem → Prop) → Prop
structure DE where
  nx : List Sl → Mem → Prop
  rt : D → Mem → Prop
  bk : List Sl → Mem → Prop := fun _ _ => False
  ct : List Sl → Mem → Prop := fun _ _ => False
abbrev RS := DE → List Sl → Mem → Prop

def Sim (K : PySem.W.Frag) (Z : Zx) (t : TE) (r : RE) : Prop := ∀ (M : Mem) (σ : L2.St) (H : Hp) (Δ : List Sl) (F : Hp) (Φ : D → List Sl → Mem → Prop), Cn K Z M σ H Δ F → r Δ M Φ →
  ∀ Q : VK, (∀ v H' d Δ' M' F', Ex F F' → Cn K Z M' σ H' Δ' F' → Rp K F' d v → Φ d Δ' M' → Q v H') → t σ H Q
def SimT (K : PySem.W.Frag) (Z : Zx) (t : TT) (r : RT) : Prop := ∀ (M : Mem) (σ : L2.St) (H : Hp) (Δ : List Sl) (F : Hp) (Φ : Bool → List Sl → Mem → Prop), Cn K Z M σ H Δ F → r Δ M Φ →
  ∀ Q : Bool → Hp → Prop, (∀ b H' Δ' M' F', Ex F F' → Cn K Z M' σ H' Δ' F' → Φ b Δ' M' → Q b H') → t σ H Q
def SimA (K : PySem.W.Frag) (Z : Zx) (n : Nat) (t : TA) (r : RA) : Prop := ∀ (M : Mem) (σ : L2.St) (H : Hp) (Δ : List Sl) (F : Hp) (Φ : List D → List Sl → Mem → Prop), Cn K Z M σ H Δ F → r Δ M Φ →
  ∀ Q : List V → Hp → Prop, (∀ vs H' ds Δ' M' F', Ex F F' → Cn K Z M' σ H' Δ' F' → Rps K F' ds vs → ds.length = n → Φ ds Δ' M' → Q vs H') → t σ H Q
/-- what the concrete ends must take, from the frozen part F on -/
structure EndsOk (K : PySem.W.Frag) (Z : Zx) (F : Hp) (De : DE) (Dv : Ends) : Prop where
  nx : ∀ σ' H' Δ' M' F', Ex F F' → Cn K Z M' σ' H' Δ' F' → De.nx Δ' M' → Dv.nx σ' H'
  rt : ∀ v H' d M' F', Ex F F' → Bs K Z M' H' F' → Rp K F' d v → De.rt d M' → Dv.rt v H'
  bk : ∀ σ' H' Δ' M' F', Ex F F' → Cn K Z M' σ' H' Δ' F' → De.bk Δ' M' → Dv.bk σ' H'
  ct : ∀ σ' H' Δ' M' F', Ex F F' → Cn K Z M' σ' H' Δ' F' → De.ct Δ' M' → Dv.ct σ' H'
theorem EndsOk.mono {K : PySem.W.Frag} {Z : Zx} {F F1 : Hp} {De : DE} {Dv : Ends} (e : Ex F F1) (ok : EndsOk K Z F De Dv) : EndsOk K Z F1 De Dv :=
  ⟨fun σ' H' Δ' M' F' e1 => ok.nx σ' H' Δ' M' F' (e.trans e1), fun v H' d M' F' e1 => ok.rt v H' d M' F' (e.trans e1), fun σ' H' Δ' M' F' e1 => ok.bk σ' H' Δ' M' F' (e.trans e1), fun σ' H' Δ' M' F' e1 => ok.ct σ' H' Δ' M' F' (e.trans e1)⟩
def SimS (K : PySem.W.Frag) (Z : Zx) (t : TS) (r : RS) : Prop := ∀ (M : Mem) (σ : L2.St) (H : Hp) (Δ : List Sl) (F : Hp) (De : DE), Cn K Z M σ H Δ F → r De Δ M → ∀ Dv : Ends, EndsOk K Z F De Dv → t Dv σ H

def QE (X : Cx) (Z : Zx) (e : Expr) (r : RE) : Prop := ∃ t, PE X e t ∧ Sim X.K Z t r
def QT (X : Cx) (Z : Zx) (e : Expr) (r : RT) : Prop := ∃ t, PT X e t ∧ SimT X.K Z t r
def QW (X : Cx) (Z : Zx) (e : Expr) (r : RT) : Prop := ∃ t, PW X e t ∧ SimT X.K Z t r
def QA (X : Cx) (Z : Zx) (n : Nat) (es : List Expr) (r : RA) : Prop := ∃ t, PA X es t ∧ SimA X.K Z n t r
def QS (X : Cx) (Z : Zx) (s : Stmt) (r : RS) : Prop := ∃ t, PS X s t ∧ SimS X.K Z t r
def QSs (X : Cx) (Z : Zx) (s : List Stmt) (r : RS) : Prop := ∃ t, PSs X s t ∧ SimS X.K Z t r

section
variable {X : Cx} {Z : Zx} {e a b c : Expr} {ra rb rc r : RE} {pos : Pos}

/-! ### names, constants -/
/-- the value in a slot; an own list becomes data -/
def dVar (i : Nat) : RE := fun Δ M Φ => match Δ[i]? with
  | some (.d d) => Φ d Δ M
  | some (.own ds) => Φ (.lst ds) (Δ.set i (.d (.lst ds))) M
  | _ => False
def dC (d : D) : RE := fun Δ M Φ => Φ d Δ M
theorem sim_var {K : PySem.W.Frag} {i : Nat} : Sim K Z (tVar i) (dVar i) := by
  intro M σ H Δ F Φ c h Q q
  unfold dVar at h
  cases hs : Δ[i]? with
  | none => rw [hs] at h; exact h.elim
  | some s =>
    rw [hs] at h
    have k := c.slot i s hs
    cases s with
    | un => exact h.elim
    | d d =>
      obtain ⟨v, e, r⟩ := k
      exact ⟨v, e, q v H d Δ M F (Ex.refl _) c r h⟩
    | own ds =>
      obtain ⟨p, vs, e, h1, h2, h3, h4, h5⟩ := k
      exact ⟨.ref p, e, q _ H (.lst ds) _ M (upd F p (.lst vs)) (Ex.new h3) (c.freeze hs e h1 h2 h3 h4 h5) ⟨p, vs, rfl, upd_same, rps_mono (Ex.new h3) _ _ h2⟩ h⟩
theorem qe_var (i : Nat) {x : Str} (hN : X.N[i]? = some x := by rfl) (hv : Vis X.env.scope x := by first | exact Or.inl rfl | exact Or.inr (Or.inl rfl) | exact Or.inr (Or.inr rfl)) (hd : (x == ("__debug__" : Str)) = false := by decide)
    (hcd : (x == ("__classdict__" : Str)) = false := by decide) : QE X Z (.Name x pos) (dVar i) := ⟨_, pe_var hN hv hd hcd, sim_var⟩
theorem sim_c {K : PySem.W.Frag} {v : V} {d : D} (h : ∀ F, Rp K F d v) : Sim K Z (tC v) (dC d) := fun M σ H Δ F Φ c k Q q => q v H d Δ M F (Ex.refl _) c (h F) k
theorem qe_int {i j} : QE X Z (.Constant (.int i) j pos) (dC (.int i)) := ⟨_, pe_int, sim_c fun _ => rfl⟩
theorem qe_bl {b j} : QE X Z (.Constant (.bool b) j pos) (dC (.bl b)) := ⟨_, pe_bl, sim_c fun _ => rfl⟩
theorem qe_non {j} : QE X Z (.Constant .none j pos) (dC .non) := ⟨_, pe_non, sim_c fun _ => rfl⟩
theorem qe_str {x j} : QE X Z (.Constant (.str x) j pos) (dC (.str x)) := ⟨_, pe_str, sim_c fun _ => rfl⟩

/-! ### two-place operations -/
/-- an operation on data: dr x y Φ asks, then hands on a value; nothing but new frozen objects is made -/
def OpD (K : PySem.W.Frag) (rv : R2) (dr : D → D → (D → Prop) → Prop) : Prop := ∀ (Z : Zx) (M : Mem) (σ : L2.St) (H : Hp) (Δ : List Sl) (F : Hp) (x y : D) (v w : V) (Φ : D → Prop), Cn K Z M σ H Δ F → Rp K F x v → Rp K F y w → dr x y Φ →
  ∀ Q : VK, (∀ u H' d F', Ex F F' → Cn K Z M σ H' Δ F' → Rp K F' d u → Φ d → Q u H') → rv v w H Q
def dOp (dr : D → D → (D → Prop) → Prop) (ra rb : RE) : RE := fun Δ M Φ => ra Δ M fun x Δ1 M1 => rb Δ1 M1 fun y Δ2 M2 => dr x y fun d => Φ d Δ2 M2
theorem sim_op {K : PySem.W.Frag} {rv : R2} {dr : D → D → (D → Prop) → Prop} {ta tb : TE} (ho : OpD K rv dr) (ha : Sim K Z ta ra) (hb : Sim K Z tb rb) : Sim K Z (tOp rv ta tb) (dOp dr ra rb) := by
  intro M σ H Δ F Φ c h Q q
  refine ha M σ H Δ F _ c h _ fun v H1 x Δ1 M1 F1 e1 c1 r1 h1 => ?_
  refine hb M1 σ H1 Δ1 F1 _ c1 h1 _ fun w H2 y Δ2 M2 F2 e2 c2 r2 h2 => ?_
  exact ho Z M2 σ H2 Δ2 F2 x y v w _ c2 (rp_mono e2 _ _ r1) r2 h2 Q fun u H3 d F3 e3 c3 r3 h3 => q u H3 d Δ2 M2 F3 ((e1.trans e2).trans e3) c3 r3 h3
theorem OpD.or {K : PySem.W.Frag} {r1 r2 : R2} {d1 d2 dr : D → D → (D → Prop) → Prop} (h1 : OpD K r1 d1) (h2 : OpD K r2 d2) (h : ∀ x y Φ, dr x y Φ → d1 x y Φ ∨ d2 x y Φ) : OpD K (fun x y H Q => r1 x y H Q ∨ r2 x y H Q) dr := by
  intro Z M σ H Δ F x y v w Φ c rx ry k Q q
  rcases h x y Φ k with k | k
  · exact .inl (h1 Z M σ H Δ F x y v w Φ c rx ry k Q q)
  · exact .inr (h2 Z M σ H Δ F x y v w Φ c rx ry k Q q)
theorem qe_bin {op : Operator} {rv : R2} {dr : D → D → (D → Prop) → Prop} (ho : OpR X (binaryOp op) rv) (hd : OpD X.K rv dr) (ha : QE X Z a ra) (hb : QE X Z b rb) : QE X Z (.BinOp a op b pos) (dOp dr ra rb) := by
  obtain ⟨ta, pa, sa⟩ := ha
  obtain ⟨tb, pb, sb⟩ := hb
  exact ⟨_, pe_op ho pa pb, sim_op hd sa sb⟩
theorem qe_cmp {op : CmpOp} {rv : R2} {dr : D → D → (D → Prop) → Prop} (ho : OpR X (compareOp op) rv) (hd : OpD X.K rv dr) (ha : QE X Z a ra) (hb : QE X Z b rb) (hm : behindInMarks op b = false := by first | exact nobehind _ (by decide) (by decide) | rfl) : QE X Z (.Compare a [op] [b] pos) (dOp dr ra rb) := by
  obtain ⟨ta, pa, sa⟩ := ha
  obtain ⟨tb, pb, sb⟩ := hb
  exact ⟨_, pe_cmpR ho pa pb hm, sim_op hd sa sb⟩
/-- the two ways of a truth value -/
def bs (k : Bool) (Φ : Bool → Prop) : Prop := (k = true → Φ true) ∧ (k = false → Φ false)
theorem bs_of {k : Bool} {Φ : Bool → Prop} (h : bs k Φ) : Φ k := by
  cases k with
  | true => exact h.1 rfl
  | false => exact h.2 rfl
/-- a test that is a truth value -/
def dTest (r : RE) : RT := fun Δ M Φ => r Δ M fun x Δ1 M1 => match x with
  | .bl k => bs k fun k => Φ k Δ1 M1
  | _ => False
theorem simT_test {K : PySem.W.Frag} {t : TE} (h : Sim K Z t r) : SimT K Z (tTest t) (dTest r) := by
  intro M σ H Δ F Φ c k Q q
  refine h M σ H Δ F _ c k _ fun v H1 x Δ1 M1 F1 e1 c1 r1 h1 => ?_
  cases x with
  | bl b => exact ⟨b, r1, q b H1 Δ1 M1 F1 e1 c1 (bs_of h1)⟩
  | _ => exact h1.elim
theorem qt_cmp {op : CmpOp} {rv : R2} {dr : D → D → (D → Prop) → Prop} (ho : OpR X (compareOp op) rv) (hd : OpD X.K rv dr) (ha : QE X Z a ra) (hb : QE X Z b rb) (hm : behindInMarks op b = false := by first | exact nobehind _ (by decide) (by decide) | rfl) : QT X Z (.Compare a [op] [b] pos) (dTest (dOp dr ra rb)) := by
  obtain ⟨ta, pa, sa⟩ := ha
  obtain ⟨tb, pb, sb⟩ := hb
  exact ⟨_, pt_cmpR ho pa pb hm, simT_test (sim_op hd sa sb)⟩
/-- an expression whose value is a truth value, as a test -/
theorem qt_val (h : QE X Z e r) (he : ∀ whole, isTrue e X.env whole = (do let v ← whole; standAt e.pos; holding [v] (truthy v)) := by intro _; rfl) : QT X Z e (dTest r) := by
  obtain ⟨t, p, s⟩ := h
  exact ⟨_, pt_val p he, simT_test s⟩

/-- ints -/
def dI (g : Int → Int → D) : D → D → (D → Prop) → Prop := fun x y Φ => match x, y with
  | .int i, .int j => Φ (g i j)
  | _, _ => False
def dIC (C : Int → Int → Prop) (g : Int → Int → D) : D → D → (D → Prop) → Prop := fun x y Φ => match x, y with
  | .int i, .int j => C i j ∧ Φ (g i j)
  | _, _ => False
theorem opD_I {K : PySem.W.Frag} {g : Int → Int → V} {g' : Int → Int → D} (hg : ∀ F i j, Rp K F (g' i j) (g i j)) : OpD K (rI0 g) (dI g') := by
  intro Z M σ H Δ F x y v w Φ c rx ry k Q q
  unfold dI at k
  split at k
  · exact ⟨_, _, rx, ry, q _ H _ F (Ex.refl _) c (hg F _ _) k⟩
  · exact k.elim
theorem opD_IC {K : PySem.W.Frag} {C : Int → Int → Prop} {g : Int → Int → V} {g' : Int → Int → D} (hg : ∀ F i j, Rp K F (g' i j) (g i j)) : OpD K (rI C g) (dIC C g') := by
  intro Z M σ H Δ F x y v w Φ c rx ry k Q q
  unfold dIC at k
  split at k
  · exact ⟨_, _, rx, ry, k.1, q _ H _ F (Ex.refl _) c (hg F _ _) k.2⟩
  · exact k.elim
theorem qe_sub (ha : QE X Z a ra) (hb : QE X Z b rb) : QE X Z (.BinOp a .Sub b pos) (dOp (dI fun i j => .int (i - j)) ra rb) := qe_bin op_sub (opD_I fun _ _ _ => rfl) ha hb
theorem qe_mul (ha : QE X Z a ra) (hb : QE X Z b rb) : QE X Z (.BinOp a .Mult b pos) (dOp (dIC CMul fun i j => .int (i * j)) ra rb) := qe_bin op_mul (opD_IC fun _ _ _ => rfl) ha hb
theorem qe_mulW (ha : QE X Z a ra) (hb : QE X Z b rb) : QE X Z (.BinOp a .Mult b pos) (dOp (dIC CMulW fun i j => .int (i * j)) ra rb) := qe_bin op_mulW (opD_IC fun _ _ _ => rfl) ha hb
theorem qe_fdiv (ha : QE X Z a ra) (hb : QE X Z b rb) : QE X Z (.BinOp a .FloorDiv b pos) (dOp (dIC CDiv fun i j => .int (i / j)) ra rb) := qe_bin op_fdiv (opD_IC fun _ _ _ => rfl) ha hb
theorem qe_fdivW (ha : QE X Z a ra) (hb : QE X Z b rb) : QE X Z (.BinOp a .FloorDiv b pos) (dOp (dIC CDivW fun i j => .int (i / j)) ra rb) := qe_bin op_fdivW (opD_IC fun _ _ _ => rfl) ha hb
theorem qe_mod (ha : QE X Z a ra) (hb : QE X Z b rb) : QE X Z (.BinOp a .Mod b pos) (dOp (dIC (fun _ j => 0 < j) fun i j => .int (i % j)) ra rb) := qe_bin op_mod (opD_IC fun _ _ _ => rfl) ha hb
theorem qe_pow (ha : QE X Z a ra) (hb : QE X Z b rb) : QE X Z (.BinOp a .Pow b pos) (dOp (dIC CPow fun i j => .int (i ^ j.toNat)) ra rb) := qe_bin op_pow (opD_IC fun _ _ _ => rfl) ha hb
/-- + : ints, texts, lists, tuples -/
def dAdd : D → D → (D → Prop) → Prop := fun x y Φ => match x, y with
  | .int i, .int j => Φ (.int (i + j))
  | .str i, .str j => i.length + j.length ≤ sizeLine ∧ Φ (.str (i ++ j))
  | .lst xs, .lst ys => xs.length + ys.length ≤ sizeLine ∧ Φ (.lst (xs ++ ys))
  | .tup xs, .tup ys => xs ≠ [] ∧ xs.length + ys.length ≤ sizeLine ∧ Φ (.tup (xs ++ ys))
  | _, _ => False
def rAddAll (K : PySem.W.Frag) : R2 := fun x y H Q => (rI0 (fun i j => .int (i + j)) x y H Q ∨ (∃ i j, x = .str i ∧ y = .str j ∧ i.length + j.length ≤ sizeLine ∧ Q (.str (i ++ j)) H)) ∨ (rCat x y H Q ∨ rCatT K x y H Q)
theorem op_addAll : OpR X (binaryOp .Add) (rAddAll X.K) := OpR.or (OpR.or op_add op_add_str) (OpR.or op_cat op_catT)
theorem opD_add {K : PySem.W.Frag} : OpD K (rAddAll K) dAdd := by
  intro Z M σ H Δ F x y v w Φ c rx ry k Q q
  unfold dAdd at k
  split at k
  · exact .inl (.inl ⟨_, _, rx, ry, q _ H (.int _) F (Ex.refl _) c rfl k⟩)
  · exact .inl (.inr ⟨_, _, rx, ry, k.1, q _ H (.str _) F (Ex.refl _) c rfl k.2⟩)
  · obtain ⟨a, vs, e1, h1, h2⟩ := rx
    obtain ⟨b, ws, e2, h3, h4⟩ := ry
    obtain ⟨k1, k2⟩ := k
    refine .inr (.inl ⟨a, b, vs, ws, e1, e2, c.bs.fH _ _ h1, c.bs.fH _ _ h3, by rw [rps_len h2, rps_len h4]; exact k1, fun p hp => ?_⟩)
    exact q _ _ (.lst _) _ (c.bs.exF hp _) (c.new hp _) ⟨p, _, rfl, upd_same, rps_mono (c.bs.exF hp _) _ _ (rps_app h2 h4)⟩ k2
  · rename_i xs ys
    obtain ⟨a, vs, e1, h1, h2⟩ := rx
    obtain ⟨b, ws, e2, h3, h4⟩ := ry
    obtain ⟨k0, k1, k2⟩ := k
    refine .inr (.inr ⟨a, b, vs, ws, e1, e2, Evl.ex_t c.bs.fH h1, Evl.ex_t c.bs.fH h3, fun z => ?_, by rw [rps_len h2, rps_len h4]; exact k1, fun z => ?_, fun z p hp => ?_⟩)
    · have := rps_len h2
      rw [z] at this
      exact k0 (List.length_eq_zero_iff.mp this.symm)
    · have hy : ys = [] := by
        have := rps_len h4
        rw [z] at this
        exact List.length_eq_zero_iff.mp this.symm
      refine q _ H (.tup xs) F (Ex.refl _) c ⟨a, vs, rfl, h1, h2⟩ ?_
      rw [hy, List.append_nil] at k2
      exact k2
    · exact q _ _ (.tup _) _ (c.bs.exF hp _) (c.new hp _) ⟨p, _, rfl, SqT.of upd_same, rps_mono (c.bs.exF hp _) _ _ (rps_app h2 h4)⟩ k2
  · exact k.elim
theorem qe_add (ha : QE X Z a ra) (hb : QE X Z b rb) : QE X Z (.BinOp a .Add b pos) (dOp dAdd ra rb) := qe_bin op_addAll opD_add ha hb

/-! ### comparisons of ints -/
abbrev dLt := dI fun i j => .bl (decide (i < j))
abbrev dLe := dI fun i j => .bl (decide (i ≤ j))
abbrev dGt := dI fun i j => .bl (decide (j < i))
abbrev dGe := dI fun i j => .bl (decide (j ≤ i))
theorem od_lt {K : PySem.W.Frag} : OpD K (rI0 fun i j => .bl (decide (i < j))) dLt := opD_I fun _ _ _ => rfl
theorem od_le {K : PySem.W.Frag} : OpD K (rI0 fun i j => .bl (decide (i ≤ j))) dLe := opD_I fun _ _ _ => rfl
theorem od_gt {K : PySem.W.Frag} : OpD K (rI0 fun i j => .bl (decide (j < i))) dGt := opD_I fun _ _ _ => rfl
theorem od_ge {K : PySem.W.Frag} : OpD K (rI0 fun i j => .bl (decide (j ≤ i))) dGe := opD_I fun _ _ _ => rfl

/-! ### == over data -/
/-! whole data -/
mutual
def D.py : D → PyData
  | .non => .none
  | .bl b => .bool b
  | .int i => .int i
  | .str x => .str x
  | .tup ds => .tuple (pys ds)
  | .lst ds => .list (pys ds)
  | .scr ns => .list (ns.map .int)
  | .ref _ => .none
  | .rng _ _ => .none
def pys : List D → List PyData
  | [] => []
  | d :: ds => d.py :: pys ds
end
mutual
def D.pure : D → Bool
  | .tup ds => pures ds
  | .lst ds => pures ds
  | .ref _ => false
  | .rng _ _ => false
  | _ => true
def pures : List D → Bool
  | [] => true
  | d :: ds => d.pure && pures ds
end
theorem dpAll_ints {K : PySem.W.Frag} {H : Hp} : ∀ ns : List Int, DpAll K H (ns.map V.int) (ns.map PyData.int)
  | [] => .nil
  | n :: ns => .cons (.int n) (dpAll_ints ns)
mutual
theorem rp_dp {K : PySem.W.Frag} {F H : Hp} (e : Ex F H) : ∀ (d : D) (v : V), d.pure = true → Rp K F d v → Dp K H v d.py
  | .non, v, _, h => by rw [show v = .non from h]; exact .non
  | .bl b, v, _, h => by rw [show v = .bl b from h]; exact .bl b
  | .int i, v, _, h => by rw [show v = .int i from h]; exact .int i
  | .str x, v, _, h => by rw [show v = .str x from h]; exact .str x
  | .tup ds, v, p, h => by
    obtain ⟨a, vs, e1, h1, h2⟩ := h
    rw [e1]
    exact .tup (Evl.ex_t e h1) (rps_dp e ds vs p h2)
  | .lst ds, v, p, h => by
    obtain ⟨a, vs, e1, h1, h2⟩ := h
    rw [e1]
    exact .lst (SqL.of (e _ _ h1)) (rps_dp e ds vs p h2)
  | .scr ns, v, p, h => by
    obtain ⟨a, e1, h1⟩ := h
    rw [e1]
    exact .lst (Evl.ex_l e h1) (dpAll_ints ns)
  | .ref _, _, p, _ => by cases p
  | .rng _ _, _, p, _ => by cases p
theorem rps_dp {K : PySem.W.Frag} {F H : Hp} (e : Ex F H) : ∀ (ds : List D) (vs : List V), pures ds = true → Rps K F ds vs → DpAll K H vs (pys ds)
  | [], vs, _, h => by rw [show vs = [] from h]; exact .nil
  | d :: ds, vs, p, h => by
    obtain ⟨v, r, e1, h1, h2⟩ := h
    rw [e1]
    have p' : (d.pure && pures ds) = true := p
    rw [Bool.and_eq_true] at p'
    exact .cons (rp_dp e d v p'.1 h1) (rps_dp e ds r p'.2 h2)
end
def dEq : D → D → (D → Prop) → Prop := fun x y Φ => x.pure = true ∧ y.pure = true ∧ SeqAt.shaped x.py = true ∧ SeqAt.shaped y.py = true ∧ Φ (.bl (PyData.eqv x.py y.py))
def dNe : D → D → (D → Prop) → Prop := fun x y Φ => x.pure = true ∧ y.pure = true ∧ SeqAt.shaped x.py = true ∧ SeqAt.shaped y.py = true ∧ Φ (.bl (!PyData.eqv x.py y.py))
theorem od_eq {K : PySem.W.Frag} : OpD K (rEqD K) dEq := by
  intro Z M σ H Δ F x y v w Φ c rx ry k Q q
  obtain ⟨h1, h2, h3, h4, k⟩ := k
  exact ⟨_, _, rp_dp c.bs.fH x v h1 rx, rp_dp c.bs.fH y w h2 ry, h3, h4, q _ H (.bl _) F (Ex.refl _) c rfl k⟩
theorem od_ne {K : PySem.W.Frag} : OpD K (rNeD K) dNe := by
  intro Z M σ H Δ F x y v w Φ c rx ry k Q q
  obtain ⟨h1, h2, h3, h4, k⟩ := k
  exact ⟨_, _, rp_dp c.bs.fH x v h1 rx, rp_dp c.bs.fH y w h2 ry, h3, h4, q _ H (.bl _) F (Ex.refl _) c rfl k⟩
/-- == of two ints, texts or truth values -/
def dEqS : D → D → (D → Prop) → Prop := fun x y Φ => match x, y with
  | .int i, .int j => Φ (.bl (decide (i = j)))
  | .str i, .str j => Φ (.bl (decide (i = j)))
  | .bl i, .bl j => Φ (.bl (decide (i = j)))
  | _, _ => False
def dNeS : D → D → (D → Prop) → Prop := fun x y Φ => match x, y with
  | .int i, .int j => Φ (.bl (!decide (i = j)))
  | .str i, .str j => Φ (.bl (!decide (i = j)))
  | .bl i, .bl j => Φ (.bl (!decide (i = j)))
  | _, _ => False
theorem dec_vi {i j : Int} : decide (V.int i = V.int j) = decide (i = j) := by simp
theorem dec_vs {i j : Str} : decide (V.str i = V.str j) = decide (i = j) := by simp
theorem dec_vb {i j : Bool} : decide (V.bl i = V.bl j) = decide (i = j) := by simp
theorem od_eqS {K : PySem.W.Frag} : OpD K rEq dEqS := by
  intro Z M σ H Δ F x y v w Φ c rx ry k Q q
  unfold dEqS at k
  split at k
  · cases rx; cases ry
    exact ⟨rfl, by rw [dec_vi]; exact q _ H (.bl _) F (Ex.refl _) c rfl k⟩
  · cases rx; cases ry
    exact ⟨rfl, by rw [dec_vs]; exact q _ H (.bl _) F (Ex.refl _) c rfl k⟩
  · cases rx; cases ry
    exact ⟨rfl, by rw [dec_vb]; exact q _ H (.bl _) F (Ex.refl _) c rfl k⟩
  · exact k.elim
theorem od_neS {K : PySem.W.Frag} : OpD K rNe dNeS := by
  intro Z M σ H Δ F x y v w Φ c rx ry k Q q
  unfold dNeS at k
  split at k
  · cases rx; cases ry
    exact ⟨rfl, by rw [dec_vi]; exact q _ H (.bl _) F (Ex.refl _) c rfl k⟩
  · cases rx; cases ry
    exact ⟨rfl, by rw [dec_vs]; exact q _ H (.bl _) F (Ex.refl _) c rfl k⟩
  · cases rx; cases ry
    exact ⟨rfl, by rw [dec_vb]; exact q _ H (.bl _) F (Ex.refl _) c rfl k⟩
  · exact k.elim
/-- is, is not of truth values; is None -/
def dIsB : D → D → (D → Prop) → Prop := fun x y Φ => match x, y with
  | .bl i, .bl j => Φ (.bl (decide (i = j)))
  | _, _ => False
def dNotB : D → D → (D → Prop) → Prop := fun x y Φ => match x, y with
  | .bl i, .bl j => Φ (.bl (!decide (i = j)))
  | _, _ => False
theorem od_isB {K : PySem.W.Frag} : OpD K rIsB dIsB := by
  intro Z M σ H Δ F x y v w Φ c rx ry k Q q
  unfold dIsB at k
  split at k
  · exact ⟨_, _, rx, ry, q _ H (.bl _) F (Ex.refl _) c rfl k⟩
  · exact k.elim
theorem od_notB {K : PySem.W.Frag} : OpD K rNotB dNotB := by
  intro Z M σ H Δ F x y v w Φ c rx ry k Q q
  unfold dNotB at k
  split at k
  · exact ⟨_, _, rx, ry, q _ H (.bl _) F (Ex.refl _) c rfl k⟩
  · exact k.elim
def D.isNon : D → Bool
  | .non => true
  | _ => false
theorem rp_isNon {K : PySem.W.Frag} {F : Hp} {d : D} {v : V} (h : Rp K F d v) : decide (v = .non) = d.isNon := by
  cases d with
  | non => rw [show v = .non from h] <;> rfl
  | bl b => rw [show v = .bl b from h] <;> rfl
  | int b => rw [show v = .int b from h] <;> rfl
  | str b => rw [show v = .str b from h] <;> rfl
  | tup ds => obtain ⟨a, vs, e, _⟩ := h; rw [e] <;> rfl
  | lst ds => obtain ⟨a, vs, e, _⟩ := h; rw [e] <;> rfl
  | scr ds => obtain ⟨a, e, _⟩ := h; rw [e] <;> rfl
  | ref a => rw [show v = .ref a from h] <;> rfl
  | rng lo hi => obtain ⟨a, e, _⟩ := h; rw [e] <;> rfl
def dIsN : D → D → (D → Prop) → Prop := fun x y Φ => match y with
  | .non => Φ (.bl x.isNon)
  | _ => False
def dNotN : D → D → (D → Prop) → Prop := fun x y Φ => match y with
  | .non => Φ (.bl (!x.isNon))
  | _ => False
def rIsNo : R2 := fun x y H Q => y = .non ∧ Q (.bl (decide (x = .non))) H
def rNotNo : R2 := fun x y H Q => y = .non ∧ Q (.bl (!decide (x = .non))) H
theorem op_isNo : OpR X (compareOp .Is) rIsNo := op_isN
theorem op_notNo : OpR X (compareOp .IsNot) rNotNo := op_notN
theorem od_isN {K : PySem.W.Frag} : OpD K rIsNo dIsN := by
  intro Z M σ H Δ F x y v w Φ c rx ry k Q q
  unfold dIsN at k
  split at k
  · exact ⟨ry, by rw [rp_isNon rx]; exact q _ H (.bl _) F (Ex.refl _) c rfl k⟩
  · exact k.elim
theorem od_notN {K : PySem.W.Frag} : OpD K rNotNo dNotN := by
  intro Z M σ H Δ F x y v w Φ c rx ry k Q q
  unfold dNotN at k
  split at k
  · exact ⟨ry, by rw [rp_isNon rx]; exact q _ H (.bl _) F (Ex.refl _) c rfl k⟩
  · exact k.elim
end
end DL

set_option Elab.async false
set_option linter.all false
set_option maxRecDepth 100000
set_option maxHeartbeats 4000000
namespace DL
open PySem L2
open Evl (Ex)
section
variable {X : Cx} {Z : Zx} {e a b c : Expr} {ra rb rc r : RE} {rt ru : RT} {pos : Pos} {es : List Expr} {rl : RA} {n : Nat} {K : PySem.W.Frag}

/-! ### arguments, tuples, lists -/
def dNil : RA := fun Δ M Φ => Φ [] Δ M
def dCons (r : RE) (rl : RA) : RA := fun Δ M Φ => r Δ M fun d Δ1 M1 => rl Δ1 M1 fun ds Δ2 M2 => Φ (d :: ds) Δ2 M2
theorem qa_nil : QA X Z 0 [] dNil := ⟨_, pa_nil, fun M σ H Δ F Φ c h Q q => q [] H [] Δ M F (Ex.refl _) c rfl rfl h⟩
theorem qa_cons (he : QE X Z e r) (hr : QA X Z n es rl) (hs : starEach (e :: es) X.env = (false, eval e X.env) :: starEach es X.env := by rfl) : QA X Z (n + 1) (e :: es) (dCons r rl) := by
  obtain ⟨t, p, s⟩ := he
  obtain ⟨u, p', s'⟩ := hr
  refine ⟨_, pa_cons p p' hs, fun M σ H Δ F Φ c h Q q => ?_⟩
  refine s M σ H Δ F _ c h _ fun v H1 x Δ1 M1 F1 e1 c1 r1 h1 => ?_
  refine s' M1 σ H1 Δ1 F1 _ c1 h1 _ fun vs H2 ds Δ2 M2 F2 e2 c2 r2 hl h2 => ?_
  exact q _ H2 (x :: ds) Δ2 M2 F2 (e1.trans e2) c2 ⟨v, vs, rfl, rp_mono e2 _ _ r1, r2⟩ (by rw [List.length_cons, hl]) h2
def dTup (rl : RA) : RE := fun Δ M Φ => rl Δ M fun ds Δ1 M1 => Φ (.tup ds) Δ1 M1
theorem line_of {n : Nat} (h : n ≤ 1000) : n ≤ sizeLine := Nat.le_trans h (by decide)
theorem qe_tup {x1} (h : QA X Z n es rl) (hn : n ≤ 1000 := by decide) : QE X Z (.Tuple es x1 pos) (dTup rl) := by
  obtain ⟨t, p, s⟩ := h
  refine ⟨_, pe_tup p, fun M σ H Δ F Φ c h Q q => ?_⟩
  refine s M σ H Δ F _ c h _ fun vs H1 ds Δ1 M1 F1 e1 c1 r1 hl h1 => ?_
  refine ⟨by rw [rps_len r1, hl]; exact line_of hn, fun p hp => ?_⟩
  exact q _ _ (.tup ds) Δ1 M1 _ (e1.trans (c1.bs.exF hp _)) (c1.new hp _) ⟨p, vs, rfl, SqT.of upd_same, rps_mono (c1.bs.exF hp _) _ _ r1⟩ h1

/-! ### expressions that make a new list -/
def SimL (K : PySem.W.Frag) (Z : Zx) (t : TE) (r : RA) : Prop := ∀ (M : Mem) (σ : L2.St) (H : Hp) (Δ : List Sl) (F : Hp) (Φ : List D → List Sl → Mem → Prop), Cn K Z M σ H Δ F → r Δ M Φ →
  ∀ Q : VK, (∀ p H1 vs ds Δ' M' F', Ex F F' → Cn K Z M' σ H1 Δ' F' → H1 p = none → Rps K F' ds vs → Φ ds Δ' M' → Q (.ref p) (upd H1 p (.lst vs))) → t σ H Q
def QL (X : Cx) (Z : Zx) (e : Expr) (r : RA) : Prop := ∃ t, PE X e t ∧ SimL X.K Z t r
/-- frozen at once -/
def dFz (rl : RA) : RE := fun Δ M Φ => rl Δ M fun ds Δ1 M1 => Φ (.lst ds) Δ1 M1
theorem qe_fz (h : QL X Z e rl) : QE X Z e (dFz rl) := by
  obtain ⟨t, p, s⟩ := h
  refine ⟨t, p, fun M σ H Δ F Φ c h Q q => ?_⟩
  refine s M σ H Δ F _ c h Q fun p H1 vs ds Δ1 M1 F1 e1 c1 hp r1 h1 => ?_
  exact q _ _ (.lst ds) Δ1 M1 _ (e1.trans (c1.bs.exF hp _)) (c1.new hp _) ⟨p, vs, rfl, upd_same, rps_mono (c1.bs.exF hp _) _ _ r1⟩ h1
theorem ql_lst (h : QA X Z n es rl) (hn : n ≤ 1000 := by decide) : QL X Z (.List es pos) rl := by
  obtain ⟨t, p, s⟩ := h
  refine ⟨_, pe_lst p, fun M σ H Δ F Φ c h Q q => ?_⟩
  refine s M σ H Δ F _ c h _ fun vs H1 ds Δ1 M1 F1 e1 c1 r1 hl h1 => ?_
  exact ⟨by rw [rps_len r1, hl]; exact line_of hn, fun p hp => q p H1 vs ds Δ1 M1 F1 e1 c1 hp r1 h1⟩
theorem qe_lst (h : QA X Z n es rl) (hn : n ≤ 1000 := by decide) : QE X Z (.List es pos) (dFz rl) := qe_fz (ql_lst h hn)

/-! ### truth values -/
def dNot (r : RT) : RT := fun Δ M Φ => r Δ M fun b Δ1 M1 => Φ (!b) Δ1 M1
theorem qt_not (h : QT X Z e rt) : QT X Z (.UnaryOp .Not e pos) (dNot rt) := by
  obtain ⟨t, p, s⟩ := h
  refine ⟨_, pt_not p, fun M σ H Δ F Φ c h Q q => ?_⟩
  exact s M σ H Δ F _ c h _ fun b H1 Δ1 M1 F1 e1 c1 h1 => q (!b) H1 Δ1 M1 F1 e1 c1 h1
def dAnd (r u : RT) : RT := fun Δ M Φ => r Δ M fun b Δ1 M1 => match b with
  | true => u Δ1 M1 Φ
  | false => Φ false Δ1 M1
def dOr (r u : RT) : RT := fun Δ M Φ => r Δ M fun b Δ1 M1 => match b with
  | true => Φ true Δ1 M1
  | false => u Δ1 M1 Φ
theorem simT_and {t u : TT} (h1 : SimT K Z t rt) (h2 : SimT K Z u ru) : SimT K Z (tAnd t u) (dAnd rt ru) := by
  intro M σ H Δ F Φ c h Q q
  refine h1 M σ H Δ F _ c h _ fun b H1 Δ1 M1 F1 e1 c1 k1 => ?_
  cases b with
  | true => exact iteT (h2 M1 σ H1 Δ1 F1 Φ c1 k1 Q fun b H2 Δ2 M2 F2 e2 c2 k2 => q b H2 Δ2 M2 F2 (e1.trans e2) c2 k2)
  | false => exact iteF (q false H1 Δ1 M1 F1 e1 c1 k1)
theorem simT_or {t u : TT} (h1 : SimT K Z t rt) (h2 : SimT K Z u ru) : SimT K Z (tOr t u) (dOr rt ru) := by
  intro M σ H Δ F Φ c h Q q
  refine h1 M σ H Δ F _ c h _ fun b H1 Δ1 M1 F1 e1 c1 k1 => ?_
  cases b with
  | false => exact iteF (h2 M1 σ H1 Δ1 F1 Φ c1 k1 Q fun b H2 Δ2 M2 F2 e2 c2 k2 => q b H2 Δ2 M2 F2 (e1.trans e2) c2 k2)
  | true => exact iteT (q true H1 Δ1 M1 F1 e1 c1 k1)
theorem qw_and1 (h : QT X Z a rt) : QW X Z (.BoolOp .And [a] pos) rt := by
  obtain ⟨t, p, s⟩ := h
  exact ⟨t, pw_and1 p, s⟩
theorem qw_or1 (h : QT X Z a rt) : QW X Z (.BoolOp .Or [a] pos) rt := by
  obtain ⟨t, p, s⟩ := h
  exact ⟨t, pw_or1 p, s⟩
theorem qw_and {rest : List Expr} (h : QT X Z a rt) (h2 : QW X Z (.BoolOp .And (b :: rest) pos) ru) : QW X Z (.BoolOp .And (a :: b :: rest) pos) (dAnd rt ru) := by
  obtain ⟨t, p, s⟩ := h
  obtain ⟨u, p2, s2⟩ := h2
  exact ⟨_, pw_and p p2, simT_and s s2⟩
theorem qw_or {rest : List Expr} (h : QT X Z a rt) (h2 : QW X Z (.BoolOp .Or (b :: rest) pos) ru) : QW X Z (.BoolOp .Or (a :: b :: rest) pos) (dOr rt ru) := by
  obtain ⟨t, p, s⟩ := h
  obtain ⟨u, p2, s2⟩ := h2
  exact ⟨_, pw_or p p2, simT_or s s2⟩
theorem QW.qt (h : QW X Z e rt) : QT X Z e rt := by
  obtain ⟨t, p, s⟩ := h
  exact ⟨t, p.pt, s⟩
/-- as values -/
def dB (r : RT) : RE := fun Δ M Φ => r Δ M fun b Δ1 M1 => Φ (.bl b) Δ1 M1
def dNotV (r : RE) : RE := fun Δ M Φ => r Δ M fun x Δ1 M1 => match x with
  | .bl b => Φ (.bl (!b)) Δ1 M1
  | _ => False
def dAndV (r u : RE) : RE := fun Δ M Φ => r Δ M fun x Δ1 M1 => match x with
  | .bl k => bs k fun k => match k with
    | true => u Δ1 M1 Φ
    | false => Φ (.bl false) Δ1 M1
  | _ => False
def dOrV (r u : RE) : RE := fun Δ M Φ => r Δ M fun x Δ1 M1 => match x with
  | .bl k => bs k fun k => match k with
    | true => Φ (.bl true) Δ1 M1
    | false => u Δ1 M1 Φ
  | _ => False
theorem qe_not (h : QE X Z e r) : QE X Z (.UnaryOp .Not e pos) (dNotV r) := by
  obtain ⟨t, p, s⟩ := h
  refine ⟨_, pe_not p, fun M σ H Δ F Φ c h Q q => ?_⟩
  refine s M σ H Δ F _ c h _ fun v H1 x Δ1 M1 F1 e1 c1 r1 h1 => ?_
  cases x with
  | bl b => exact ⟨b, r1, q _ H1 (.bl (!b)) Δ1 M1 F1 e1 c1 rfl h1⟩
  | _ => exact h1.elim
theorem qe_one {op} (h : QE X Z a r) : QE X Z (.BoolOp op [a] pos) r := by
  obtain ⟨t, p, s⟩ := h
  exact ⟨t, pe_one p, s⟩
theorem qe_and {rest : List Expr} (h : QE X Z a ra) (h2 : QE X Z (.BoolOp .And (b :: rest) pos) rb) : QE X Z (.BoolOp .And (a :: b :: rest) pos) (dAndV ra rb) := by
  obtain ⟨t, p, s⟩ := h
  obtain ⟨u, p2, s2⟩ := h2
  refine ⟨_, pe_and p p2, fun M σ H Δ F Φ c h Q q => ?_⟩
  refine s M σ H Δ F _ c h _ fun v H1 x Δ1 M1 F1 e1 c1 r1 h1 => ?_
  cases x with
  | bl b =>
    refine ⟨b, r1, ?_⟩
    replace h1 := bs_of h1
    cases b with
    | true => exact iteT (s2 M1 σ H1 Δ1 F1 Φ c1 h1 Q fun v H2 d Δ2 M2 F2 e2 c2 r2 k2 => q v H2 d Δ2 M2 F2 (e1.trans e2) c2 r2 k2)
    | false => exact iteF (q _ H1 (.bl false) Δ1 M1 F1 e1 c1 rfl h1)
  | _ => exact h1.elim
theorem qe_or {rest : List Expr} (h : QE X Z a ra) (h2 : QE X Z (.BoolOp .Or (b :: rest) pos) rb) : QE X Z (.BoolOp .Or (a :: b :: rest) pos) (dOrV ra rb) := by
  obtain ⟨t, p, s⟩ := h
  obtain ⟨u, p2, s2⟩ := h2
  refine ⟨_, pe_or p p2, fun M σ H Δ F Φ c h Q q => ?_⟩
  refine s M σ H Δ F _ c h _ fun v H1 x Δ1 M1 F1 e1 c1 r1 h1 => ?_
  cases x with
  | bl b =>
    refine ⟨b, r1, ?_⟩
    replace h1 := bs_of h1
    cases b with
    | true => exact iteT (q _ H1 (.bl true) Δ1 M1 F1 e1 c1 rfl h1)
    | false => exact iteF (s2 M1 σ H1 Δ1 F1 Φ c1 h1 Q fun v H2 d Δ2 M2 F2 e2 c2 r2 k2 => q v H2 d Δ2 M2 F2 (e1.trans e2) c2 r2 k2)
  | _ => exact h1.elim
/-- a if t else b -/
def dIf (t : RT) (ra rb : RE) : RE := fun Δ M Φ => t Δ M fun k Δ1 M1 => match k with
  | true => ra Δ1 M1 Φ
  | false => rb Δ1 M1 Φ
theorem qe_if {t : Expr} (ht : QT X Z t rt) (ha : QE X Z a ra) (hb : QE X Z b rb) : QE X Z (.IfExp t a b pos) (dIf rt ra rb) := by
  obtain ⟨u, p, s⟩ := ht
  obtain ⟨ta, p1, s1⟩ := ha
  obtain ⟨tb, p2, s2⟩ := hb
  refine ⟨_, pe_ifExp p p1 p2, fun M σ H Δ F Φ c h Q q => ?_⟩
  refine s M σ H Δ F _ c h _ fun k H1 Δ1 M1 F1 e1 c1 h1 => ?_
  cases k with
  | true => exact iteT (s1 M1 σ H1 Δ1 F1 Φ c1 h1 Q fun v H2 d Δ2 M2 F2 e2 c2 r2 k2 => q v H2 d Δ2 M2 F2 (e1.trans e2) c2 r2 k2)
  | false => exact iteF (s2 M1 σ H1 Δ1 F1 Φ c1 h1 Q fun v H2 d Δ2 M2 F2 e2 c2 r2 k2 => q v H2 d Δ2 M2 F2 (e1.trans e2) c2 r2 k2)

/-! ### subscripts, len -/
def dIx : D → D → (D → Prop) → Prop := fun x y Φ => match x, y with
  | .lst ds, .int i => ∃ d, atI ds i = some d ∧ Φ d
  | .tup ds, .int i => ∃ d, atI ds i = some d ∧ Φ d
  | .scr ns, .int i => ∃ n, atI ns i = some n ∧ Φ (.int n)
  | .str z, .int i => z.length ≤ sizeLine ∧ ∃ k, atI z.cps.toList i = some k ∧ Φ (.str ⟨#[k]⟩)
  | _, _ => False
theorem atI_rps {F : Hp} {ds : List D} {vs : List V} {i : Int} {d : D} (h : Rps K F ds vs) (ha : atI ds i = some d) : ∃ v, atI vs i = some v ∧ Rp K F d v := by
  unfold atI at ha ⊢
  rw [rps_len h]
  cases hj : ixN ds.length i with
  | none => rw [hj] at ha; cases ha
  | some j =>
    rw [hj] at ha
    exact rps_get h ha
theorem atI_map {α β : Type} (f : α → β) {xs : List α} {i : Int} {x : α} (h : atI xs i = some x) : atI (xs.map f) i = some (f x) := by
  unfold atI at h ⊢
  rw [List.length_map]
  cases hj : ixN xs.length i with
  | none => rw [hj] at h; cases h
  | some j =>
    rw [hj] at h
    have h' : xs[j]? = some x := h
    show (xs.map f)[j]? = some (f x)
    rw [List.getElem?_map, h'] <;> rfl
theorem od_ix : OpD K (rIx K) dIx := by
  intro Z M σ H Δ F x y v w Φ c rx ry k Q q
  unfold dIx at k
  split at k
  · obtain ⟨a, vs, e1, h1, h2⟩ := rx
    obtain ⟨d, k1, k2⟩ := k
    obtain ⟨u, h3, h4⟩ := atI_rps h2 k1
    exact .inl ⟨a, vs, _, u, e1, ry, SqL.of (c.bs.fH _ _ h1), h3, q u H d F (Ex.refl _) c h4 k2⟩
  · obtain ⟨a, vs, e1, h1, h2⟩ := rx
    obtain ⟨d, k1, k2⟩ := k
    obtain ⟨u, h3, h4⟩ := atI_rps h2 k1
    exact .inr (.inl ⟨a, vs, _, u, e1, ry, Evl.ex_t c.bs.fH h1, h3, q u H d F (Ex.refl _) c h4 k2⟩)
  · obtain ⟨a, e1, h1⟩ := rx
    obtain ⟨n, k1, k2⟩ := k
    exact .inl ⟨a, _, _, .int n, e1, ry, Evl.ex_l c.bs.fH h1, atI_map V.int k1, q _ H (.int n) F (Ex.refl _) c rfl k2⟩
  · obtain ⟨k0, n, k1, k2⟩ := k
    exact .inr (.inr ⟨_, _, n, rx, ry, k0, k1, q _ H (.str _) F (Ex.refl _) c rfl k2⟩)
  · exact k.elim
theorem qe_ix (ha : QE X Z a ra) (hb : QE X Z b rb) (hs : PlainIx b := by intro _ _; rfl) : QE X Z (.Subscript a b pos) (dOp dIx ra rb) := by
  obtain ⟨ta, pa, sa⟩ := ha
  obtain ⟨tb, pb, sb⟩ := hb
  exact ⟨_, pe_ix ix_seq pa pb hs, sim_op od_ix sa sb⟩
/-- xs[i], xs an own list's name -/
def dIxV (j : Nat) (rb : RE) : RE := fun Δ M Φ => rb Δ M fun y Δ1 M1 => match Δ1[j]?, y with
  | some (.own ds), .int i => ∃ d, atI ds i = some d ∧ Φ d Δ1 M1
  | _, _ => False
/-- a slot that holds a list of its own -/
def isOwn (Δ : List Sl) (j : Nat) : Prop := ∃ ds, Δ[j]? = some (.own ds)
def dIxO (j : Nat) (rb : RE) : RE := fun Δ M Φ => isOwn Δ j ∧ dIxV j rb Δ M Φ
theorem qe_ixO (j : Nat) {x : Str} {p2 : Pos} (hb : QE X Z b rb) (hN : X.N[j]? = some x := by rfl) (hv : Vis X.env.scope x := by first | exact Or.inl rfl | exact Or.inr (Or.inl rfl) | exact Or.inr (Or.inr rfl)) (hd : (x == ("__debug__" : Str)) = false := by decide)
    (hcd : (x == ("__classdict__" : Str)) = false := by decide) (hs : PlainIx b := by intro _ _; rfl) : QE X Z (.Subscript (.Name x p2) b pos) (dIxO j rb) := by
  obtain ⟨tb, pb, sb⟩ := hb
  refine ⟨_, pe_ix ix_seq (pe_var (i := j) hN hv hd hcd) pb hs, ?_⟩
  rintro M σ H Δ F Φ c ⟨⟨ds0, h0⟩, h⟩ Q q
  obtain ⟨p0, vs0, hv0, _⟩ := c.slot j _ h0
  refine ⟨_, hv0, ?_⟩
  refine sb M σ H Δ F _ c h _ fun w H1 y Δ1 M1 F1 e1 c1 r1 h1 => ?_
  split at h1
  · rename_i ds i hd
    obtain ⟨d, k1, k2⟩ := h1
    obtain ⟨p, vs, e2, g1, g2, g3, g4, g5⟩ := c1.slot j _ hd
    rw [hv0] at e2
    cases e2
    obtain ⟨u, h3, h4⟩ := atI_rps g2 k1
    exact .inl ⟨p0, vs, _, u, rfl, r1, SqL.of g1, h3, q u H1 d Δ1 M1 F1 e1 c1 h4 k2⟩
  · exact h1.elim

/-! ### built-in functions on values -/
/-- a call on data that makes nothing but new frozen objects -/
def CallD (K : PySem.W.Frag) (rv : List V → Hp → VK → Prop) (dr : List D → (D → Prop) → Prop) : Prop := ∀ (Z : Zx) (M : Mem) (σ : L2.St) (H : Hp) (Δ : List Sl) (F : Hp) (xs : List D) (vs : List V) (Φ : D → Prop), Cn K Z M σ H Δ F → Rps K F xs vs → dr xs Φ →
  ∀ Q : VK, (∀ u H' d F', Ex F F' → Cn K Z M σ H' Δ F' → Rp K F' d u → Φ d → Q u H') → rv vs H Q
def dCB (dr : List D → (D → Prop) → Prop) (rl : RA) : RE := fun Δ M Φ => rl Δ M fun ds Δ1 M1 => dr ds fun d => Φ d Δ1 M1
theorem sim_cb {rv : List V → Hp → VK → Prop} {dr : List D → (D → Prop) → Prop} {t : TA} (hc : CallD K rv dr) (h : SimA K Z n t rl) : Sim K Z (tCB rv t) (dCB dr rl) := by
  intro M σ H Δ F Φ c k Q q
  refine h M σ H Δ F _ c k _ fun vs H1 ds Δ1 M1 F1 e1 c1 r1 hl h1 => ?_
  exact hc Z M1 σ H1 Δ1 F1 ds vs _ c1 r1 h1 Q fun u H2 d F2 e2 c2 r2 k2 => q u H2 d Δ1 M1 F2 (e1.trans e2) c2 r2 k2
theorem CallD.or {r1 r2 : List V → Hp → VK → Prop} {d1 d2 dr : List D → (D → Prop) → Prop} (h1 : CallD K r1 d1) (h2 : CallD K r2 d2) (h : ∀ xs Φ, dr xs Φ → d1 xs Φ ∨ d2 xs Φ) : CallD K (fun xs H Q => r1 xs H Q ∨ r2 xs H Q) dr := by
  intro Z M σ H Δ F xs vs Φ c rx k Q q
  rcases h xs Φ k with k | k
  · exact .inl (h1 Z M σ H Δ F xs vs Φ c rx k Q q)
  · exact .inr (h2 Z M σ H Δ F xs vs Φ c rx k Q q)
theorem qe_cb {id : String} {x : Str} {p : Pos} {rv : List V → Hp → VK → Prop} {dr : List D → (D → Prop) → Prop} (hr : CallR X (.builtin id) rv) (hd : CallD X.K rv dr) (hg : Gl X x) (hm : X.mg x = none) (hb : bootBuiltins x = some (.builtin id)) (ha : QA X Z n (e :: es) rl) (hn : x ≠ "__name__" := by decide) (hdb : (x == ("__debug__" : Str)) = false := by decide)
    (he : starEach (e :: es) X.env = (false, eval e X.env) :: starEach es X.env := by rfl) (hpl : (backTo pos (starEach es X.env)).any (·.1) = false := by rfl) : QE X Z (.Call (.Name x p) (e :: es) [] pos) (dCB dr rl) := by
  obtain ⟨t, pa, s⟩ := ha
  exact ⟨_, pe_callB hr hg hm hb pa hn hdb he hpl, sim_cb hd s⟩
theorem qe_cty {T : String} {x : Str} {p : Pos} {rv : List V → Hp → VK → Prop} {dr : List D → (D → Prop) → Prop} (hr : CallR X (.type T) rv) (hd : CallD X.K rv dr) (hg : Gl X x) (hm : X.mg x = none) (hb : bootBuiltins x = some (.type T)) (ha : QA X Z n (e :: es) rl) (hn : x ≠ "__name__" := by decide) (hdb : (x == ("__debug__" : Str)) = false := by decide)
    (he : starEach (e :: es) X.env = (false, eval e X.env) :: starEach es X.env := by rfl) (hpl : (backTo pos (starEach es X.env)).any (·.1) = false := by rfl) : QE X Z (.Call (.Name x p) (e :: es) [] pos) (dCB dr rl) := by
  obtain ⟨t, pa, s⟩ := ha
  exact ⟨_, pe_callTy hr hg hm hb pa hn hdb he hpl, sim_cb hd s⟩
/-- a module's own name for a built-in function -/
theorem qe_cbf {id : String} {x : Str} {p : Pos} {rv : List V → Hp → VK → Prop} {dr : List D → (D → Prop) → Prop} (hr : CallR X (.builtin id) rv) (hd : CallD X.K rv dr) (hg : Gl X x) (hm : X.mg x = some (.builtin id)) (ha : QA X Z n (e :: es) rl) (hdb : (x == ("__debug__" : Str)) = false := by decide)
    (he : starEach (e :: es) X.env = (false, eval e X.env) :: starEach es X.env := by rfl) (hpl : (backTo pos (starEach es X.env)).any (·.1) = false := by rfl) : QE X Z (.Call (.Name x p) (e :: es) [] pos) (dCB dr rl) := by
  obtain ⟨t, pa, s⟩ := ha
  exact ⟨_, pe_callBfun hr hg hm pa hdb he hpl, sim_cb hd s⟩
theorem vals1 {F : Hp} {x : D} {vs : List V} (h : Rps K F [x] vs) : ∃ v, vs = [v] ∧ Rp K F x v := by
  obtain ⟨v, r, e, h1, h2⟩ := h
  rw [show r = [] from h2] at e
  exact ⟨v, e, h1⟩
theorem vals2 {F : Hp} {x y : D} {vs : List V} (h : Rps K F [x, y] vs) : ∃ v w, vs = [v, w] ∧ Rp K F x v ∧ Rp K F y w := by
  obtain ⟨v, r, e, h1, h2⟩ := h
  obtain ⟨w, e2, h3⟩ := vals1 h2
  exact ⟨v, w, by rw [e, e2], h1, h3⟩
/-- len -/
def dLen : List D → (D → Prop) → Prop := fun xs Φ => match xs with
  | [.lst ds] => Φ (.int (ds.length : Nat))
  | [.tup ds] => Φ (.int (ds.length : Nat))
  | [.scr ns] => Φ (.int (ns.length : Nat))
  | [.str z] => z.length ≤ sizeLine ∧ Φ (.int (z.length : Nat))
  | _ => False
def rLenAll (K : PySem.W.Frag) : List V → Hp → VK → Prop := fun xs H Q => (∃ p ys, xs = [.ref p] ∧ (SqL K H p ys ∨ SqT K H p ys) ∧ Q (.int ys.length) H) ∨ (∃ z, xs = [.str z] ∧ z.length ≤ sizeLine ∧ Q (.int z.length) H)
theorem cr_lenAll : CallR X (.builtin "len") (rLenAll X.K) := CallR.or call_len_seq call_len_str
theorem cd_len : CallD K (rLenAll K) dLen := by
  intro Z M σ H Δ F xs vs Φ c rx k Q q
  unfold dLen at k
  split at k
  · obtain ⟨v, rfl, a, ws, e1, h1, h2⟩ := vals1 rx
    refine .inl ⟨a, ws, by rw [e1], .inl (SqL.of (c.bs.fH _ _ h1)), ?_⟩
    rw [rps_len h2]
    exact q _ H (.int _) F (Ex.refl _) c rfl k
  · obtain ⟨v, rfl, a, ws, e1, h1, h2⟩ := vals1 rx
    refine .inl ⟨a, ws, by rw [e1], .inr (Evl.ex_t c.bs.fH h1), ?_⟩
    rw [rps_len h2]
    exact q _ H (.int _) F (Ex.refl _) c rfl k
  · obtain ⟨v, rfl, a, e1, h1⟩ := vals1 rx
    refine .inl ⟨a, _, by rw [e1], .inl (Evl.ex_l c.bs.fH h1), ?_⟩
    rw [List.length_map]
    exact q _ H (.int _) F (Ex.refl _) c rfl k
  · obtain ⟨v, rfl, e1⟩ := vals1 rx
    exact .inr ⟨_, by rw [show v = _ from e1], k.1, q _ H (.int _) F (Ex.refl _) c rfl k.2⟩
  · exact k.elim
theorem qe_len {p : Pos} (hg : Gl X "len") (hm : X.mg "len" = none) (ha : QA X Z n (e :: es) rl) (he : starEach (e :: es) X.env = (false, eval e X.env) :: starEach es X.env := by rfl) (hpl : (backTo pos (starEach es X.env)).any (·.1) = false := by rfl) :
    QE X Z (.Call (.Name "len" p) (e :: es) [] pos) (dCB dLen rl) := qe_cb cr_lenAll cd_len hg hm boot_len ha (by decide) (by decide) he hpl
/-- len of an own list -/
def dLenO (j : Nat) : RE := fun Δ M Φ => match Δ[j]? with
  | some (.own ds) => Φ (.int (ds.length : Nat)) Δ M
  | _ => False
theorem qe_lenO (j : Nat) {x : Str} {p p2 : Pos} (hg : Gl X "len") (hm : X.mg "len" = none) (hN : X.N[j]? = some x := by rfl) (hv : Vis X.env.scope x := by first | exact Or.inl rfl | exact Or.inr (Or.inl rfl) | exact Or.inr (Or.inr rfl)) (hd : (x == ("__debug__" : Str)) = false := by decide)
    (hcd : (x == ("__classdict__" : Str)) = false := by decide) (he : starEach [.Name x p2] X.env = (false, eval (.Name x p2) X.env) :: starEach [] X.env := by rfl) (hpl : (backTo pos (starEach [] X.env)).any (·.1) = false := by rfl) :
    QE X Z (.Call (.Name "len" p) [.Name x p2] [] pos) (dLenO j) := by
  refine ⟨_, pe_callB cr_lenAll hg hm boot_len (pa_cons (pe_var (i := j) hN hv hd hcd) pa_nil he) (by decide) (by decide) he hpl, ?_⟩
  intro M σ H Δ F Φ c h Q q
  unfold dLenO at h
  split at h
  · rename_i ds hj
    obtain ⟨a, vs, hv0, g1, g2, _⟩ := c.slot j _ hj
    refine ⟨_, hv0, .inl ⟨a, vs, rfl, .inl (SqL.of g1), ?_⟩⟩
    rw [rps_len g2]
    exact q _ H (.int _) Δ M F (Ex.refl _) c rfl h
  · exact h.elim
/-- abs, int, gcd, max, min of ints -/
def dAbs : List D → (D → Prop) → Prop := fun xs Φ => match xs with
  | [.int i] => Φ (.int (if i < 0 then -i else i))
  | _ => False
def rAbs : List V → Hp → VK → Prop := fun xs H Q => ∃ i, xs = [.int i] ∧ Q (.int (if i < 0 then -i else i)) H
theorem cr_abs : CallR X (.builtin "abs") rAbs := call_abs
theorem cd_abs : CallD K rAbs dAbs := by
  intro Z M σ H Δ F xs vs Φ c rx k Q q
  unfold dAbs at k
  split at k
  · obtain ⟨v, rfl, e1⟩ := vals1 rx
    exact ⟨_, by rw [show v = _ from e1], q _ H (.int _) F (Ex.refl _) c rfl k⟩
  · exact k.elim
theorem qe_abs {p : Pos} (hg : Gl X "abs") (hm : X.mg "abs" = none) (ha : QA X Z n (e :: es) rl) (he : starEach (e :: es) X.env = (false, eval e X.env) :: starEach es X.env := by rfl) (hpl : (backTo pos (starEach es X.env)).any (·.1) = false := by rfl) :
    QE X Z (.Call (.Name "abs" p) (e :: es) [] pos) (dCB dAbs rl) := qe_cb cr_abs cd_abs hg hm (by decide +kernel) ha (by decide) (by decide) he hpl
def dInt : List D → (D → Prop) → Prop := fun xs Φ => match xs with
  | [.int i] => Φ (.int i)
  | [.bl k] => Φ (.int (if k then 1 else 0))
  | _ => False
def rInt : List V → Hp → VK → Prop := fun xs H Q => (∃ i, xs = [.int i] ∧ Q (.int i) H) ∨ ∃ k, xs = [.bl k] ∧ Q (.int (if k then 1 else 0)) H
theorem cr_int : CallR X (.type "int") rInt := call_int1
theorem cd_int : CallD K rInt dInt := by
  intro Z M σ H Δ F xs vs Φ c rx k Q q
  unfold dInt at k
  split at k
  · obtain ⟨v, rfl, e1⟩ := vals1 rx
    exact .inl ⟨_, by rw [show v = _ from e1], q _ H (.int _) F (Ex.refl _) c rfl k⟩
  · obtain ⟨v, rfl, e1⟩ := vals1 rx
    exact .inr ⟨_, by rw [show v = _ from e1], q _ H (.int _) F (Ex.refl _) c rfl k⟩
  · exact k.elim
theorem qe_int1 {p : Pos} (hg : Gl X "int") (hm : X.mg "int" = none) (ha : QA X Z n (e :: es) rl) (he : starEach (e :: es) X.env = (false, eval e X.env) :: starEach es X.env := by rfl) (hpl : (backTo pos (starEach es X.env)).any (·.1) = false := by rfl) :
    QE X Z (.Call (.Name "int" p) (e :: es) [] pos) (dCB dInt rl) := qe_cty cr_int cd_int hg hm (by decide +kernel) ha (by decide) (by decide) he hpl
def dI2 (g : Int → Int → D) : List D → (D → Prop) → Prop := fun xs Φ => match xs with
  | [.int i, .int j] => Φ (g i j)
  | _ => False
theorem cd_I2 {g : Int → Int → V} {g' : Int → Int → D} (hg : ∀ F i j, Rp K F (g' i j) (g i j)) : CallD K (fun xs H Q => ∃ i j, xs = [.int i, .int j] ∧ Q (g i j) H) (dI2 g') := by
  intro Z M σ H Δ F xs vs Φ c rx k Q q
  unfold dI2 at k
  split at k
  · obtain ⟨v, w, rfl, e1, e2⟩ := vals2 rx
    exact ⟨_, _, by rw [show v = _ from e1, show w = _ from e2], q _ H _ F (Ex.refl _) c (hg F _ _) k⟩
  · exact k.elim
theorem qe_gcd {p : Pos} {x : Str} (hg : Gl X x) (hm : X.mg x = some (.builtin "math.gcd")) (ha : QA X Z n (e :: es) rl) (hdb : (x == ("__debug__" : Str)) = false := by decide) (he : starEach (e :: es) X.env = (false, eval e X.env) :: starEach es X.env := by rfl) (hpl : (backTo pos (starEach es X.env)).any (·.1) = false := by rfl) :
    QE X Z (.Call (.Name x p) (e :: es) [] pos) (dCB (dI2 fun i j => .int ((Nat.gcd i.natAbs j.natAbs : Nat) : Int)) rl) := qe_cbf cr_gcd (cd_I2 fun _ _ _ => rfl) hg hm ha hdb he hpl
theorem qe_max2 {p : Pos} (hc : X.calm = true) (hg : Gl X "max") (hm : X.mg "max" = none) (ha : QA X Z n (e :: es) rl) (he : starEach (e :: es) X.env = (false, eval e X.env) :: starEach es X.env := by rfl) (hpl : (backTo pos (starEach es X.env)).any (·.1) = false := by rfl) :
    QE X Z (.Call (.Name "max" p) (e :: es) [] pos) (dCB (dI2 fun i j => .int (if j > i then j else i)) rl) := qe_cb (call_max2 hc) (cd_I2 fun _ _ _ => rfl) hg hm (by decide +kernel) ha (by decide) (by decide) he hpl
theorem qe_min2 {p : Pos} (hc : X.calm = true) (hg : Gl X "min") (hm : X.mg "min" = none) (ha : QA X Z n (e :: es) rl) (he : starEach (e :: es) X.env = (false, eval e X.env) :: starEach es X.env := by rfl) (hpl : (backTo pos (starEach es X.env)).any (·.1) = false := by rfl) :
    QE X Z (.Call (.Name "min" p) (e :: es) [] pos) (dCB (dI2 fun i j => .int (if j < i then j else i)) rl) := qe_cb (call_min2 hc) (cd_I2 fun _ _ _ => rfl) hg hm (by decide +kernel) ha (by decide) (by decide) he hpl
/-- -x -/
def dNeg (r : RE) : RE := fun Δ M Φ => r Δ M fun x Δ1 M1 => match x with
  | .int i => Φ (.int (-i)) Δ1 M1
  | _ => False
theorem qe_neg (h : QE X Z e r) : QE X Z (.UnaryOp .USub e pos) (dNeg r) := by
  obtain ⟨t, p, s⟩ := h
  refine ⟨_, pe_un un_neg p, fun M σ H Δ F Φ c h Q q => ?_⟩
  refine s M σ H Δ F _ c h _ fun v H1 x Δ1 M1 F1 e1 c1 r1 h1 => ?_
  cases x with
  | int i => exact ⟨i, r1, q _ H1 (.int (-i)) Δ1 M1 F1 e1 c1 rfl h1⟩
  | _ => exact h1.elim
/-- isinstance(x, T), T a built-in type -/
def D.ty : D → String
  | .non => "NoneType" | .bl _ => "bool" | .int _ => "int" | .str _ => "str" | .tup _ => "tuple" | .lst _ => "list" | .scr _ => "list" | .ref _ => "?" | .rng _ _ => "range"
def D.isDat : D → Prop
  | .ref _ => False
  | .rng _ _ => False
  | _ => True
def dIsi (T : String) (r : RE) : RE := fun Δ M Φ => r Δ M fun x Δ1 M1 => match x with
  | .ref _ => False
  | .rng _ _ => False
  | x => ∃ b, kitB x.ty T = some b ∧ Φ (.bl b) Δ1 M1
theorem rp_tyx {F H : Hp} (e : Ex F H) {d : D} {v : V} (h : Rp K F d v) : d.isDat → TyX K H v (.type d.ty) := by
  intro hd
  cases d with
  | non => rw [show v = .non from h]; exact .base .non
  | bl b => rw [show v = .bl b from h]; exact .base (.bl b)
  | int b => rw [show v = .int b from h]; exact .base (.int b)
  | str b => rw [show v = .str b from h]; exact .base (.str b)
  | tup ds =>
    obtain ⟨a, vs, e1, h1, h2⟩ := h
    rw [e1]
    rcases Evl.ex_t e h1 with (h1 | ⟨o, h1⟩) | ⟨o, its, n, hk, hc, _⟩
    · exact .base (.tup h1)
    · exact .fTuple h1
    · exact .kTuple hk hc
  | lst ds =>
    obtain ⟨a, vs, e1, h1, h2⟩ := h
    rw [e1]
    exact .base (.lst (e _ _ h1))
  | scr ns =>
    obtain ⟨a, e1, h1⟩ := h
    rw [e1]
    rcases Evl.ex_l e h1 with (h1 | ⟨o, h1⟩) | ⟨o, its, n, hk, hc, _⟩
    · exact .base (.lst h1)
    · exact .base (.frz h1)
    · exact .kList hk hc
  | ref a => exact hd.elim
  | rng lo hi => exact hd.elim
theorem qe_isi {T : String} {x : Str} {p p2 : Pos} (h : QE X Z e r) (hg : Gl X "isinstance") (hm : X.mg "isinstance" = none) (hg2 : Gl X x) (hm2 : X.mg x = none) (hb : bootBuiltins x = some (.type T)) (hn : x ≠ "__name__" := by decide) (hdb : (x == ("__debug__" : Str)) = false := by decide)
    (he : starEach [e, .Name x p2] X.env = (false, eval e X.env) :: starEach [.Name x p2] X.env := by rfl) (he2 : starEach [.Name x p2] X.env = (false, eval (.Name x p2) X.env) :: starEach [] X.env := by rfl) (hpl : (backTo pos (starEach [.Name x p2] X.env)).any (·.1) = false := by rfl) :
    QE X Z (.Call (.Name "isinstance" p) [e, .Name x p2] [] pos) (dIsi T r) := by
  obtain ⟨t, pe, s⟩ := h
  refine ⟨_, pe_callB call_isi hg hm (by decide +kernel) (pa_cons pe (pa_cons (pe_bltn hg2 hm2 hb (v := .ty T) rfl hn hdb) pa_nil he2) he) (by decide) (by decide) he hpl, fun M σ H Δ F Φ c h Q q => ?_⟩
  refine s M σ H Δ F _ c h _ fun v H1 y Δ1 M1 F1 e1 c1 r1 h1 => ?_
  have hd : y.isDat ∧ ∃ b, kitB y.ty T = some b ∧ Φ (.bl b) Δ1 M1 := by
    cases y <;> first
      | exact h1.elim
      | exact ⟨True.intro, h1⟩
  obtain ⟨hd, b, k1, k2⟩ := hd
  exact ⟨v, .ty T, _, _, b, rfl, .ty T, rp_tyx c1.bs.fH r1 hd, kit_ty k1, q _ H1 (.bl b) Δ1 M1 F1 e1 c1 rfl k2⟩
end
end DL

set_option Elab.async false
set_option linter.all false
set_option maxRecDepth 100000
set_option maxHeartbeats 4000000
namespace DL
open PySem L2
open Evl (Ex)
section
variable {X : Cx} {Z : Zx} {e a b c : Expr} {ra rb rc r : RE} {rt ru : RT} {pos : Pos} {es : List Expr} {rl : RA} {n : Nat} {K : PySem.W.Frag} {st : Stmt} {sts : List Stmt} {s1 s2 s3 : RS}

/-! ### statements -/
def dNext : RS := fun D Δ M => D.nx Δ M
def dSeq (r u : RS) : RS := fun D Δ M => r { D with nx := fun Δ1 M1 => u D Δ1 M1 } Δ M
def dBrk : RS := fun D Δ M => D.bk Δ M
def dCt : RS := fun D Δ M => D.ct Δ M
theorem qss_nil : QSs X Z [] dNext := ⟨_, pss_nil, fun M σ H Δ F De c h Dv ok => ok.nx _ _ _ _ _ (Ex.refl _) c h⟩
theorem qss_one (h : QS X Z st s1) : QSs X Z [st] s1 := by
  obtain ⟨t, p, s⟩ := h
  exact ⟨t, pss_one p, s⟩
theorem simS_seq {t u : TS} (h1 : SimS K Z t s1) (h2 : SimS K Z u s2) : SimS K Z (tSeq t u) (dSeq s1 s2) := by
  intro M σ H Δ F De c h Dv ok
  exact h1 M σ H Δ F _ c h _ ⟨fun σ' H' Δ' M' F' e c' k => h2 M' σ' H' Δ' F' De c' k Dv (ok.mono e), ok.rt, ok.bk, ok.ct⟩
theorem qss_cons (h : QS X Z st s1) (h2 : QSs X Z sts s2) : QSs X Z (st :: sts) (dSeq s1 s2) := by
  obtain ⟨t, p, s⟩ := h
  obtain ⟨u, p2, s2⟩ := h2
  exact ⟨_, pss_cons p p2, simS_seq s s2⟩
theorem qs_pass : QS X Z (.Pass pos) dNext := ⟨_, ps_pass, fun M σ H Δ F De c h Dv ok => ok.nx _ _ _ _ _ (Ex.refl _) c h⟩
theorem qs_brk : QS X Z (.Break pos) dBrk := ⟨_, ps_break, fun M σ H Δ F De c h Dv ok => ok.bk _ _ _ _ _ (Ex.refl _) c h⟩
theorem qs_ct : QS X Z (.Continue pos) dCt := ⟨_, ps_continue, fun M σ H Δ F De c h Dv ok => ok.ct _ _ _ _ _ (Ex.refl _) c h⟩
theorem qs_doc {x j pos'} : QS X Z (.Expr (.Constant (.str x) j pos) pos') dNext := ⟨_, ps_doc, fun M σ H Δ F De c h Dv ok => ok.nx _ _ _ _ _ (Ex.refl _) c h⟩
def dRet (r : RE) : RS := fun D Δ M => r Δ M fun d _ M1 => D.rt d M1
theorem qs_ret (h : QE X Z e r) : QS X Z (.Return (some e) pos) (dRet r) := by
  obtain ⟨t, p, s⟩ := h
  refine ⟨_, ps_ret p, fun M σ H Δ F De c h Dv ok => ?_⟩
  exact s M σ H Δ F _ c h _ fun v H1 d Δ1 M1 F1 e1 c1 r1 h1 => ok.rt v H1 d M1 F1 e1 c1.bs r1 h1
def dRetN : RS := fun D _ M => D.rt .non M
theorem qs_retN : QS X Z (.Return none pos) dRetN := ⟨_, ps_retN, fun M σ H Δ F De c h Dv ok => ok.rt .non H .non M F (Ex.refl _) c.bs rfl h⟩
def dDrop (r : RE) : RS := fun D Δ M => r Δ M fun _ Δ1 M1 => D.nx Δ1 M1
theorem qs_expr (h : QE X Z e r) (hs : swapsWith e none pos.line X.env = pure false := by rfl) : QS X Z (.Expr e pos) (dDrop r) := by
  obtain ⟨t, p, s⟩ := h
  refine ⟨_, ps_expr p hs, fun M σ H Δ F De c h Dv ok => ?_⟩
  exact s M σ H Δ F _ c h _ fun v H1 d Δ1 M1 F1 e1 c1 r1 h1 => ok.nx σ H1 Δ1 M1 F1 e1 c1 h1
def dIfS (t : RT) (u v : RS) : RS := fun D Δ M => t Δ M fun k Δ1 M1 => match k with
  | true => u D Δ1 M1
  | false => v D Δ1 M1
theorem qs_if {u v : List Stmt} (ht : QT X Z e rt) (h1 : QSs X Z u s1) (h2 : QSs X Z v s2) : QS X Z (.If e u v pos) (dIfS rt s1 s2) := by
  obtain ⟨t, p, s⟩ := ht
  obtain ⟨t1, p1, q1⟩ := h1
  obtain ⟨t2, p2, q2⟩ := h2
  refine ⟨_, ps_if p p1 p2, fun M σ H Δ F De c h Dv ok => ?_⟩
  refine s M σ H Δ F _ c h _ fun k H1 Δ1 M1 F1 e1 c1 h1 => ?_
  cases k with
  | true => exact iteT (q1 M1 σ H1 Δ1 F1 De c1 h1 Dv (ok.mono e1))
  | false => exact iteF (q2 M1 σ H1 Δ1 F1 De c1 h1 Dv (ok.mono e1))
/-- x = e -/
def dSet (i : Nat) (r : RE) : RS := fun D Δ M => r Δ M fun d Δ1 M1 => D.nx (Δ1.set i (.d d)) M1
theorem qs_set {i : Nat} {x : Str} {pos' : Pos} (hN : X.N.Nodup) (h : QE X Z e r) (hi : X.N[i]? = some x := by rfl) (hx : Loc X.env.scope x := by first | exact Or.inl rfl | exact Or.inr rfl) (hs : swapsWith e (some (.Name x pos')) pos.line X.env = pure false := by rfl)
    (hf : X.fn x = true ∨ X.env.scope.names.lookup x = some .local := by first | exact .inl rfl | exact .inr rfl) : QS X Z (.Assign [.Name x pos'] e pos) (dSet i r) := by
  obtain ⟨t, p, s⟩ := h
  refine ⟨_, ps_set (i := i) hN hi hx p hs hf, fun M σ H Δ F De c h Dv ok => ?_⟩
  exact s M σ H Δ F _ c h _ fun v H1 d Δ1 M1 F1 e1 c1 r1 h1 => ok.nx _ H1 _ M1 F1 e1 (c1.set r1 i) h1
/-- x = a new list, which x owns -/
def dSetO (i : Nat) (rl : RA) : RS := fun D Δ M => rl Δ M fun ds Δ1 M1 => D.nx (Δ1.set i (.own ds)) M1
theorem qs_setO {i : Nat} {x : Str} {pos' : Pos} (hN : X.N.Nodup) (h : QL X Z e rl) (hi : X.N[i]? = some x := by rfl) (hx : Loc X.env.scope x := by first | exact Or.inl rfl | exact Or.inr rfl) (hs : swapsWith e (some (.Name x pos')) pos.line X.env = pure false := by rfl)
    (hf : X.fn x = true ∨ X.env.scope.names.lookup x = some .local := by first | exact .inl rfl | exact .inr rfl) : QS X Z (.Assign [.Name x pos'] e pos) (dSetO i rl) := by
  obtain ⟨t, p, s⟩ := h
  refine ⟨_, ps_set (i := i) hN hi hx p hs hf, fun M σ H Δ F De c h Dv ok => ?_⟩
  exact s M σ H Δ F _ c h _ fun p H1 vs ds Δ1 M1 F1 e1 c1 hp r1 h1 => ok.nx _ _ _ M1 F1 e1 (c1.setOwn hp r1 i) h1
/-- x, y = e -/
def dUnp : List Nat → RE → RS := fun is r D Δ M => r Δ M fun x Δ1 M1 => match x with
  | .tup ds => ds.length = is.length ∧ D.nx ((is.zip ds).foldl (fun Δ p => Δ.set p.1 (.d p.2)) Δ1) M1
  | _ => False
/-- targets that are names -/
def gNames : List Nat → TGs
  | [] => gNil
  | i :: is => gCons (gName i) (gNames is)
theorem simG_names {M : Mem} {H F : Hp} {Q : L2.St → Hp → Prop} : ∀ (is : List Nat) (ds : List D) (vs : List V) (σ : L2.St) (Δ : List Sl), Cn K Z M σ H Δ F → Rps K F ds vs → ds.length = is.length →
    (∀ σ', Cn K Z M σ' H ((is.zip ds).foldl (fun Δ p => Δ.set p.1 (.d p.2)) Δ) F → Q σ' H) → gNames is vs σ H Q
  | [], ds, vs, σ, Δ, c, r, hl, q => by
    have e : ds = [] := List.length_eq_zero_iff.mp hl
    subst e
    exact ⟨r, q σ c⟩
  | i :: is, [], vs, σ, Δ, c, r, hl, q => by cases hl
  | i :: is, d :: ds, vs, σ, Δ, c, r, hl, q => by
    obtain ⟨v, ws, e, h1, h2⟩ := r
    exact ⟨v, ws, e, simG_names is ds ws _ _ (c.set h1 i) h2 (by simpa using hl) q⟩
theorem qs_unp {is : List Nat} {tgs : List Expr} {k : Nat} {tp : Pos} (hc : X.calm = true) (h : QE X Z e r) (hg : PGs X tgs (gNames is)) (hn : tgs.length = is.length := by rfl) (hs : swapsWithSole [.Tuple tgs k tp] e pos.line X.env = pure false := by rfl) (hw : swappedStores [.Tuple tgs k tp] e X.env = pure none := by rfl)
    (hp : tgs.length = is.length := by rfl)
    (hpg : PGs X tgs (gNames is) → PG X (.Tuple tgs k tp) (gTup X.K is.length (gNames is)) := by intro hg; exact pg_tup rfl hg) : QS X Z (.Assign [.Tuple tgs k tp] e pos) (dUnp is r) := by
  obtain ⟨t, p, s⟩ := h
  refine ⟨_, ps_asg p (hpg hg) hs hw, fun M σ H Δ F De c h Dv ok => ?_⟩
  refine s M σ H Δ F _ c h _ fun v H1 x Δ1 M1 F1 e1 c1 r1 h1 => ?_
  cases x with
  | tup ds =>
    obtain ⟨a, vs, e2, h2, h3⟩ := r1
    refine ⟨a, vs, e2, Evl.ex_t c1.bs.fH h2, by rw [rps_len h3]; exact h1.1, ?_⟩
    exact simG_names is ds vs σ Δ1 c1 h3 h1.1 fun σ' c' => ok.nx σ' H1 _ M1 F1 e1 c' h1.2
  | _ => exact h1.elim
/-- x, y = a, b -/
def dPar (i j : Nat) (rl : RA) : RS := fun D Δ M => rl Δ M fun ds Δ1 M1 => match ds with
  | [x, y] => D.nx ((Δ1.set i (.d x)).set j (.d y)) M1
  | _ => False
theorem qs_par {i j : Nat} {x y : Str} {px py pt : Pos} {kt k2 pt2} (hN : X.N.Nodup) (h : QA X Z 2 [a, b] rl) (hc : X.calm = true := by rfl) (hi : X.N[i]? = some x := by rfl) (hj : X.N[j]? = some y := by rfl) (hij : i ≠ j := by decide) (hx : X.env.scope.names.lookup x = some .local := by rfl) (hy : X.env.scope.names.lookup y = some .local := by rfl)
    (hw : swappedStores [.Tuple [.Name x px, .Name y py] kt pt] (.Tuple [a, b] k2 pt2) X.env = pure (some [x, y]) := by rfl)
    (hs : swapsWithSole [.Tuple [.Name x px, .Name y py] kt pt] (.Tuple [a, b] k2 pt2) pos.line X.env = pure false := by rfl) : QS X Z (.Assign [.Tuple [.Name x px, .Name y py] kt pt] (.Tuple [a, b] k2 pt2) pos) (dPar i j rl) := by
  obtain ⟨t, p, s⟩ := h
  refine ⟨_, ps_par hc hN hi hj hij hx hy p hw hs, fun M σ H Δ F De c h Dv ok => ?_⟩
  refine s M σ H Δ F _ c h _ fun vs H1 ds Δ1 M1 F1 e1 c1 r1 hl h1 => ?_
  match ds, r1, h1 with
  | [d1, d2], r1, h1 =>
    obtain ⟨v, w, e2, q1, q2⟩ := vals2 r1
    exact ⟨v, w, e2, ok.nx _ H1 _ M1 F1 e1 ((c1.set q1 i).set q2 j) h1⟩
/-- x += e -/
def dAug (i : Nat) (dr : D → D → (D → Prop) → Prop) (r : RE) : RS := fun D Δ M => match Δ[i]? with
  | some (.d x) => r Δ M fun y Δ1 M1 => dr x y fun z => D.nx (Δ1.set i (.d z)) M1
  | _ => False
theorem qs_aug {i : Nat} {x : Str} {pos' : Pos} {op : Operator} {ti : TIp} {dr : D → D → (D → Prop) → Prop} (ho : PIp X op ti) (hd : OpD X.K ti dr) (hN : X.N.Nodup) (h : QE X Z e r) (hi : X.N[i]? = some x := by rfl) (hx : Loc X.env.scope x := by first | exact Or.inl rfl | exact Or.inr rfl)
    (hf : X.fn x = true ∨ X.env.scope.names.lookup x = some .local := by first | exact .inl rfl | exact .inr rfl) : QS X Z (.AugAssign (.Name x pos') op e pos) (dAug i dr r) := by
  obtain ⟨t, p, s⟩ := h
  refine ⟨_, ps_aug (i := i) hN hi hx p ho hf, fun M σ H Δ F De c h Dv ok => ?_⟩
  unfold dAug at h
  split at h
  · rename_i x0 hj
    obtain ⟨v, hv, rv⟩ := c.slot i _ hj
    refine ⟨v, hv, ?_⟩
    refine s M σ H Δ F _ c h _ fun w H1 y Δ1 M1 F1 e1 c1 r1 h1 => ?_
    exact hd Z M1 σ H1 Δ1 F1 x0 y v w _ c1 (rp_mono e1 _ _ rv) r1 h1 _ fun u H2 d F2 e2 c2 r2 k2 => ok.nx _ H2 _ M1 F2 (e1.trans e2) (c2.set r2 i) k2
  · exact h.elim
def dPlus : D → D → (D → Prop) → Prop := dI fun i j => .int (i + j)
def dMinus : D → D → (D → Prop) → Prop := dI fun i j => .int (i - j)
theorem od_ip {g : Int → Int → Int} : OpD K (ipI g) (dI fun i j => .int (g i j)) := by
  intro Z M σ H Δ F x y v w Φ c rx ry k Q q
  unfold dI at k
  split at k
  · exact ⟨_, _, rx, ry, q _ H (.int _) F (Ex.refl _) c rfl k⟩
  · exact k.elim
theorem qs_inc {i : Nat} {x : Str} {pos' : Pos} (hN : X.N.Nodup) (h : QE X Z e r) (hi : X.N[i]? = some x := by rfl) (hx : Loc X.env.scope x := by first | exact Or.inl rfl | exact Or.inr rfl)
    (hf : X.fn x = true ∨ X.env.scope.names.lookup x = some .local := by first | exact .inl rfl | exact .inr rfl) : QS X Z (.AugAssign (.Name x pos') .Add e pos) (dAug i dPlus r) := qs_aug ip_add od_ip hN h hi hx hf
/-- x.append(e), x an own list -/
def dApp (j : Nat) (r : RE) : RS := fun D Δ M => isOwn Δ j ∧ r Δ M fun d Δ1 M1 => match Δ1[j]? with
  | some (.own ds) => ds.length < sizeLine ∧ D.nx (Δ1.set j (.own (ds ++ [d]))) M1
  | _ => False
theorem qs_app {j : Nat} {x : Str} {p1 p2 pos' : Pos} (h : QE X Z e r) (hN : X.N[j]? = some x := by rfl) (hv : Vis X.env.scope x := by first | exact Or.inl rfl | exact Or.inr (Or.inl rfl) | exact Or.inr (Or.inr rfl)) (hd : (x == ("__debug__" : Str)) = false := by decide) (hcd : (x == ("__classdict__" : Str)) = false := by decide)
    (hpe : ∀ t, PE X e t → PE X (.Call (.Attribute (.Name x p1) "append" p2) [e] [] pos) (tBM X.K "list" rAppend (tVar j) (tCons t tNil)) := by intro t ht; exact pe_bm PySem.F.plainAttrs_list PySem.F.slot_list_append PySem.F.type_list_append mt_append (pv _) (pa_cons ht pa_nil))
    (hs : swapsWith (.Call (.Attribute (.Name x p1) "append" p2) [e] [] pos) none pos'.line X.env = pure false := by rfl) : QS X Z (.Expr (.Call (.Attribute (.Name x p1) "append" p2) [e] [] pos) pos') (dApp j r) := by
  obtain ⟨t, p, s⟩ := h
  refine ⟨_, ps_expr (hpe t p) hs, ?_⟩
  rintro M σ H Δ F De c ⟨⟨ds0, h0⟩, h⟩ Dv ok
  obtain ⟨a, vs0, hv0, g0, _⟩ := c.slot j _ h0
  refine ⟨_, hv0, .inl ⟨rfl, _, SqL.of g0⟩, ?_⟩
  refine s M σ H Δ F _ c h _ fun w H1 y Δ1 M1 F1 e1 c1 r1 h1 => ?_
  split at h1
  · rename_i ds hj
    obtain ⟨a', vs, hv1, g1, g2, g3, g4, g5⟩ := c1.slot j _ hj
    rw [hv0] at hv1
    cases hv1
    refine ⟨a, vs, w, rfl, rfl, g1, by rw [rps_len g2]; exact h1.1, ?_⟩
    exact ok.nx σ _ _ M1 F1 e1 (c1.change hj hv0 g3 g4 g5 (rps_app g2 (rps_one r1))) h1.2
  · exact h1.elim

/-! ### loops -/
def fgt : List Nat → List Sl → List Sl
  | [], Δ => Δ
  | j :: js, Δ => fgt js (Δ.set j .un)
theorem cn_fgt {M : Mem} {σ : L2.St} {H F : Hp} : ∀ (js : List Nat) (Δ : List Sl), Cn K Z M σ H Δ F → Cn K Z M σ H (fgt js Δ) F
  | [], _, c => c
  | j :: js, Δ, c => cn_fgt js _ (c.drop j)
/-- a loop's target: a name; names of a tuple's parts -/
abbrev RG := D → List Sl → (List Sl → Prop) → Prop
def tgN (j : Nat) : RG := fun d Δ Φ => Φ (Δ.set j (.d d))
def tgU (is : List Nat) : RG := fun d Δ Φ => match d with
  | .tup ds => ds.length = is.length ∧ Φ ((is.zip ds).foldl (fun Δ p => Δ.set p.1 (.d p.2)) Δ)
  | _ => False
def SimG (K : PySem.W.Frag) (Z : Zx) (g : TG) (r : RG) : Prop := ∀ (M : Mem) (σ : L2.St) (H : Hp) (Δ : List Sl) (F : Hp) (d : D) (v : V) (Φ : List Sl → Prop), Cn K Z M σ H Δ F → Rp K F d v → r d Δ Φ →
  ∀ Q : L2.St → Hp → Prop, (∀ σ' Δ', Cn K Z M σ' H Δ' F → Φ Δ' → Q σ' H) → g v σ H Q
theorem simG_name {j : Nat} : SimG K Z (gName j) (tgN j) := fun M σ H Δ F d v Φ c r h Q q => q _ _ (c.set r j) h
theorem simG_tup {is : List Nat} : SimG K Z (gTup K is.length (gNames is)) (tgU is) := by
  intro M σ H Δ F d v Φ c r h Q q
  unfold tgU at h
  split at h
  · obtain ⟨a, vs, e, h1, h2⟩ := r
    exact ⟨a, vs, e, Evl.ex_t c.bs.fH h1, by rw [rps_len h2]; exact h.1, simG_names is _ vs σ Δ c h2 h.1 fun σ' c' => q σ' _ c' h.2⟩
  · exact h.elim
/-- a loop over the items xs; js: slots that are forgotten at each turn's end; Pv: what holds between the turns -/
def dLoopG (tg : RG) (js : List Nat) (xs : List D) (u : RS) : RS := fun D Δ M => ∃ Pv : Nat → List Sl → Mem → Prop, Pv 0 (fgt js Δ) M ∧
  (∀ i d Δ1 M1, xs[i]? = some d → Pv i Δ1 M1 → tg d Δ1 fun Δ2 => u { D with nx := fun Δ2 M2 => Pv (i + 1) (fgt js Δ2) M2, ct := fun Δ2 M2 => Pv (i + 1) (fgt js Δ2) M2, bk := D.nx } Δ2 M1) ∧ ∀ Δ1 M1, Pv xs.length Δ1 M1 → D.nx Δ1 M1
abbrev dLoop (j : Nat) (js : List Nat) (xs : List D) (u : RS) : RS := dLoopG (tgN j) js xs u
theorem endsLoop {F F1 : Hp} {De : DE} {Dv : Ends} {js : List Nat} {i : Nat} {Pv : Nat → List Sl → Mem → Prop} (ok : EndsOk K Z F De Dv) (e : Ex F F1) {N : L2.St → Hp → Prop} (hN : ∀ σ H Δ M F', Ex F1 F' → Cn K Z M σ H Δ F' → Pv (i + 1) Δ M → N σ H) :
    EndsOk K Z F1 { De with nx := fun Δ2 M2 => Pv (i + 1) (fgt js Δ2) M2, ct := fun Δ2 M2 => Pv (i + 1) (fgt js Δ2) M2, bk := De.nx } { Dv with nx := N, ct := N, bk := Dv.nx } :=
  ⟨fun σ' H' Δ' M' F' e1 c' k => hN _ _ _ _ _ e1 (cn_fgt js _ c') k, (ok.mono e).rt, (ok.mono e).nx, fun σ' H' Δ' M' F' e1 c' k => hN _ _ _ _ _ e1 (cn_fgt js _ c') k⟩
theorem loop_list {a : Addr} {xs : List V} {ds : List D} {g : TG} {tg : RG} (hg : SimG K Z g tg) {js : List Nat} {t : TS} {u : RS} (hu : SimS K Z t u) {M : Mem} {σ : L2.St} {H F : Hp} {Δ : List Sl} {De : DE} {Dv : Ends} (c : Cn K Z M σ H Δ F)
    (hx : SqL K F a xs) (hr : Rps K F ds xs) (h : dLoopG tg js ds u De Δ M) (ok : EndsOk K Z F De Dv) :
    ∃ W : Nat → Nat → L2.St → Hp → Prop, (∃ m, W 0 m σ H) ∧ ∀ i m σ H, W i m σ H →
      ((Itl K a).stop i H ∧ Dv.nx σ H) ∨ ((Itl K a).go i H ∧ ∃ N : L2.St → Hp → Prop, (∀ σ' H', N σ' H' → ∃ m', m' < m ∧ W (i + 1) m' σ' H') ∧ ∀ x H', (Itl K a).yld i H x H' → g x σ H' fun σ2 H2 => t { Dv with nx := N, ct := N, bk := Dv.nx } σ2 H2) := by
  obtain ⟨Pv, h0, hs, hd⟩ := h
  have hlen : xs.length = ds.length := rps_len hr
  refine for_list (K := K) (a := a) (xs := xs) (fun i σ H => ∃ Δ M F', Ex F F' ∧ Cn K Z M σ H Δ F' ∧ Pv i Δ M) ⟨_, M, F, Ex.refl _, cn_fgt js _ c, h0⟩ ?_ ?_ ?_
  · rintro i σ H _ ⟨Δ, M, F', e, c, _⟩
    exact Evl.ex_l c.bs.fH (Evl.ex_l e hx)
  · rintro i x σ H hi ⟨Δ, M, F', e, c, hp⟩
    obtain ⟨d, hd', r⟩ := rps_get' (rps_mono e _ _ hr) hi
    exact hg M σ H Δ F' d x _ c r (hs i d Δ M hd' hp) _ fun σ2 Δ2 c2 h2 => hu M σ2 H Δ2 F' _ c2 h2 _ (endsLoop (js := js) (Pv := Pv) ok e fun σ' H' Δ' M' F'' e1 c' k => ⟨Δ', M', F'', e.trans e1, c', k⟩)
  · rintro σ H ⟨Δ, M, F', e, c, hp⟩
    rw [hlen] at hp
    exact ok.nx σ H Δ M F' e c (hd _ _ hp)
theorem loop_tup {a : Addr} {xs : List V} {ds : List D} {g : TG} {tg : RG} (hg : SimG K Z g tg) {js : List Nat} {t : TS} {u : RS} (hu : SimS K Z t u) {M : Mem} {σ : L2.St} {H F : Hp} {Δ : List Sl} {De : DE} {Dv : Ends} (c : Cn K Z M σ H Δ F)
    (hx : SqT K F a xs) (hr : Rps K F ds xs) (h : dLoopG tg js ds u De Δ M) (ok : EndsOk K Z F De Dv) :
    ∃ W : Nat → Nat → L2.St → Hp → Prop, (∃ m, W 0 m σ H) ∧ ∀ i m σ H, W i m σ H →
      ((Itt K a).stop i H ∧ Dv.nx σ H) ∨ ((Itt K a).go i H ∧ ∃ N : L2.St → Hp → Prop, (∀ σ' H', N σ' H' → ∃ m', m' < m ∧ W (i + 1) m' σ' H') ∧ ∀ x H', (Itt K a).yld i H x H' → g x σ H' fun σ2 H2 => t { Dv with nx := N, ct := N, bk := Dv.nx } σ2 H2) := by
  obtain ⟨Pv, h0, hs, hd⟩ := h
  have hlen : xs.length = ds.length := rps_len hr
  refine for_tup (K := K) (a := a) (xs := xs) (fun i σ H => ∃ Δ M F', Ex F F' ∧ Cn K Z M σ H Δ F' ∧ Pv i Δ M) ⟨_, M, F, Ex.refl _, cn_fgt js _ c, h0⟩ ?_ ?_ ?_
  · rintro i σ H _ ⟨Δ, M, F', e, c, _⟩
    exact Evl.ex_t c.bs.fH (Evl.ex_t e hx)
  · rintro i x σ H hi ⟨Δ, M, F', e, c, hp⟩
    obtain ⟨d, hd', r⟩ := rps_get' (rps_mono e _ _ hr) hi
    exact hg M σ H Δ F' d x _ c r (hs i d Δ M hd' hp) _ fun σ2 Δ2 c2 h2 => hu M σ2 H Δ2 F' _ c2 h2 _ (endsLoop (js := js) (Pv := Pv) ok e fun σ' H' Δ' M' F'' e1 c' k => ⟨Δ', M', F'', e.trans e1, c', k⟩)
  · rintro σ H ⟨Δ, M, F', e, c, hp⟩
    rw [hlen] at hp
    exact ok.nx σ H Δ M F' e c (hd _ _ hp)
def rangeD (lo : Int) (n : Nat) : List D := (List.range n).map fun i => .int (lo + (i : Nat))
theorem rangeD_get {lo : Int} {n i : Nat} (h : i < n) : (rangeD lo n)[i]? = some (.int (lo + (i : Nat))) := by
  unfold rangeD
  rw [List.getElem?_map, List.getElem?_range h] <;> rfl
theorem rangeD_len {lo : Int} {n : Nat} : (rangeD lo n).length = n := by
  unfold rangeD
  rw [List.length_map, List.length_range]
theorem loop_range {lo : Int} {m : Nat} {j : Nat} {js : List Nat} {t : TS} {u : RS} (hu : SimS K Z t u) {M : Mem} {σ : L2.St} {H F : Hp} {Δ : List Sl} {De : DE} {Dv : Ends} (c : Cn K Z M σ H Δ F)
    (h : dLoop j js (rangeD lo m) u De Δ M) (ok : EndsOk K Z F De Dv) :
    ∃ W : Nat → Nat → L2.St → Hp → Prop, (∃ m, W 0 m σ H) ∧ ∀ i k σ H, W i k σ H →
      ((Itr lo m).stop i H ∧ Dv.nx σ H) ∨ ((Itr lo m).go i H ∧ ∃ N : L2.St → Hp → Prop, (∀ σ' H', N σ' H' → ∃ m', m' < k ∧ W (i + 1) m' σ' H') ∧ ∀ x H', (Itr lo m).yld i H x H' → gName j x σ H' fun σ2 H2 => t { Dv with nx := N, ct := N, bk := Dv.nx } σ2 H2) := by
  obtain ⟨Pv, h0, hs, hd⟩ := h
  refine for_range (lo := lo) (n := m) (fun i σ H => ∃ Δ M F', Ex F F' ∧ Cn K Z M σ H Δ F' ∧ Pv i Δ M) ⟨_, M, F, Ex.refl _, cn_fgt js _ c, h0⟩ ?_ ?_
  · rintro i σ H hi ⟨Δ, M, F', e, c, hp⟩
    exact hu M _ H _ F' _ (c.set (d := .int (lo + (i : Nat))) rfl j) (hs i _ Δ M (rangeD_get hi) hp) _ (endsLoop (js := js) (Pv := Pv) ok e fun σ' H' Δ' M' F'' e1 c' k => ⟨Δ', M', F'', e.trans e1, c', k⟩)
  · rintro σ H ⟨Δ, M, F', e, c, hp⟩
    rw [rangeD_len] at hd
    exact ok.nx σ H Δ M F' e c (hd _ _ hp)
/-- for x in e: a list, a tuple (which, the writer says) -/
def dForL (j : Nat) (js : List Nat) (r : RE) (u : RS) : RS := fun D Δ M => r Δ M fun x Δ1 M1 => match x with
  | .lst ds => dLoop j js ds u D Δ1 M1
  | .scr ns => dLoop j js (ns.map .int) u D Δ1 M1
  | _ => False
def dForT (j : Nat) (js : List Nat) (r : RE) (u : RS) : RS := fun D Δ M => r Δ M fun x Δ1 M1 => match x with
  | .tup ds => dLoop j js ds u D Δ1 M1
  | _ => False
theorem qs_forL {j : Nat} {js : List Nat} {x : Str} {px : Pos} {body : List Stmt} {iter : Expr} {u : RS} (hp : PassesOwn (model X.prog X.w) X.A X.env X.xe) (hc : X.calm = true) (hN : X.N.Nodup) (h : QE X Z iter r) (hb : QSs X Z body u) (hi : X.N[j]? = some x := by rfl) (hx : Loc X.env.scope x := by first | exact Or.inl rfl | exact Or.inr rfl)
    (hf : X.fn x = true ∨ X.env.scope.names.lookup x = some .local := by first | exact .inl rfl | exact .inr rfl) (hs : ∀ x, foldedSetIterable iter X.env x = pure x := by intro _; rfl) : QS X Z (.For (.Name x px) iter body [] pos) (dForL j js r u) := by
  obtain ⟨t, p, s⟩ := h
  obtain ⟨tb, pb, sb⟩ := hb
  refine ⟨_, ps_for hp hc (pi_list p) (pg_name (i := j) hN hi hx hf) pb hs, fun M σ H Δ F De c h Dv ok => ?_⟩
  refine s M σ H Δ F _ c h _ fun v H1 y Δ1 M1 F1 e1 c1 r1 h1 => ?_
  cases y with
  | lst ds =>
    obtain ⟨a, vs, e2, g1, g2⟩ := r1
    exact ⟨a, e2, ⟨_, SqL.of (c1.bs.fH _ _ g1)⟩, loop_list simG_name sb c1 (SqL.of g1) g2 h1 (ok.mono e1)⟩
  | scr ns =>
    obtain ⟨a, e2, g1⟩ := r1
    exact ⟨a, e2, ⟨_, Evl.ex_l c1.bs.fH g1⟩, loop_list simG_name sb c1 g1 (ints_rps ns) h1 (ok.mono e1)⟩
  | _ => exact h1.elim
theorem qs_forT {j : Nat} {js : List Nat} {x : Str} {px : Pos} {body : List Stmt} {iter : Expr} {u : RS} (hp : PassesOwn (model X.prog X.w) X.A X.env X.xe) (hc : X.calm = true) (hN : X.N.Nodup) (h : QE X Z iter r) (hb : QSs X Z body u) (hi : X.N[j]? = some x := by rfl) (hx : Loc X.env.scope x := by first | exact Or.inl rfl | exact Or.inr rfl)
    (hf : X.fn x = true ∨ X.env.scope.names.lookup x = some .local := by first | exact .inl rfl | exact .inr rfl) (hs : ∀ x, foldedSetIterable iter X.env x = pure x := by intro _; rfl) : QS X Z (.For (.Name x px) iter body [] pos) (dForT j js r u) := by
  obtain ⟨t, p, s⟩ := h
  obtain ⟨tb, pb, sb⟩ := hb
  refine ⟨_, ps_for hp hc (pi_tup p) (pg_name (i := j) hN hi hx hf) pb hs, fun M σ H Δ F De c h Dv ok => ?_⟩
  refine s M σ H Δ F _ c h _ fun v H1 y Δ1 M1 F1 e1 c1 r1 h1 => ?_
  cases y with
  | tup ds =>
    obtain ⟨a, vs, e2, g1, g2⟩ := r1
    exact ⟨a, e2, ⟨_, Evl.ex_t c1.bs.fH g1⟩, loop_tup simG_name sb c1 g1 g2 h1 (ok.mono e1)⟩
  | _ => exact h1.elim
/-- for x in range(e), range(a, b) -/
def dForR (j : Nat) (js : List Nat) (r : RE) (u : RS) : RS := fun D Δ M => r Δ M fun x Δ1 M1 => match x with
  | .int k => (-(2 ^ 62) ≤ k ∧ k < 2 ^ 62) ∧ dLoop j js (rangeD 0 k.toNat) u D Δ1 M1
  | _ => False
def dForR2 (j : Nat) (js : List Nat) (ra rb : RE) (u : RS) : RS := fun D Δ M => ra Δ M fun x Δ1 M1 => rb Δ1 M1 fun y Δ2 M2 => match x, y with
  | .int lo, .int hi => (-(2 ^ 62) ≤ lo ∧ lo < 2 ^ 62 ∧ -(2 ^ 62) ≤ hi ∧ hi < 2 ^ 62) ∧ dLoop j js (rangeD lo (hi - lo).toNat) u D Δ2 M2
  | _, _ => False
theorem qs_forR {j : Nat} {js : List Nat} {x : Str} {px p1 p2 : Pos} {body : List Stmt} {u : RS} (hp : PassesOwn (model X.prog X.w) X.A X.env X.xe) (hc : X.calm = true) (hN : X.N.Nodup) (hg : Gl X "range") (hm : X.mg "range" = none) (h : QE X Z e r) (hb : QSs X Z body u) (hi : X.N[j]? = some x := by rfl) (hx : Loc X.env.scope x := by first | exact Or.inl rfl | exact Or.inr rfl)
    (hf : X.fn x = true ∨ X.env.scope.names.lookup x = some .local := by first | exact .inl rfl | exact .inr rfl) (hs : ∀ x, foldedSetIterable (.Call (.Name "range" p1) [e] [] p2) X.env x = pure x := by intro _; rfl) (hst : starEach [e] X.env = [(false, eval e X.env)] := by rfl) : QS X Z (.For (.Name x px) (.Call (.Name "range" p1) [e] [] p2) body [] pos) (dForR j js r u) := by
  obtain ⟨t, p, s⟩ := h
  obtain ⟨tb, pb, sb⟩ := hb
  refine ⟨_, ps_for hp hc (pi_range1 hg hm (pa_cons p pa_nil hst) hst) (pg_name (i := j) hN hi hx hf) pb hs, fun M σ H Δ F De c h Dv ok => ?_⟩
  refine s M σ H Δ F _ c h _ fun v H1 y Δ1 M1 F1 e1 c1 r1 h1 => ?_
  cases y with
  | int k => exact ⟨k, by rw [show v = .int k from r1], h1.1.1, h1.1.2, loop_range sb c1 h1.2 (ok.mono e1)⟩
  | _ => exact h1.elim
theorem qs_forR2 {j : Nat} {js : List Nat} {x : Str} {px p1 p2 : Pos} {body : List Stmt} {u : RS} (hp : PassesOwn (model X.prog X.w) X.A X.env X.xe) (hc : X.calm = true) (hN : X.N.Nodup) (hg : Gl X "range") (hm : X.mg "range" = none) (ha : QE X Z a ra) (hb' : QE X Z b rb) (hb : QSs X Z body u) (hi : X.N[j]? = some x := by rfl) (hx : Loc X.env.scope x := by first | exact Or.inl rfl | exact Or.inr rfl)
    (hf : X.fn x = true ∨ X.env.scope.names.lookup x = some .local := by first | exact .inl rfl | exact .inr rfl) (hs : ∀ x, foldedSetIterable (.Call (.Name "range" p1) [a, b] [] p2) X.env x = pure x := by intro _; rfl) (hst : starEach [a, b] X.env = [(false, eval a X.env), (false, eval b X.env)] := by rfl) (hst1 : starEach [a, b] X.env = (false, eval a X.env) :: starEach [b] X.env := by rfl) (hst2 : starEach [b] X.env = [(false, eval b X.env)] := by rfl) :
    QS X Z (.For (.Name x px) (.Call (.Name "range" p1) [a, b] [] p2) body [] pos) (dForR2 j js ra rb u) := by
  obtain ⟨t, p, s⟩ := ha
  obtain ⟨t', p', s'⟩ := hb'
  obtain ⟨tb, pb, sb⟩ := hb
  refine ⟨_, ps_for hp hc (pi_range2 hg hm (pa_cons p (pa_cons p' pa_nil hst2) hst1) hst hst2) (pg_name (i := j) hN hi hx hf) pb hs, fun M σ H Δ F De c h Dv ok => ?_⟩
  refine s M σ H Δ F _ c h _ fun v H1 y Δ1 M1 F1 e1 c1 r1 h1 => ?_
  refine s' M1 σ H1 Δ1 F1 _ c1 h1 _ fun v2 H2 y2 Δ2 M2 F2 e2 c2 r2 h2 => ?_
  split at h2
  · exact ⟨_, _, by rw [show v = _ from r1, show v2 = _ from r2], h2.1, loop_range sb c2 h2.2 (ok.mono (e1.trans e2))⟩
  · exact h2.elim
/-- while c -/
def dWhile (js : List Nat) (t : RT) (u : RS) : RS := fun D Δ M => ∃ Pv : Nat → List Sl → Mem → Prop, (∃ m, Pv m (fgt js Δ) M) ∧ ∀ m Δ1 M1, Pv m Δ1 M1 → t Δ1 M1 fun k Δ2 M2 => match k with
  | true => u { D with nx := fun Δ3 M3 => ∃ m', m' < m ∧ Pv m' (fgt js Δ3) M3, ct := fun Δ3 M3 => ∃ m', m' < m ∧ Pv m' (fgt js Δ3) M3, bk := D.nx } Δ2 M2
  | false => D.nx Δ2 M2
theorem qs_while {js : List Nat} {body : List Stmt} {u : RS} (hp : PassesOwn (model X.prog X.w) X.A X.env X.xe) (ht : QT X Z e rt) (hb : QSs X Z body u) : QS X Z (.While e body [] pos) (dWhile js rt u) := by
  obtain ⟨t, p, s⟩ := ht
  obtain ⟨tb, pb, sb⟩ := hb
  refine ⟨_, ps_while hp p pb, fun M σ H Δ F De c h Dv ok => ?_⟩
  obtain ⟨Pv, ⟨m0, h0⟩, hs⟩ := h
  refine ⟨fun m σ H => ∃ Δ M F', Ex F F' ∧ Cn X.K Z M σ H Δ F' ∧ Pv m Δ M, ⟨m0, _, M, F, Ex.refl _, cn_fgt js _ c, h0⟩, ?_⟩
  rintro m σ H ⟨Δ, M, F', e, c, hp'⟩
  refine s M σ H Δ F' _ c (hs m Δ M hp') _ fun k H1 Δ1 M1 F1 e1 c1 h1 => ?_
  cases k with
  | false => exact iteF (ok.nx σ H1 Δ1 M1 F1 (e.trans e1) c1 h1)
  | true =>
    refine iteT ⟨fun σ' H' => ∃ m', m' < m ∧ ∃ Δ M F', Ex F F' ∧ Cn X.K Z M σ' H' Δ F' ∧ Pv m' Δ M, fun σ' H' n => n, ?_⟩
    refine sb M1 σ H1 Δ1 F1 _ c1 h1 _ ⟨?_, ((ok.mono e).mono e1).rt, ((ok.mono e).mono e1).nx, ?_⟩
    · rintro σ' H' Δ' M' F'' e2 c' ⟨m', hm, k⟩
      exact ⟨m', hm, _, M', F'', (e.trans e1).trans e2, cn_fgt js _ c', k⟩
    · rintro σ' H' Δ' M' F'' e2 c' ⟨m', hm, k⟩
      exact ⟨m', hm, _, M', F'', (e.trans e1).trans e2, cn_fgt js _ c', k⟩
end
end DL

set_option Elab.async false
set_option linter.all false
set_option maxRecDepth 100000
set_option maxHeartbeats 4000000
namespace DL
open PySem PySem.Spec PyProof.Rows L2
open Evl (Ex)

/-! ### defs: a promise over data -/
/-- what is wanted of an exception: its class, its fields -/
abbrev DX := Addr → List (Str × D) → Mem → Prop
abbrev DSp := List D → Mem → (D → Mem → Prop) → DX → Prop
/-- an exception's own dict, frozen -/
def XRep (K : PySem.W.Frag) (F : Hp) (fs : List (Str × D)) : Option Addr → Prop
  | none => fs = []
  | some d => ∃ vfs, F d = some (.xd vfs) ∧ vfs.map Prod.fst = fs.map Prod.fst ∧ Rps K F (fs.map Prod.snd) (vfs.map Prod.snd)
def spOf (K : PySem.W.Frag) (S : DSp) : Sp := fun vs H Q E => ∃ (R F : Hp) (M : Mem) (ds : List D) (Φ : D → Mem → Prop) (Ψ : DX), Bs K ⟨R, F⟩ M H F ∧ Rps K F ds vs ∧ S ds M Φ Ψ ∧
  (∀ v H' d M' F', Bs K ⟨R, F⟩ M' H' F' → Rp K F' d v → Φ d M' → Q v H') ∧
  (∀ C fs M' dd H' F', Bs K ⟨R, F⟩ M' H' F' → XRep K F' fs dd → Ψ C fs M' → E (.ref C) dd H')
/-- the promise is about n arguments -/
def Arity (S : DSp) (n : Nat) : Prop := ∀ ds M Φ Ψ, S ds M Φ Ψ → ds.length = n
theorem spOf_len {K : PySem.W.Frag} {S : DSp} {n : Nat} (h : Arity S n) : ∀ vs H Q E, spOf K S vs H Q E → vs.length = n := by
  rintro vs H Q E ⟨R, F, M, ds, Φ, Ψ, b, r, s, _, _⟩
  rw [rps_len r]
  exact h ds M Φ Ψ s

/-- the slots at the entry -/
def startD (N : Nat) (ds : List D) : List Sl := ds.map Sl.d ++ List.replicate (N - ds.length) .un
theorem cn_start {K : PySem.W.Frag} {Z : Zx} {M : Mem} {H F : Hp} {N : List Str} {ds : List D} {vs : List V} (b : Bs K Z M H F) (r : Rps K F ds vs) : Cn K Z M (L2.start N vs) H (startD N.length ds) F where
  bs := b
  len := by
    unfold startD L2.start
    rw [List.length_append, List.length_append, List.length_map, List.length_map, List.length_replicate, List.length_replicate, rps_len r]
  slot := fun i s h => by
    unfold startD at h
    by_cases hi : i < ds.length
    · rw [List.getElem?_append_left (by rw [List.length_map]; exact hi), List.getElem?_map, List.getElem?_eq_getElem hi] at h
      cases h
      obtain ⟨v, h1, h2⟩ := rps_get r (List.getElem?_eq_getElem hi)
      refine ⟨v, ?_, h2⟩
      unfold L2.start
      rw [List.getElem?_append_left (by rw [List.length_map, rps_len r]; exact hi), List.getElem?_map, h1] <;> rfl
    · rw [List.getElem?_append_right (by rw [List.length_map]; omega), List.getElem?_replicate] at h
      split at h
      · cases h
        exact True.intro
      · cases h
  sep := fun i j a es fs hne h1 h2 h3 h4 => by
    unfold startD at h1
    by_cases hi : i < ds.length
    · rw [List.getElem?_append_left (by rw [List.length_map]; exact hi), List.getElem?_map, List.getElem?_eq_getElem hi] at h1
      cases h1
    · rw [List.getElem?_append_right (by rw [List.length_map]; omega), List.getElem?_replicate] at h1
      split at h1 <;> cases h1

section
variable {P : Program} {w : World} {K : PySem.W.Frag} {mg : Str → Option Value} {base : Heap}
/-- THE RULE for a def that raises nothing -/
theorem fn_ok {x qual : Str} {st : Stmt} {f : Addr} {fd : FuncData} {N ps : List Str} {k : Nat} {S : DSp} (F : Fun K x qual st f fd) (Sc : FnScope N ps (defScope st)) (hl : Arity S ps.length)
    (hbody : ∀ (cdv : Value) (A : Around) (outer : List Env) (s : Shared) (H : Hp) (E : XK) (Z : Zx), Room k (A.deeper (envOfC qual (defScope st) s.heap.objs.size f cdv)) →
      ∃ r : RS, QSs (cxOf CX0 P w K mg base N qual (defScope st) f cdv A outer s H E).nox Z (defBody st) r ∧
        ∀ ds M Φ Ψ, S ds M Φ Ψ → r { nx := fun _ M' => Φ .non M', rt := Φ } (startD N.length ds) M) : FnOk P w K mg base CX0 (k + 1) f fd ps (spOf K S) := by
  refine F.ok Sc (spOf_len hl) fun cdv A outer s H vs Q E hr h => ?_
  obtain ⟨R, F0, M, ds, Φ, Ψ, b, r, hS, hq, hx⟩ := h
  obtain ⟨rs, ⟨t, p, sim⟩, red⟩ := hbody cdv A outer s H E ⟨R, F0⟩ hr
  refine ⟨t, p, sim M _ H _ F0 _ (cn_start b r) (red ds M Φ Ψ hS) _ ⟨?_, ?_, ?_, ?_⟩⟩
  · intro σ' H' Δ' M' F' e c k
    exact hq .non H' .non M' F' c.bs rfl k
  · intro v H' d M' F' e c rr k
    exact hq v H' d M' F' c rr k
  · intro σ' H' Δ' M' F' e c k
    exact k.elim
  · intro σ' H' Δ' M' F' e c k
    exact k.elim
end

/-! ### calls -/
open Classical in
/-- the rest of the heap at a call: what is neither handed over nor frozen: the caller's own lists too -/
noncomputable def restAt (Z : Zx) (σ : L2.St) (Δ : List Sl) (H : Hp) : Hp := fun a => if ∃ (i : Nat) (ds : List D), Δ[i]? = some (.own ds) ∧ σ[i]? = some (some (.ref a)) then H a else Z.R a
section
variable {K : PySem.W.Frag} {Z : Zx} {M M' : Mem} {σ : L2.St} {H H' F F' : Hp} {Δ : List Sl}
theorem rest_own {i : Nat} {ds : List D} {a : Addr} (h1 : Δ[i]? = some (.own ds)) (h2 : σ[i]? = some (some (.ref a))) : restAt Z σ Δ H a = H a := by
  unfold restAt
  rw [if_pos ⟨i, ds, h1, h2⟩]
theorem rest_other {a : Addr} (h : ¬ ∃ (i : Nat) (ds : List D), Δ[i]? = some (.own ds) ∧ σ[i]? = some (some (.ref a))) : restAt Z σ Δ H a = Z.R a := by
  unfold restAt
  rw [if_neg h]
theorem call_in (c : Cn K Z M σ H Δ F) : Bs K ⟨restAt Z σ Δ H, F⟩ M H F where
  f0 := Ex.refl _
  fH := c.bs.fH
  rH := fun a o h => by
    replace h : restAt Z σ Δ H a = some o := h
    by_cases hx : ∃ (i : Nat) (ds : List D), Δ[i]? = some (.own ds) ∧ σ[i]? = some (some (.ref a))
    · obtain ⟨i, ds, h1, h2⟩ := hx
      rw [rest_own h1 h2] at h
      exact h
    · rw [rest_other hx] at h
      exact c.bs.rH a o h
  fr := fun a o h => by
    by_cases hx : ∃ (i : Nat) (ds : List D), Δ[i]? = some (.own ds) ∧ σ[i]? = some (some (.ref a))
    · obtain ⟨i, ds, h1, h2⟩ := hx
      obtain ⟨b, vs, e, g1, g2, g3, _⟩ := c.slot i _ h1
      rw [h2] at e
      cases e
      rw [g3] at h
      cases h
    · show restAt Z σ Δ H a = none
      rw [rest_other hx]
      exact c.bs.fr a o h
  mm := fun a o h => by
    obtain ⟨h1, h2, h3⟩ := c.bs.mm a o h
    refine ⟨h1, ?_, h3⟩
    show restAt Z σ Δ H a = none
    by_cases hx : ∃ (i : Nat) (ds : List D), Δ[i]? = some (.own ds) ∧ σ[i]? = some (some (.ref a))
    · obtain ⟨i, ds, g1, g2⟩ := hx
      obtain ⟨b, vs, e, _, _, _, _, g5⟩ := c.slot i _ g1
      rw [g2] at e
      cases e
      rw [g5] at h
      cases h
    · rw [rest_other hx]
      exact h2
theorem call_out (c : Cn K Z M σ H Δ F) (b : Bs K ⟨restAt Z σ Δ H, F⟩ M' H' F') : Cn K Z M' σ H' Δ F' := by
  have own : ∀ (i : Nat) (ds : List D) (a : Addr) (vs : List V), Δ[i]? = some (.own ds) → σ[i]? = some (some (.ref a)) → H a = some (.lst vs) → F' a = none ∧ H' a = some (.lst vs) ∧ M' a = none := fun i ds a vs h1 h2 h3 => by
    have e : restAt Z σ Δ H a = some (.lst vs) := (rest_own h1 h2).trans h3
    refine ⟨?_, b.rH a _ e, ?_⟩
    · cases h : F' a with
      | none => rfl
      | some o =>
        have := b.fr a o h
        rw [show (⟨restAt Z σ Δ H, F⟩ : Zx).R a = restAt Z σ Δ H a from rfl, e] at this
        cases this
    · cases h : M' a with
      | none => rfl
      | some o =>
        have := (b.mm a o h).2.1
        rw [show (⟨restAt Z σ Δ H, F⟩ : Zx).R a = restAt Z σ Δ H a from rfl, e] at this
        cases this
  have rz : ∀ a, restAt Z σ Δ H a = none → Z.R a = none := fun a h => by
    by_cases hx : ∃ (i : Nat) (ds : List D), Δ[i]? = some (.own ds) ∧ σ[i]? = some (some (.ref a))
    · obtain ⟨i, ds, g1, g2⟩ := hx
      obtain ⟨b, vs, e, g3, _⟩ := c.slot i _ g1
      rw [g2] at e
      cases e
      rw [rest_own g1 g2, g3] at h
      cases h
    · rw [rest_other hx] at h
      exact h
  refine ⟨⟨c.bs.f0.trans b.f0, b.fH, fun a o h => ?_, fun a o h => rz a (b.fr a o h), fun a o h => ⟨(b.mm a o h).1, rz a (b.mm a o h).2.1, (b.mm a o h).2.2⟩⟩, c.len, fun i s h => ?_, c.sep⟩
  · refine b.rH a o ?_
    show restAt Z σ Δ H a = some o
    by_cases hx : ∃ (i : Nat) (ds : List D), Δ[i]? = some (.own ds) ∧ σ[i]? = some (some (.ref a))
    · obtain ⟨i, ds, g1, g2⟩ := hx
      obtain ⟨b, vs, e, _, _, _, g4, _⟩ := c.slot i _ g1
      rw [g2] at e
      cases e
      rw [g4] at h
      cases h
    · rw [rest_other hx]
      exact h
  · have k := c.slot i s h
    cases s with
    | un => exact True.intro
    | d d =>
      obtain ⟨v, e, r⟩ := k
      exact ⟨v, e, rp_mono b.f0 _ _ r⟩
    | own ds =>
      obtain ⟨a, vs, e, h1, h2, h3, h4, h5⟩ := k
      obtain ⟨q1, q2, q3⟩ := own i ds a vs h e h1
      exact ⟨a, vs, e, q2, rps_mono b.f0 _ _ h2, q1, h4, q3⟩
end
def noX : DX := fun _ _ _ => False
/-- f(..): the callee's promise -/
def dCall (S : DSp) (rl : RA) : RE := fun Δ M Φ => rl Δ M fun ds Δ1 M1 => S ds M1 (fun d M2 => Φ d Δ1 M2) noX
section
variable {X : Cx} {Z : Zx} {e : Expr} {pos : Pos} {es : List Expr} {rl : RA} {n k : Nat} {f : Addr} {fd : FuncData} {ps : List Str} {x : Str} {p : Pos} {S : DSp}
theorem sim_call {K : PySem.W.Frag} {t : TA} (h : SimA K Z n t rl) : Sim K Z (tCall (spOf K S) [] E0 t) (dCall S rl) := by
  intro M σ H Δ F Φ c k Q q
  refine h M σ H Δ F _ c k _ fun vs H1 ds Δ1 M1 F1 e1 c1 r1 hl h1 => ?_
  show spOf K S (vs ++ []) H1 Q E0
  rw [List.append_nil]
  refine ⟨restAt Z σ Δ1 H1, F1, M1, ds, _, noX, call_in c1, r1, h1, fun v H' d M' F' b rr hΦ => ?_, fun C fs M' dd H' F' b rr hΨ => hΨ.elim⟩
  exact q v H' d Δ1 M' F' (e1.trans b.f0) (call_out c1 b) rr hΦ
theorem qe_call (Fn : FnOk X.prog X.w X.K X.mg X.base CX0 k f fd ps (spOf X.K S)) (hr : Room k X.A) (hg : Gl X x) (hm : X.mg x = some (.ref f)) (hk : PySem.W.keepIn X.K (.ref f) = true) (hb : Binds X.K fd ps []) (ha : QA X Z n (e :: es) rl) (hdb : (x == ("__debug__" : Str)) = false := by decide)
    (he : starEach (e :: es) X.env = (false, eval e X.env) :: starEach es X.env := by rfl) (hpl : (backTo pos (starEach es X.env)).any (·.1) = false := by rfl) : QE X Z (.Call (.Name x p) (e :: es) [] pos) (dCall S rl) := by
  obtain ⟨t, pa, s⟩ := ha
  exact ⟨_, pe_call Fn hr hg hm hk hb .nil pass0 pa hdb he hpl, sim_call s⟩
theorem qe_call0 (Fn : FnOk X.prog X.w X.K X.mg X.base CX0 k f fd ps (spOf X.K S)) (hr : Room k X.A) (hg : Gl X x) (hm : X.mg x = some (.ref f)) (hk : PySem.W.keepIn X.K (.ref f) = true) (hb : Binds X.K fd ps []) (hdb : (x == ("__debug__" : Str)) = false := by decide) :
    QE X Z (.Call (.Name x p) [] [] pos) (dCall S dNil) := by
  refine ⟨_, pe_call0 Fn hr hg hm hk hb .nil pass0 hdb, sim_call (n := 0) fun M σ H Δ F Φ c h Q q => q [] H [] Δ M F (Ex.refl _) c rfl rfl h⟩
end
/-! ### the law -/
/-- the law's own promise: True for every script -/
def lawSp : DSp := fun ds M Φ _ => ∃ ns : List Int, ds = [.scr ns] ∧ ns.length ≤ 63 ∧ ∀ M', Φ (.bl true) M'
theorem law_start {K : PySem.W.Frag} {H : Hp} {a : Addr} {ns : List Int} (hl : ns.length ≤ 63) (hS : SqL K H a (ns.map V.int)) : spOf K lawSp [.ref a] H (fun v _ => v = .bl true) fun _ _ _ => False := by
  refine ⟨fun _ => none, H, fun _ => none, [.scr ns], fun d _ => d = .bl true, noX, ⟨Ex.refl _, Ex.refl _, fun a o h => (by cases h), fun _ _ _ => rfl, fun a o h => (by cases h)⟩, ⟨.ref a, [], rfl, ⟨a, rfl, hS⟩, rfl⟩, ⟨ns, rfl, hl, fun _ => rfl⟩, fun v H' d M' F' b r e => ?_, fun C fs M' dd H' F' b r e => e.elim⟩
  subst e
  exact r
end DL

set_option Elab.async false
set_option linter.all false
set_option maxRecDepth 100000
set_option maxHeartbeats 4000000
namespace DL
open PySem PySem.Spec PyProof.Rows L2
open Evl (Ex)
section
variable {X : Cx} {Z : Zx} {e a b c : Expr} {ra rb rc r : RE} {rt ru : RT} {pos : Pos} {es : List Expr} {rl : RA} {n : Nat} {K : PySem.W.Frag}
/-! ### products and quotients of any size -/
def CMulA (i j : Int) : Prop := CMul i j ∨ CMulW i j
theorem op_mulA : OpR X (binaryOp .Mult) (rI CMulA fun i j => .int (i * j)) := by
  intro pins s σ H x y v u Q I rx ry h
  obtain ⟨i, j, h1, h2, hc, q⟩ := h
  rcases hc with hc | hc
  · exact op_mul pins s σ H x y v u Q I rx ry ⟨i, j, h1, h2, hc, q⟩
  · exact op_mulW pins s σ H x y v u Q I rx ry ⟨i, j, h1, h2, hc, q⟩
theorem qe_mulA (ha : QE X Z a ra) (hb : QE X Z b rb) : QE X Z (.BinOp a .Mult b pos) (dOp (dIC CMulA fun i j => .int (i * j)) ra rb) := qe_bin op_mulA (opD_IC fun _ _ _ => rfl) ha hb
def CDivA (i j : Int) : Prop := 0 < j ∧ (j < 1073741824 ∨ j.natAbs.log2 < 9000)
theorem op_fdivA : OpR X (binaryOp .FloorDiv) (rI CDivA fun i j => .int (i / j)) := by
  intro pins s σ H x y v u Q I rx ry h
  obtain ⟨i, j, h1, h2, hc, q⟩ := h
  rcases hc.2 with h | h
  · exact op_fdiv pins s σ H x y v u Q I rx ry ⟨i, j, h1, h2, ⟨hc.1, h⟩, q⟩
  · exact op_fdivW pins s σ H x y v u Q I rx ry ⟨i, j, h1, h2, ⟨hc.1, h⟩, q⟩
theorem qe_fdivA (ha : QE X Z a ra) (hb : QE X Z b rb) : QE X Z (.BinOp a .FloorDiv b pos) (dOp (dIC CDivA fun i j => .int (i / j)) ra rb) := qe_bin op_fdivA (opD_IC fun _ _ _ => rfl) ha hb

/-! ### == of anything -/
def dEqA : D → D → (D → Prop) → Prop := fun x y Φ => match x, y with
  | .int i, .int j => Φ (.bl (decide (i = j)))
  | .str i, .str j => Φ (.bl (decide (i = j)))
  | .bl i, .bl j => Φ (.bl (decide (i = j)))
  | x, y => dEq x y Φ
def dNeA : D → D → (D → Prop) → Prop := fun x y Φ => match x, y with
  | .int i, .int j => Φ (.bl (!decide (i = j)))
  | .str i, .str j => Φ (.bl (!decide (i = j)))
  | .bl i, .bl j => Φ (.bl (!decide (i = j)))
  | x, y => dNe x y Φ
def rEqA (K : PySem.W.Frag) : R2 := fun x y H Q => rEq x y H Q ∨ rEqD K x y H Q
def rNeA (K : PySem.W.Frag) : R2 := fun x y H Q => rNe x y H Q ∨ rNeD K x y H Q
theorem op_eqA (hu : X.A.units + 64 < cLine) : OpR X (compareOp .Eq) (rEqA X.K) := OpR.or op_eq (op_eqD hu)
theorem op_neA (hu : X.A.units + 64 < cLine) : OpR X (compareOp .NotEq) (rNeA X.K) := OpR.or op_ne (op_neD hu)
theorem od_eqA : OpD K (rEqA K) dEqA := OpD.or od_eqS od_eq fun x y Φ k => by
  unfold dEqA at k
  split at k
  · exact .inl k
  · exact .inl k
  · exact .inl k
  · exact .inr k
theorem od_neA : OpD K (rNeA K) dNeA := OpD.or od_neS od_ne fun x y Φ k => by
  unfold dNeA at k
  split at k
  · exact .inl k
  · exact .inl k
  · exact .inl k
  · exact .inr k

/-! ### in -/
def D.flat : D → Bool
  | .non | .bl _ | .int _ | .str _ => true
  | _ => false
def D.v : D → V
  | .non => .non | .bl b => .bl b | .int i => .int i | .str x => .str x | _ => .non
theorem rp_flat {F : Hp} {d : D} {v : V} (h : Rp K F d v) (f : d.flat = true) : v = d.v ∧ flatV v = true := by
  cases d with
  | non => exact ⟨h, by rw [show v = .non from h] <;> rfl⟩
  | bl b => exact ⟨h, by rw [show v = .bl b from h] <;> rfl⟩
  | int b => exact ⟨h, by rw [show v = .int b from h] <;> rfl⟩
  | str b => exact ⟨h, by rw [show v = .str b from h] <;> rfl⟩
  | _ => cases f
theorem rps_flat {F : Hp} : ∀ {ds : List D} {vs : List V}, Rps K F ds vs → ds.all D.flat = true → vs = ds.map D.v ∧ vs.all flatV = true
  | [], vs, h, _ => by rw [show vs = [] from h]; exact ⟨rfl, rfl⟩
  | d :: ds, vs, h, f => by
    obtain ⟨v, r, e, h1, h2⟩ := h
    rw [List.all_cons, Bool.and_eq_true] at f
    obtain ⟨g1, g2⟩ := rp_flat h1 f.1
    obtain ⟨g3, g4⟩ := rps_flat h2 f.2
    rw [e]
    exact ⟨by rw [List.map_cons, ← g1, ← g3], by rw [List.all_cons, g2, g4] <;> rfl⟩
def inD (x : D) (ds : List D) : Bool := inV x.v (ds.map D.v)
def dInA (neg : Bool) : D → D → (D → Prop) → Prop := fun x y Φ => match y with
  | .tup ds => x.flat = true ∧ ds.all D.flat = true ∧ Φ (.bl (if neg then !inD x ds else inD x ds))
  | .lst ds => x.flat = true ∧ ds.all D.flat = true ∧ Φ (.bl (if neg then !inD x ds else inD x ds))
  | .str z => ∃ k : Nat, x = .str ⟨#[k]⟩ ∧ Φ (.bl (if neg then !decide (k ∈ z.cps.toList) else decide (k ∈ z.cps.toList)))
  | _ => False
def rInSg (neg : Bool) : R2 := fun x y H Q => ∃ (c : Nat) (z : Str), x = .str ⟨#[c]⟩ ∧ y = .str z ∧ Q (.bl (if neg then !decide (c ∈ z.cps.toList) else decide (c ∈ z.cps.toList))) H
def rInA (K : PySem.W.Frag) (neg : Bool) : R2 := fun x y H Q => rIn K neg x y H Q ∨ rInSg neg x y H Q
theorem op_inA : OpR X (compareOp .In) (rInA X.K false) := OpR.or op_in_seq (by
  intro pins s σ H x y v u Q I rx ry h
  obtain ⟨c, z, h1, h2, q⟩ := h
  exact op_in_sign pins s σ H x y v u Q I rx ry ⟨c, z, h1, h2, q⟩)
theorem op_ninA : OpR X (compareOp .NotIn) (rInA X.K true) := OpR.or op_notIn_seq (by
  intro pins s σ H x y v u Q I rx ry h
  obtain ⟨c, z, h1, h2, q⟩ := h
  exact op_notIn_sign pins s σ H x y v u Q I rx ry ⟨c, z, h1, h2, q⟩)
theorem od_inA {neg : Bool} : OpD K (rInA K neg) (dInA neg) := by
  intro Z M σ H Δ F x y v w Φ c rx ry k Q q
  unfold dInA at k
  split at k
  · obtain ⟨p, vs, e1, h1, h2⟩ := ry
    obtain ⟨f1, f2, k⟩ := k
    obtain ⟨g1, g2⟩ := rp_flat rx f1
    obtain ⟨g3, g4⟩ := rps_flat h2 f2
    refine .inl ⟨p, vs, e1, .inr (Evl.ex_t c.bs.fH h1), g2, g4, ?_⟩
    rw [g1, g3]
    exact q _ H (.bl _) F (Ex.refl _) c rfl k
  · obtain ⟨p, vs, e1, h1, h2⟩ := ry
    obtain ⟨f1, f2, k⟩ := k
    obtain ⟨g1, g2⟩ := rp_flat rx f1
    obtain ⟨g3, g4⟩ := rps_flat h2 f2
    refine .inl ⟨p, vs, e1, .inl (SqL.of (c.bs.fH _ _ h1)), g2, g4, ?_⟩
    rw [g1, g3]
    exact q _ H (.bl _) F (Ex.refl _) c rfl k
  · obtain ⟨j, e1, k⟩ := k
    subst e1
    exact .inr ⟨j, _, rx, ry, q _ H (.bl _) F (Ex.refl _) c rfl k⟩
  · exact k.elim

/-! ### chains, truth -/
def dChain (d1 d2 : D → D → (D → Prop) → Prop) (ra rb rc : RE) : RE := fun Δ M Φ => ra Δ M fun x Δ1 M1 => rb Δ1 M1 fun y Δ2 M2 => d1 x y fun z => match z with
  | .bl k => bs k fun k => match k with
    | true => rc Δ2 M2 fun w Δ3 M3 => d2 y w fun u => Φ u Δ3 M3
    | false => Φ (.bl false) Δ2 M2
  | _ => False
theorem sim_chain {r1 r2 : R2} {d1 d2 : D → D → (D → Prop) → Prop} {ta tb tc : TE} (h1 : OpD K r1 d1) (h2 : OpD K r2 d2) (ha : Sim K Z ta ra) (hb : Sim K Z tb rb) (hc : Sim K Z tc rc) : Sim K Z (tChain r1 r2 ta tb tc) (dChain d1 d2 ra rb rc) := by
  intro M σ H Δ F Φ c h Q q
  refine ha M σ H Δ F _ c h _ fun v H1 x Δ1 M1 F1 e1 c1 q1 k1 => ?_
  refine hb M1 σ H1 Δ1 F1 _ c1 k1 _ fun w H2 y Δ2 M2 F2 e2 c2 q2 k2 => ?_
  refine h1 Z M2 σ H2 Δ2 F2 x y v w _ c2 (rp_mono e2 _ _ q1) q2 k2 _ fun u H3 z F3 e3 c3 q3 k3 => ?_
  cases z with
  | bl k =>
    refine ⟨k, q3, ?_⟩
    replace k3 := bs_of k3
    cases k with
    | true =>
      refine iteT (hc M2 σ H3 Δ2 F3 _ c3 k3 _ fun w' H4 y' Δ4 M4 F4 e4 c4 q4 k4 => ?_)
      exact h2 Z M4 σ H4 Δ4 F4 y y' w w' _ c4 (rp_mono e4 _ _ (rp_mono e3 _ _ q2)) q4 k4 Q fun u' H5 d F5 e5 c5 q5 k5 => q u' H5 d Δ4 M4 F5 ((((e1.trans e2).trans e3).trans e4).trans e5) c5 q5 k5
    | false => exact iteF (q _ H3 (.bl false) Δ2 M2 F3 ((e1.trans e2).trans e3) c3 rfl k3)
  | _ => exact k3.elim
theorem qe_chain {op op' : CmpOp} {r1 r2 : R2} {d1 d2 : D → D → (D → Prop) → Prop} (o1 : OpR X (compareOp op) r1) (h1 : OpD X.K r1 d1) (o2 : OpR X (compareOp op') r2) (h2 : OpD X.K r2 d2) (ha : QE X Z a ra) (hb : QE X Z b rb) (hc : QE X Z c rc) (hm : lastMarks [op, op'] [b, c] = false := by with_unfolding_all rfl) :
    QE X Z (.Compare a [op, op'] [b, c] pos) (dChain d1 d2 ra rb rc) := by
  obtain ⟨ta, pa, sa⟩ := ha
  obtain ⟨tb, pb, sb⟩ := hb
  obtain ⟨tc, pc, sc⟩ := hc
  exact ⟨_, pe_chain o1 o2 pa pb pc hm, sim_chain h1 h2 sa sb sc⟩
theorem qt_chain {op op' : CmpOp} {r1 r2 : R2} {d1 d2 : D → D → (D → Prop) → Prop} (o1 : OpR X (compareOp op) r1) (h1 : OpD X.K r1 d1) (o2 : OpR X (compareOp op') r2) (h2 : OpD X.K r2 d2) (ha : QE X Z a ra) (hb : QE X Z b rb) (hc : QE X Z c rc) (hm : lastMarks [op, op'] [b, c] = false := by with_unfolding_all rfl) :
    QT X Z (.Compare a [op, op'] [b, c] pos) (dTest (dChain d1 d2 ra rb rc)) := by
  obtain ⟨ta, pa, sa⟩ := ha
  obtain ⟨tb, pb, sb⟩ := hb
  obtain ⟨tc, pc, sc⟩ := hc
  exact ⟨_, pt_chain o1 o2 pa pb pc hm, simT_test (sim_chain h1 h2 sa sb sc)⟩
def dTruth (r : RE) : RT := fun Δ M Φ => r Δ M fun x Δ1 M1 => match x with
  | .bl k => bs k fun k => Φ k Δ1 M1
  | .int i => bs (i != 0) fun k => Φ k Δ1 M1
  | .str z => z.length ≤ sizeLine ∧ bs ((z.length : Int) != 0) fun k => Φ k Δ1 M1
  | .lst ds => bs (!ds.isEmpty) fun k => Φ k Δ1 M1
  | .tup ds => bs (!ds.isEmpty) fun k => Φ k Δ1 M1
  | .non => Φ false Δ1 M1
  | _ => False
theorem rps_empty {F : Hp} {ds : List D} {vs : List V} (h : Rps K F ds vs) : vs.isEmpty = ds.isEmpty := by
  have := rps_len h
  cases ds <;> cases vs <;> first | rfl | (simp at this)
theorem qt_truth (h : QE X Z e r) (he : ∀ whole, isTrue e X.env whole = (do let v ← whole; standAt e.pos; holding [v] (truthy v)) := by intro _; rfl) : QT X Z e (dTruth r) := by
  obtain ⟨t, p, s⟩ := h
  refine ⟨_, pt_truth p he, fun M σ H Δ F Φ c h Q q => ?_⟩
  refine s M σ H Δ F _ c h _ fun v H1 x Δ1 M1 F1 e1 c1 r1 h1 => ?_
  cases x with
  | bl k => rw [show v = .bl k from r1]; exact ⟨k, rfl, q k H1 Δ1 M1 F1 e1 c1 (bs_of h1)⟩
  | int i => rw [show v = .int i from r1]; exact ⟨_, rfl, q _ H1 Δ1 M1 F1 e1 c1 (bs_of h1)⟩
  | str z => rw [show v = .str z from r1]; exact ⟨_, ⟨h1.1, rfl⟩, q _ H1 Δ1 M1 F1 e1 c1 (bs_of h1.2)⟩
  | non => rw [show v = .non from r1]; exact ⟨_, rfl, q _ H1 Δ1 M1 F1 e1 c1 h1⟩
  | lst ds =>
    obtain ⟨p, vs, e2, g1, g2⟩ := r1
    rw [e2]
    exact ⟨!ds.isEmpty, .inl ⟨vs, SqL.of (c1.bs.fH _ _ g1), by rw [rps_empty g2]⟩, q _ H1 Δ1 M1 F1 e1 c1 (bs_of h1)⟩
  | tup ds =>
    obtain ⟨p, vs, e2, g1, g2⟩ := r1
    rw [e2]
    exact ⟨!ds.isEmpty, .inr (.inl ⟨vs, Evl.ex_t c1.bs.fH g1, by rw [rps_empty g2]⟩), q _ H1 Δ1 M1 F1 e1 c1 (bs_of h1)⟩
  | _ => exact h1.elim
/-- the truth of an own list -/
def dTruthO (j : Nat) : RT := fun Δ M Φ => match Δ[j]? with
  | some (.own ds) => bs (!ds.isEmpty) fun k => Φ k Δ M
  | _ => False
theorem qt_truthO (j : Nat) {x : Str} (hN : X.N[j]? = some x := by rfl) (hv : Vis X.env.scope x := by first | exact Or.inl rfl | exact Or.inr (Or.inl rfl) | exact Or.inr (Or.inr rfl)) (hd : (x == ("__debug__" : Str)) = false := by decide) (hcd : (x == ("__classdict__" : Str)) = false := by decide) : QT X Z (.Name x pos) (dTruthO j) := by
  refine ⟨_, pt_truth (pe_var (i := j) hN hv hd hcd) (by intro _; rfl), fun M σ H Δ F Φ c h Q q => ?_⟩
  unfold dTruthO at h
  split at h
  · rename_i ds hj
    obtain ⟨a, vs, hv0, g1, g2, _⟩ := c.slot j _ hj
    exact ⟨_, hv0, !ds.isEmpty, .inl ⟨vs, SqL.of g1, by rw [rps_empty g2]⟩, q _ H Δ M F (Ex.refl _) c (bs_of h)⟩
  · exact h.elim
end

/-! ### for over a list or a tuple -/
def iSeq (K : PySem.W.Frag) (tl : TE) : TI := fun σ H R => tl σ H fun x H1 => ∃ a, x = .ref a ∧ (((∃ xs, SqL K H1 a xs) ∧ R (Itl K a) H1) ∨ ((∃ xs, SqT K H1 a xs) ∧ R (Itt K a) H1))
theorem pi_seq {X : Cx} {tg l : Expr} {tl : TE} (hl : PE X l tl) : PI X tg l (iSeq X.K tl) := by
  refine ⟨fun pins s σ H R I h => ?_⟩
  refine thn (hl.run pins s σ H _ I h) fun v s1 ⟨x, H1, I1, r1, q1⟩ => ?_
  obtain ⟨a, e, q⟩ := q1
  subst e
  cases r1
  rcases q with ⟨⟨xs, hq⟩, q⟩ | ⟨⟨xs, hq⟩, q⟩
  · obtain ⟨its, rv, p, hz⟩ := I1.list hq
    refine wpAny_pyIter_list p.isList ?_
    refine ⟨s1.heap.objs.size, [s1.heap.objs.size], _, _, H1, rfl, I1.kept (t' := s1.toks) fun b o e => Heap.get?_push_of_some _ e, turn_list a _, ⟨_, Heap.get?_push_size _ rfl, rfl, rfl⟩, fun b hb => ?_, q⟩
    have e : b = s1.heap.objs.size := by simpa using hb
    subst e
    exact I1.fpOk (Nat.le_refl _) (I1.hok.fresh (Nat.le_refl _))
  · obtain ⟨its, rv, p, hz⟩ := I1.tuple hq
    refine wpAny_pyIter_tuple (show s1.heap.IsTuple a its.toArray from p) ?_
    refine ⟨s1.heap.objs.size, [s1.heap.objs.size], _, _, H1, rfl, I1.kept (t' := s1.toks) fun b o e => Heap.get?_push_of_some _ e, turn_tuple a _, ⟨_, Heap.get?_push_size _ rfl, rfl, rfl⟩, fun b hb => ?_, q⟩
    have e : b = s1.heap.objs.size := by simpa using hb
    subst e
    exact I1.fpOk (Nat.le_refl _) (I1.hok.fresh (Nat.le_refl _))
def dFor (j : Nat) (js : List Nat) (r : RE) (u : RS) : RS := fun D Δ M => r Δ M fun x Δ1 M1 => match x with
  | .lst ds => dLoop j js ds u D Δ1 M1
  | .scr ns => dLoop j js (ns.map .int) u D Δ1 M1
  | .tup ds => dLoop j js ds u D Δ1 M1
  | _ => False
theorem qs_for {X : Cx} {Z : Zx} {pos : Pos} {r : RE} {j : Nat} {js : List Nat} {x : Str} {px : Pos} {body : List Stmt} {iter : Expr} {u : RS} (hp : PassesOwn (model X.prog X.w) X.A X.env X.xe) (hc : X.calm = true) (hN : X.N.Nodup) (h : QE X Z iter r) (hb : QSs X Z body u) (hi : X.N[j]? = some x := by rfl) (hx : Loc X.env.scope x := by first | exact Or.inl rfl | exact Or.inr rfl)
    (hf : X.fn x = true ∨ X.env.scope.names.lookup x = some .local := by first | exact .inl rfl | exact .inr rfl) (hs : ∀ x, foldedSetIterable iter X.env x = pure x := by intro _; rfl) : QS X Z (.For (.Name x px) iter body [] pos) (dFor j js r u) := by
  obtain ⟨t, p, s⟩ := h
  obtain ⟨tb, pb, sb⟩ := hb
  refine ⟨_, ps_for hp hc (pi_seq p) (pg_name (i := j) hN hi hx hf) pb hs, fun M σ H Δ F De c h Dv ok => ?_⟩
  refine s M σ H Δ F _ c h _ fun v H1 y Δ1 M1 F1 e1 c1 r1 h1 => ?_
  cases y with
  | lst ds =>
    obtain ⟨a, vs, e2, g1, g2⟩ := r1
    exact ⟨a, e2, .inl ⟨⟨_, SqL.of (c1.bs.fH _ _ g1)⟩, loop_list simG_name sb c1 (SqL.of g1) g2 h1 (ok.mono e1)⟩⟩
  | scr ns =>
    obtain ⟨a, e2, g1⟩ := r1
    exact ⟨a, e2, .inl ⟨⟨_, Evl.ex_l c1.bs.fH g1⟩, loop_list simG_name sb c1 g1 (ints_rps ns) h1 (ok.mono e1)⟩⟩
  | tup ds =>
    obtain ⟨a, vs, e2, g1, g2⟩ := r1
    exact ⟨a, e2, .inr ⟨⟨_, Evl.ex_t c1.bs.fH g1⟩, loop_tup simG_name sb c1 g1 g2 h1 (ok.mono e1)⟩⟩
  | _ => exact h1.elim

/-! ### readings of loops, ready for use -/
/-- a loop whose turns bring the slots from f i to f (i + 1) -/
theorem loop_by {j : Nat} {js : List Nat} {xs : List D} {u : RS} {De : DE} {Δ : List Sl} {M : Mem} (f : Nat → List Sl) (h0 : fgt js Δ = f 0)
    (hs : ∀ i d, xs[i]? = some d → u { De with nx := fun Δ2 M2 => fgt js Δ2 = f (i + 1) ∧ M2 = M, ct := fun Δ2 M2 => fgt js Δ2 = f (i + 1) ∧ M2 = M, bk := De.nx } ((f i).set j (.d d)) M) (hd : De.nx (f xs.length) M) : dLoop j js xs u De Δ M :=
  ⟨fun i Δ' M' => Δ' = f i ∧ M' = M, ⟨h0, rfl⟩, fun i d Δ1 M1 hi ⟨e1, e2⟩ => by subst e1 e2; exact hs i d hi, fun Δ1 M1 ⟨e1, e2⟩ => by subst e1 e2; exact hd⟩
end DL

set_option Elab.async false
set_option linter.all false
set_option maxRecDepth 100000
set_option maxHeartbeats 4000000
namespace DL
open PySem PySem.Spec PyProof.Rows L2
open Evl (Ex)
/-! ### lists in memory -/
def updM (M : Mem) (p : Addr) (o : OD) : Mem := fun a => if a = p then some o else M a
theorem updM_same {M : Mem} {p : Addr} {o : OD} : updM M p o p = some o := by unfold updM; rw [if_pos rfl]
theorem updM_ne {M : Mem} {p a : Addr} {o : OD} (h : a ≠ p) : updM M p o a = M a := by unfold updM; rw [if_neg h]
theorem updM_updM {M : Mem} {p : Addr} {o u : OD} : updM (updM M p o) p u = updM M p u := by
  funext a; unfold updM; split <;> rfl
section
variable {K : PySem.W.Frag} {Z : Zx} {M : Mem} {σ : L2.St} {H F : Hp} {Δ : List Sl}
theorem Cn.newM (c : Cn K Z M σ H Δ F) {p : Addr} {ds : List D} {vs : List V} (hp : H p = none) (r : Rps K F ds vs) : Cn K Z (updM M p (.lst ds)) σ (upd H p (.lst vs)) Δ F where
  bs := {
    f0 := c.bs.f0
    fH := (c.bs.newH hp _).fH
    rH := (c.bs.newH hp (.lst vs)).rH
    fr := c.bs.fr
    mm := fun a o h => by
      by_cases e : a = p
      · subst e
        rw [updM_same] at h
        cases h
        exact ⟨c.bs.freeF hp, c.bs.freeR hp, vs, upd_same, r⟩
      · rw [updM_ne e] at h
        exact (c.bs.newH hp (.lst vs)).mm a o h }
  len := c.len
  slot := fun i s h => by
    have k := (c.newH hp (.lst vs)).slot i s h
    cases s with
    | un => exact True.intro
    | d d => exact k
    | own es =>
      obtain ⟨a, ws, e, h1, h2, h3, h4, h5⟩ := k
      have g := c.slot i _ h
      obtain ⟨a', ws', e', g1, _⟩ := g
      rw [e] at e'
      cases e'
      exact ⟨a, ws, e, h1, h2, h3, h4, by rw [updM_ne (ne_of_none g1 hp)]; exact h5⟩
  sep := c.sep
theorem Cn.setM (c : Cn K Z M σ H Δ F) {p : Addr} {o : OD} {ds : List D} {vs : List V} (hM : M p = some o) (r : Rps K F ds vs) : Cn K Z (updM M p (.lst ds)) σ (upd H p (.lst vs)) Δ F := by
  obtain ⟨m1, m2, m3⟩ := c.bs.mm p o hM
  refine ⟨⟨c.bs.f0, fun a u h => ?_, fun a u h => ?_, c.bs.fr, fun a u h => ?_⟩, c.len, fun i s h => ?_, c.sep⟩
  · have e : a ≠ p := fun e => by subst e; rw [m1] at h; cases h
    rw [upd_ne e]; exact c.bs.fH a u h
  · have e : a ≠ p := fun e => by subst e; rw [m2] at h; cases h
    rw [upd_ne e]; exact c.bs.rH a u h
  · by_cases e : a = p
    · subst e
      rw [updM_same] at h
      cases h
      exact ⟨m1, m2, vs, upd_same, r⟩
    · rw [updM_ne e] at h
      rw [upd_ne e]; exact c.bs.mm a u h
  · have k := c.slot i s h
    cases s with
    | un => exact True.intro
    | d d => exact k
    | own es =>
      obtain ⟨a, ws, e, h1, h2, h3, h4, h5⟩ := k
      have ne : a ≠ p := fun e => by subst e; rw [h5] at hM; cases hM
      exact ⟨a, ws, e, by rw [upd_ne ne]; exact h1, h2, h3, h4, by rw [updM_ne ne]; exact h5⟩
theorem Bs.lstM (b : Bs K Z M H F) {p : Addr} {ds : List D} (h : M p = some (.lst ds)) : ∃ vs, H p = some (.lst vs) ∧ Rps K F ds vs := (b.mm p _ h).2.2
end
section
variable {X : Cx} {Z : Zx} {e a b c : Expr} {ra rb rc r : RE} {rt ru : RT} {pos : Pos} {es : List Expr} {rl : RA} {n : Nat} {K : PySem.W.Frag}
/-- x = a new list, in memory -/
def dSetM (i : Nat) (rl : RA) : RS := fun D Δ M => rl Δ M fun ds Δ1 M1 => ∀ p, M1 p = none → D.nx (Δ1.set i (.d (.ref p))) (updM M1 p (.lst ds))
theorem qs_setM {i : Nat} {x : Str} {pos' : Pos} (hN : X.N.Nodup) (h : QL X Z e rl) (hi : X.N[i]? = some x := by rfl) (hx : Loc X.env.scope x := by first | exact Or.inl rfl | exact Or.inr rfl) (hs : swapsWith e (some (.Name x pos')) pos.line X.env = pure false := by rfl)
    (hf : X.fn x = true ∨ X.env.scope.names.lookup x = some .local := by first | exact .inl rfl | exact .inr rfl) : QS X Z (.Assign [.Name x pos'] e pos) (dSetM i rl) := by
  obtain ⟨t, p, s⟩ := h
  refine ⟨_, ps_set (i := i) hN hi hx p hs hf, fun M σ H Δ F De c h Dv ok => ?_⟩
  refine s M σ H Δ F _ c h _ fun p H1 vs ds Δ1 M1 F1 e1 c1 hp r1 h1 => ?_
  exact ok.nx _ _ _ _ F1 e1 ((c1.newM hp r1).set (d := .ref p) rfl i) (h1 p (c1.bs.freeM hp))
/-- a new list as a value, in memory -/
def dNewM (rl : RA) : RE := fun Δ M Φ => rl Δ M fun ds Δ1 M1 => ∀ p, M1 p = none → Φ (.ref p) Δ1 (updM M1 p (.lst ds))
theorem qe_newM (h : QL X Z e rl) : QE X Z e (dNewM rl) := by
  obtain ⟨t, p, s⟩ := h
  refine ⟨t, p, fun M σ H Δ F Φ c h Q q => ?_⟩
  refine s M σ H Δ F _ c h Q fun p H1 vs ds Δ1 M1 F1 e1 c1 hp r1 h1 => ?_
  exact q _ _ (.ref p) Δ1 _ F1 e1 (c1.newM hp r1) rfl (h1 p (c1.bs.freeM hp))
/-- xs[i], len(xs), xs a list in memory -/
def dIxM (ra rb : RE) : RE := fun Δ M Φ => ra Δ M fun x Δ1 M1 => rb Δ1 M1 fun y Δ2 M2 => match x, y with
  | .ref p, .int i => ∃ ds, M2 p = some (.lst ds) ∧ ∃ d, atI ds i = some d ∧ Φ d Δ2 M2
  | _, _ => False
theorem qe_ixM (ha : QE X Z a ra) (hb : QE X Z b rb) (hs : PlainIx b := by intro _ _; rfl) : QE X Z (.Subscript a b pos) (dIxM ra rb) := by
  obtain ⟨ta, pa, sa⟩ := ha
  obtain ⟨tb, pb, sb⟩ := hb
  refine ⟨_, pe_ix ix_list pa pb hs, fun M σ H Δ F Φ c h Q q => ?_⟩
  refine sa M σ H Δ F _ c h _ fun v H1 x Δ1 M1 F1 e1 c1 r1 h1 => ?_
  refine sb M1 σ H1 Δ1 F1 _ c1 h1 _ fun w H2 y Δ2 M2 F2 e2 c2 r2 h2 => ?_
  split at h2
  · obtain ⟨ds, hM, d, hd, k⟩ := h2
    obtain ⟨vs, g1, g2⟩ := c2.bs.lstM hM
    obtain ⟨u, h3, h4⟩ := atI_rps g2 hd
    exact ⟨_, vs, _, u, r1, r2, SqL.of g1, h3, q u H2 d Δ2 M2 F2 (e1.trans e2) c2 h4 k⟩
  · exact h2.elim
def dLenM (r : RE) : RE := fun Δ M Φ => r Δ M fun x Δ1 M1 => match x with
  | .ref p => ∃ ds, M1 p = some (.lst ds) ∧ Φ (.int (ds.length : Nat)) Δ1 M1
  | _ => False
theorem qe_lenM {p : Pos} (hg : Gl X "len") (hm : X.mg "len" = none) (h : QE X Z e r) (he : starEach [e] X.env = (false, eval e X.env) :: starEach [] X.env := by rfl) (hpl : (backTo pos (starEach [] X.env)).any (·.1) = false := by rfl) :
    QE X Z (.Call (.Name "len" p) [e] [] pos) (dLenM r) := by
  obtain ⟨t, pa, s⟩ := h
  refine ⟨_, pe_callB cr_lenAll hg hm boot_len (pa_cons pa pa_nil he) (by decide) (by decide) he hpl, fun M σ H Δ F Φ c h Q q => ?_⟩
  refine s M σ H Δ F _ c h _ fun v H1 x Δ1 M1 F1 e1 c1 r1 h1 => ?_
  cases x with
  | ref p =>
    obtain ⟨ds, hM, k⟩ := h1
    obtain ⟨vs, g1, g2⟩ := c1.bs.lstM hM
    refine .inl ⟨p, vs, by rw [show v = .ref p from r1], .inl (SqL.of g1), ?_⟩
    rw [rps_len g2]
    exact q _ H1 (.int _) Δ1 M1 F1 e1 c1 rfl k
  | _ => exact h1.elim
/-- xs.append(e) -/
def dAppM (ra r : RE) : RS := fun D Δ M => ra Δ M fun x Δ1 M1 => match x with
  | .ref p => (∃ ds, M1 p = some (.lst ds)) ∧ r Δ1 M1 fun d Δ2 M2 => ∃ ds, M2 p = some (.lst ds) ∧ ds.length < sizeLine ∧ D.nx Δ2 (updM M2 p (.lst (ds ++ [d])))
  | _ => False
theorem qs_appM {o : Expr} {p2 pos' : Pos} (ho : QE X Z o ra) (h : QE X Z e r)
    (hpe : ∀ t u, PE X o t → PE X e u → PE X (.Call (.Attribute o "append" p2) [e] [] pos) (tBM X.K "list" rAppend t (tCons u tNil)) := by intro t u ht hu; exact pe_bm PySem.F.plainAttrs_list PySem.F.slot_list_append PySem.F.type_list_append mt_append ht (pa_cons hu pa_nil))
    (hs : swapsWith (.Call (.Attribute o "append" p2) [e] [] pos) none pos'.line X.env = pure false := by rfl) : QS X Z (.Expr (.Call (.Attribute o "append" p2) [e] [] pos) pos') (dAppM ra r) := by
  obtain ⟨t0, p0, s0⟩ := ho
  obtain ⟨t, p, s⟩ := h
  refine ⟨_, ps_expr (hpe t0 t p0 p) hs, fun M σ H Δ F De c h Dv ok => ?_⟩
  refine s0 M σ H Δ F _ c h _ fun v H1 x Δ1 M1 F1 e1 c1 r1 h1 => ?_
  cases x with
  | ref a =>
    obtain ⟨⟨ds0, hM0⟩, h1⟩ := h1
    obtain ⟨vs0, g0, _⟩ := c1.bs.lstM hM0
    rw [show v = .ref a from r1]
    refine ⟨.inl ⟨rfl, _, SqL.of g0⟩, ?_⟩
    refine s M1 σ H1 Δ1 F1 _ c1 h1 _ fun w H2 y Δ2 M2 F2 e2 c2 r2 h2 => ?_
    obtain ⟨ds, hM, hl, k⟩ := h2
    obtain ⟨vs, g1, g2⟩ := c2.bs.lstM hM
    refine ⟨a, vs, w, rfl, rfl, g1, by rw [rps_len g2]; exact hl, ?_⟩
    exact ok.nx σ _ _ _ F2 (e1.trans e2) (c2.setM hM (rps_app g2 (rps_one r2))) k
  | _ => exact h1.elim
/-- for x in xs, xs in memory and not changed -/
def dForM (j : Nat) (js : List Nat) (r : RE) (u : RS) : RS := fun D Δ M => r Δ M fun x Δ1 M1 => match x with
  | .ref p => ∃ ds, M1 p = some (.lst ds) ∧ ∃ Pv : Nat → List Sl → Mem → Prop, Pv 0 (fgt js Δ1) M1 ∧ (∀ i Δ2 M2, Pv i Δ2 M2 → M2 p = some (.lst ds)) ∧
    (∀ i d Δ2 M2, ds[i]? = some d → Pv i Δ2 M2 → u { D with nx := fun Δ3 M3 => Pv (i + 1) (fgt js Δ3) M3, ct := fun Δ3 M3 => Pv (i + 1) (fgt js Δ3) M3, bk := D.nx } (Δ2.set j (.d d)) M2) ∧ ∀ Δ2 M2, Pv ds.length Δ2 M2 → D.nx Δ2 M2
  | _ => False
theorem qs_forM {j : Nat} {js : List Nat} {x : Str} {px : Pos} {body : List Stmt} {iter : Expr} {u : RS} (hp : PassesOwn (model X.prog X.w) X.A X.env X.xe) (hc : X.calm = true) (hN : X.N.Nodup) (h : QE X Z iter r) (hb : QSs X Z body u) (hi : X.N[j]? = some x := by rfl) (hx : Loc X.env.scope x := by first | exact Or.inl rfl | exact Or.inr rfl)
    (hf : X.fn x = true ∨ X.env.scope.names.lookup x = some .local := by first | exact .inl rfl | exact .inr rfl) (hs : ∀ x, foldedSetIterable iter X.env x = pure x := by intro _; rfl) : QS X Z (.For (.Name x px) iter body [] pos) (dForM j js r u) := by
  obtain ⟨t, p, s⟩ := h
  obtain ⟨tb, pb, sb⟩ := hb
  refine ⟨_, ps_for hp hc (pi_list p) (pg_name (i := j) hN hi hx hf) pb hs, fun M σ H Δ F De c h Dv ok => ?_⟩
  refine s M σ H Δ F _ c h _ fun v H1 y Δ1 M1 F1 e1 c1 r1 h1 => ?_
  cases y with
  | ref a =>
    obtain ⟨ds, hM, Pv, h0, hst, hs, hd⟩ := h1
    obtain ⟨vs, g1, g2⟩ := c1.bs.lstM hM
    refine ⟨a, r1, ⟨vs, SqL.of g1⟩, fun i m σ H => ∃ Δ M F' ws, Ex F1 F' ∧ Cn X.K Z M σ H Δ F' ∧ H a = some (.lst ws) ∧ Rps X.K F' ds ws ∧ i + m = ds.length ∧ Pv i Δ M, ⟨ds.length, _, M1, F1, vs, Ex.refl _, cn_fgt js _ c1, g1, g2, Nat.zero_add _, h0⟩, ?_⟩
    rintro i m σ H ⟨Δ, M, F', ws, e, c, gl, gr, him, hp'⟩
    by_cases hi' : i < ds.length
    · have hd' : ds[i]? = some ds[i] := List.getElem?_eq_getElem hi'
      obtain ⟨w, hw, rw'⟩ := rps_get gr hd'
      refine .inr ⟨⟨ws, w, SqL.of gl, hw⟩, fun σ' H' => ∃ Δ M F' ws, Ex F1 F' ∧ Cn X.K Z M σ' H' Δ F' ∧ H' a = some (.lst ws) ∧ Rps X.K F' ds ws ∧ Pv (i + 1) Δ M, ?_, ?_⟩
      · rintro σ' H' ⟨Δ, M, F', ws, e, c, gl, gr, hp'⟩
        exact ⟨m - 1, by omega, Δ, M, F', ws, e, c, gl, gr, by omega, hp'⟩
      · rintro x H' ⟨rfl, hy⟩
        have ex : x = w := by
          have := hy ws (SqL.of gl)
          rw [hw] at this
          exact (Option.some.inj this).symm
        subst ex
        have again : ∀ (σ' : L2.St) (H' : Hp) (Δ' : List Sl) (M' : Mem) (F'' : Hp), Ex F' F'' → Cn X.K Z M' σ' H' Δ' F'' → Pv (i + 1) (fgt js Δ') M' → ∃ Δ M F' ws, Ex F1 F' ∧ Cn X.K Z M σ' H' Δ F' ∧ H' a = some (.lst ws) ∧ Rps X.K F' ds ws ∧ Pv (i + 1) Δ M := by
          intro σ' H' Δ' M' F'' e2 c' k
          obtain ⟨ws', q1, q2⟩ := c'.bs.lstM (hst _ _ _ k)
          exact ⟨_, M', F'', ws', e.trans e2, cn_fgt js _ c', q1, q2, k⟩
        refine sb M _ _ _ F' _ (c.set rw' j) (hs i _ Δ M hd' hp') _ ⟨again, ((ok.mono e1).mono e).rt, ((ok.mono e1).mono e).nx, again⟩
    · have : i = ds.length := by omega
      subst this
      refine .inl ⟨⟨ws, SqL.of gl, by rw [rps_len gr]; exact Nat.le_refl _⟩, ?_⟩
      exact ok.nx σ H Δ M F' (e1.trans e) c (hd _ _ hp')
  | _ => exact h1.elim
/-- for a, b in xs -/
def dForU (is js : List Nat) (r : RE) (u : RS) : RS := fun D Δ M => r Δ M fun x Δ1 M1 => match x with
  | .lst ds => dLoopG (tgU is) js ds u D Δ1 M1
  | .tup ds => dLoopG (tgU is) js ds u D Δ1 M1
  | _ => False
theorem qs_forU {is js : List Nat} {tgs : List Expr} {k : Nat} {tp : Pos} {body : List Stmt} {iter : Expr} {u : RS} (hp : PassesOwn (model X.prog X.w) X.A X.env X.xe) (hc : X.calm = true) (h : QE X Z iter r) (hg : PGs X tgs (gNames is)) (hb : QSs X Z body u)
    (hpg : PGs X tgs (gNames is) → PG X (.Tuple tgs k tp) (gTup X.K is.length (gNames is)) := by intro hg; exact pg_tup rfl hg) (hs : ∀ x, foldedSetIterable iter X.env x = pure x := by intro _; rfl) : QS X Z (.For (.Tuple tgs k tp) iter body [] pos) (dForU is js r u) := by
  obtain ⟨t, p, s⟩ := h
  obtain ⟨tb, pb, sb⟩ := hb
  refine ⟨_, ps_for hp hc (pi_seq p) (hpg hg) pb hs, fun M σ H Δ F De c h Dv ok => ?_⟩
  refine s M σ H Δ F _ c h _ fun v H1 y Δ1 M1 F1 e1 c1 r1 h1 => ?_
  cases y with
  | lst ds =>
    obtain ⟨a, vs, e2, g1, g2⟩ := r1
    exact ⟨a, e2, .inl ⟨⟨_, SqL.of (c1.bs.fH _ _ g1)⟩, loop_list simG_tup sb c1 (SqL.of g1) g2 h1 (ok.mono e1)⟩⟩
  | tup ds =>
    obtain ⟨a, vs, e2, g1, g2⟩ := r1
    exact ⟨a, e2, .inr ⟨⟨_, Evl.ex_t c1.bs.fH g1⟩, loop_tup simG_tup sb c1 g1 g2 h1 (ok.mono e1)⟩⟩
  | _ => exact h1.elim

/-! ### new lists -/
/-- xs + e, xs a list of one's own -/
def dCatO (j : Nat) (r : RE) : RA := fun Δ M Φ => isOwn Δ j ∧ r Δ M fun y Δ1 M1 => match Δ1[j]?, y with
  | some (.own ds), .lst es => ds.length + es.length ≤ sizeLine ∧ Φ (ds ++ es) Δ1 M1
  | _, _ => False
theorem ql_catO (j : Nat) {x : Str} {p2 : Pos} (hb : QE X Z b rb) (hN : X.N[j]? = some x := by rfl) (hv : Vis X.env.scope x := by first | exact Or.inl rfl | exact Or.inr (Or.inl rfl) | exact Or.inr (Or.inr rfl)) (hd : (x == ("__debug__" : Str)) = false := by decide)
    (hcd : (x == ("__classdict__" : Str)) = false := by decide) : QL X Z (.BinOp (.Name x p2) .Add b pos) (dCatO j rb) := by
  obtain ⟨tb, pb, sb⟩ := hb
  refine ⟨_, pe_op op_cat (pe_var (i := j) hN hv hd hcd) pb, ?_⟩
  rintro M σ H Δ F Φ c ⟨⟨ds0, h0⟩, h⟩ Q q
  obtain ⟨p0, vs0, hv0, _⟩ := c.slot j _ h0
  refine ⟨_, hv0, ?_⟩
  refine sb M σ H Δ F _ c h _ fun w H1 y Δ1 M1 F1 e1 c1 r1 h1 => ?_
  split at h1
  · rename_i ds es hd
    obtain ⟨p, vs, e2, g1, g2, _⟩ := c1.slot j _ hd
    rw [hv0] at e2
    cases e2
    obtain ⟨b', ws, e3, g3, g4⟩ := r1
    refine ⟨p0, b', vs, ws, rfl, e3, g1, c1.bs.fH _ _ g3, by rw [rps_len g2, rps_len g4]; exact h1.1, fun p hp => ?_⟩
    exact q p H1 _ _ Δ1 M1 F1 e1 c1 hp (rps_app g2 g4) h1.2
  · exact h1.elim
end
/-- a promise about nothing -/
def spNever : DSp := fun _ _ _ _ => False
theorem fn_never {P : Program} {w : World} {K : PySem.W.Frag} {mg : Str → Option Value} {base : Heap} {CX : CXT} {k : Nat} {f : Addr} {fd : FuncData} {ps : List Str} {S : DSp} (h : ∀ ds M Φ Ψ, ¬ S ds M Φ Ψ) : FnOk P w K mg base CX k f fd ps (spOf K S) :=
  ⟨fun vs H Q E ⟨_, _, _, _, _, _, _, _, s, _⟩ => absurd s (h _ _ _ _), fun A outer s H args us vs Q E _ _ _ _ ⟨_, _, _, _, _, _, _, _, z, _⟩ => absurd z (h _ _ _ _)⟩
end DL

set_option Elab.async false
set_option linter.all false
set_option maxRecDepth 100000
set_option maxHeartbeats 4000000
/-! Exceptions over data. -/
namespace DL
open PySem PySem.Spec PyProof.Rows L2
open Evl (Ex)

abbrev DXS := Addr → List (Str × D) → List Sl → Mem → Prop
def XOk (K : PySem.W.Frag) (Z : Zx) (W : WX) (Ψ : DXS) : Prop := ∀ C fs Δ M dd σ H F, Cn K Z M σ H Δ F → XRep K F fs dd → Ψ C fs Δ M → W (.ref C) dd σ H
abbrev flatX (Ψ : DX) : DXS := fun C fs _ M => Ψ C fs M
abbrev flatW (E : XK) : WX := fun cls d _ H => E cls d H
theorem XRep.mono {K : PySem.W.Frag} {F F' : Hp} (e : Ex F F') {fs : List (Str × D)} {dd : Option Addr} (x : XRep K F fs dd) : XRep K F' fs dd := by
  cases dd with
  | none => exact x
  | some d =>
    obtain ⟨vfs, h1, h2, h3⟩ := x
    exact ⟨vfs, e _ _ h1, h2, rps_mono e _ _ h3⟩
section
variable {P : Program} {w : World} {K : PySem.W.Frag} {mg : Str → Option Value} {base : Heap}
/-- THE RULE for a def that may raise -/
theorem fn_okX {x qual : Str} {st : Stmt} {f : Addr} {fd : FuncData} {N ps : List Str} {k : Nat} {S : DSp} (F : Fun K x qual st f fd) (Sc : FnScope N ps (defScope st)) (hl : Arity S ps.length)
    (hbody : ∀ (cdv : Value) (A : Around) (outer : List Env) (s : Shared) (H : Hp) (E : XK) (Z : Zx) (Ψ : DX), Room k (A.deeper (envOfC qual (defScope st) s.heap.objs.size f cdv)) →
      Takes (cxOf (L2.CX P w) P w K mg base N qual (defScope st) f cdv A outer s H E) (flatW E) → PassesOwn (model P w) (A.deeper (envOfC qual (defScope st) s.heap.objs.size f cdv)) (envOfC qual (defScope st) s.heap.objs.size f cdv) (cxOf (L2.CX P w) P w K mg base N qual (defScope st) f cdv A outer s H E).xe →
      XOk K Z (flatW E) (flatX Ψ) →
      ∃ r : RS, QSs (cxOf (L2.CX P w) P w K mg base N qual (defScope st) f cdv A outer s H E) Z (defBody st) r ∧
        ∀ ds M Φ, S ds M Φ Ψ → r { nx := fun _ M' => Φ .non M', rt := Φ } (startD N.length ds) M) : FnOk P w K mg base (L2.CX P w) (k + 1) f fd ps (spOf K S) := by
  refine F.okX Sc (spOf_len hl) fun cdv A outer s H vs Q E hr h => ?_
  obtain ⟨R, F0, M, ds, Φ, Ψ, b, r, hS, hq, hx⟩ := h
  obtain ⟨rs, ⟨t, p, sim⟩, red⟩ := hbody cdv A outer s H E ⟨R, F0⟩ Ψ hr (takes_of rfl rfl rfl rfl) (passes_of rfl) fun C fs Δ M' dd σ H' F' c xr k => hx C fs M' dd H' F' c.bs xr k
  refine ⟨t, p, sim M _ H _ F0 _ (cn_start b r) (red ds M Φ hS) _ ⟨?_, ?_, ?_, ?_⟩⟩
  · intro σ' H' Δ' M' F' e c k
    exact hq .non H' .non M' F' c.bs rfl k
  · intro v H' d M' F' e c rr k
    exact hq v H' d M' F' c rr k
  · intro σ' H' Δ' M' F' e c k
    exact k.elim
  · intro σ' H' Δ' M' F' e c k
    exact k.elim
end
/-- f(..) that may raise -/
def dCallX (S : DSp) (Ψ : DXS) (rl : RA) : RE := fun Δ M Φ => rl Δ M fun ds Δ1 M1 => S ds M1 (fun d M2 => Φ d Δ1 M2) fun C fs M2 => Ψ C fs Δ1 M2
section
variable {X : Cx} {Z : Zx} {e : Expr} {pos : Pos} {es : List Expr} {rl : RA} {n k : Nat} {f : Addr} {fd : FuncData} {ps : List Str} {x : Str} {p : Pos} {S : DSp} {W : WX} {Ψ : DXS}
theorem sim_callX {K : PySem.W.Frag} {t : TA} (xo : XOk K Z W Ψ) (h : SimA K Z n t rl) : Sim K Z (tCallS (spOf K S) (WE W) t) (dCallX S Ψ rl) := by
  intro M σ H Δ F Φ c k Q q
  refine h M σ H Δ F _ c k _ fun vs H1 ds Δ1 M1 F1 e1 c1 r1 hl h1 => ?_
  show spOf K S vs H1 Q (WE W σ)
  refine ⟨restAt Z σ Δ1 H1, F1, M1, ds, _, _, call_in c1, r1, h1, fun v H' d M' F' b rr hΦ => ?_, fun C fs M' dd H' F' b rr hΨ => ?_⟩
  · exact q v H' d Δ1 M' F' (e1.trans b.f0) (call_out c1 b) rr hΦ
  · exact xo C fs Δ1 M' dd σ H' F' (call_out c1 b) rr hΨ
theorem qe_callX (Fn : FnOk X.prog X.w X.K X.mg X.base (L2.CX X.prog X.w) k f fd ps (spOf X.K S)) (hr : Room k X.A) (tk : Takes X W) (xo : XOk X.K Z W Ψ) (hg : Gl X x) (hm : X.mg x = some (.ref f)) (hk : PySem.W.keepIn X.K (.ref f) = true) (hb : Binds X.K fd ps []) (ha : QA X Z n (e :: es) rl) (hdb : (x == ("__debug__" : Str)) = false := by decide)
    (he : starEach (e :: es) X.env = (false, eval e X.env) :: starEach es X.env := by rfl) (hpl : (backTo pos (starEach es X.env)).any (·.1) = false := by rfl) : QE X Z (.Call (.Name x p) (e :: es) [] pos) (dCallX S Ψ rl) := by
  obtain ⟨t, pa, s⟩ := ha
  exact ⟨_, pe_callS Fn hr hg hm hk hb (fun σ => passAt tk σ) pa hdb he hpl, sim_callX xo s⟩
end

/-! ### an own class with an own __init__ that sets fields -/
/-- what __init__ does: the fields, the last one first -/
def spInit (C : Addr) (names : List Str) : Sp := fun vs H Q _ => ∃ a ws, vs = .ref a :: ws ∧ ws.length = names.length ∧ H a = some (exo a C none) ∧
  ∀ d H', H d = none → d ≠ a → H' a = some (exo a C (some d)) → H' d = some (exd d (names.zip ws).reverse) → (∀ b, b ≠ a → b ≠ d → H' b = H b) → Q .non H'
/-- raise C(..) -/
def dRaise (C : Addr) (names : List Str) (Ψ : DXS) (rl : RA) : RS := fun _ Δ M => rl Δ M fun ds Δ1 M1 => ds.length = names.length ∧ Ψ C (names.zip ds).reverse Δ1 M1
theorem rps_snoc {K : PySem.W.Frag} {F : Hp} {ds : List D} {vs : List V} {d : D} {v : V} (h : Rps K F ds vs) (r : Rp K F d v) : Rps K F (ds ++ [d]) (vs ++ [v]) := rps_app h (rps_one r)
theorem zip_rev {K : PySem.W.Frag} {F : Hp} : ∀ (names : List Str) (ds : List D) (vs : List V), ds.length = names.length → Rps K F ds vs →
    (names.zip vs).reverse.map Prod.fst = (names.zip ds).reverse.map Prod.fst ∧ Rps K F ((names.zip ds).reverse.map Prod.snd) ((names.zip vs).reverse.map Prod.snd)
  | [], [], vs, _, h => by
    rw [show vs = [] from h]
    exact ⟨rfl, rfl⟩
  | x :: names, d :: ds, vs, hl, h => by
    obtain ⟨v, r, rfl, h1, h2⟩ := h
    obtain ⟨g1, g2⟩ := zip_rev names ds r (by simpa using hl) h2
    rw [List.zip_cons_cons, List.zip_cons_cons, List.reverse_cons, List.reverse_cons, List.map_append, List.map_append, List.map_append, List.map_append, g1]
    exact ⟨rfl, rps_snoc g2 h1⟩
  | [], d :: ds, _, hl, _ => by cases hl
  | x :: names, [], _, hl, _ => by cases hl
section
variable {X : Cx} {Z : Zx} {e : Expr} {pos pos2 : Pos} {es : List Expr} {rl : RA} {n k : Nat} {C fI : Addr} {fd : FuncData} {ps names : List Str} {x : Str} {p : Pos} {W : WX} {Ψ : DXS}
theorem sim_raise {K : PySem.W.Frag} {t : TA} (xo : XOk K Z W Ψ) (h : SimA K Z n t rl) (hn : n ≤ 1000) : SimS K Z (fun _ σ H => tMkO C (spInit C names) [] t σ H fun cls d H' => W cls d σ H') (dRaise C names Ψ rl) := by
  intro M σ H Δ F De c k Dv ok
  refine h M σ H Δ F _ c k _ fun vs H1 ds Δ1 M1 F1 e1 c1 r1 hl h1 => ⟨by rw [rps_len r1, hl]; exact hn, fun a ha => ?_⟩
  refine ⟨a, vs, by rw [List.append_nil], by rw [rps_len r1]; exact h1.1, upd_same, fun d H' hd hda e1' e2' e3' => ⟨rfl, d, _, e1', e2', ?_, ?_⟩⟩
  · rw [upd_ne hda] at hd
    exact hd
  · rw [upd_ne hda] at hd
    have eq : upd (del H' a) d (.xd (names.zip vs).reverse) = upd H1 d (.xd (names.zip vs).reverse) := by
      funext b
      by_cases hbd : b = d
      · subst hbd
        rw [upd_same, upd_same]
      · rw [upd_ne hbd, upd_ne hbd]
        by_cases hba : b = a
        · subst hba
          rw [del_same, ha]
        · rw [del_ne hba, e3' b hba hbd, upd_ne hba]
    rw [eq]
    have c2 := c1.new hd (.xd (names.zip vs).reverse)
    obtain ⟨g1, g2⟩ := zip_rev names ds vs h1.1 r1
    exact xo C _ Δ1 M1 (some d) σ _ _ c2 ⟨_, upd_same, g1, rps_mono (c1.bs.exF hd _) _ _ g2⟩ h1.2
theorem qs_raise (hc : X.calm = true) (tk : Takes X W) (xo : XOk X.K Z W Ψ) (T : OexC X.K C) (iC : PySem.W.findIn X.K (.ref C) "__init__" = some (some (.ref fI))) (tI : PySem.W.typeIn X.K (.ref fI) = some (.type "function"))
    (Fn : FnOk X.prog X.w X.K X.mg X.base CX0 k fI fd ps (spInit C names)) (hr : Room (k + 1) X.A) (hb : Binds X.K fd ps []) (hg : Gl X x) (hm : X.mg x = some (.ref C)) (ha : QA X Z n (e :: es) rl) (hn : n ≤ 1000 := by decide)
    (hdb : (x == ("__debug__" : Str)) = false := by decide) (he : starEach (e :: es) X.env = (false, eval e X.env) :: starEach es X.env := by rfl) (hpl : (backTo pos (starEach es X.env)).any (·.1) = false := by rfl) :
    QS X Z (.Raise (some (.Call (.Name x p) (e :: es) [] pos)) none pos2) (dRaise C names Ψ rl) := by
  obtain ⟨t, pa, s⟩ := ha
  exact ⟨_, ps_raise hc tk (pmk_oex T iC tI Fn hr hb .nil pass0 hg hm pa hdb he hpl), sim_raise xo s hn⟩
end
end DL

set_option Elab.async false
set_option linter.all false
set_option maxRecDepth 100000
set_option maxHeartbeats 4000000
/-! try over data -/
namespace DL
open PySem PySem.Spec PyProof.Rows L2
open Evl (Ex)
section
variable {K : PySem.W.Frag} {Z : Zx} {M : Mem} {σ : L2.St} {H F F0 : Hp} {Δ : List Sl}
theorem slot_at {F' : Hp} {o : Option (Option V)} {s : Sl} (h : SlotOk K Z F M H o s) : SlotOk K ⟨Z.R, F'⟩ F M H o s := by
  cases s with
  | un => exact h
  | d d => exact h
  | own ds => exact h
theorem slot_of {F' : Hp} {o : Option (Option V)} {s : Sl} (h : SlotOk K ⟨Z.R, F'⟩ F M H o s) : SlotOk K Z F M H o s := by
  cases s with
  | un => exact h
  | d d => exact h
  | own ds => exact h
theorem Bs.ofAt (e : Ex Z.F0 F0) (b : Bs K ⟨Z.R, F0⟩ M H F) : Bs K Z M H F := ⟨e.trans b.f0, b.fH, b.rH, b.fr, b.mm⟩
theorem Cn.toAt (c : Cn K Z M σ H Δ F) : Cn K ⟨Z.R, F⟩ M σ H Δ F := ⟨⟨Ex.refl _, c.bs.fH, c.bs.rH, c.bs.fr, c.bs.mm⟩, c.len, fun i s h => slot_at (c.slot i s h), c.sep⟩
theorem Cn.ofAt (e : Ex Z.F0 F0) (c : Cn K ⟨Z.R, F0⟩ M σ H Δ F) : Cn K Z M σ H Δ F := ⟨c.bs.ofAt e, c.len, fun i s h => slot_of (c.slot i s h), c.sep⟩
/-- a slot is emptied -/
theorem Cn.emptied (c : Cn K Z M σ H Δ F) (i : Nat) : Cn K Z M (σ.set i none) H (Δ.set i .un) F where
  bs := c.bs
  len := by rw [List.length_set, List.length_set, c.len]
  slot := fun j s h => by
    rcases get_set h with ⟨e, hl, e2⟩ | ⟨e, h'⟩
    · subst e2; exact True.intro
    · rw [List.getElem?_set_ne e]
      exact c.slot j s h'
  sep := fun j l a ds es hne h1 h2 h3 h4 => by
    rcases get_set h1 with ⟨_, _, e⟩ | ⟨n1, h1'⟩
    · cases e
    rcases get_set h2 with ⟨_, _, e⟩ | ⟨n2, h2'⟩
    · cases e
    rw [List.getElem?_set_ne n1] at h3
    rw [List.getElem?_set_ne n2] at h4
    exact c.sep j l a ds es hne h1' h2' h3 h4
theorem EndsOk.toAt {De : DE} {Dv : Ends} (e : Ex Z.F0 F) (eF : Ex F F0) (ok : EndsOk K Z F De Dv) : EndsOk K ⟨Z.R, F0⟩ F0 De Dv :=
  ⟨fun σ' H' Δ' M' F' e1 c => ok.nx σ' H' Δ' M' F' (eF.trans e1) (c.ofAt (e.trans eF)), fun v H' d M' F' e1 b => ok.rt v H' d M' F' (eF.trans e1) (b.ofAt (e.trans eF)),
   fun σ' H' Δ' M' F' e1 c => ok.bk σ' H' Δ' M' F' (eF.trans e1) (c.ofAt (e.trans eF)), fun σ' H' Δ' M' F' e1 c => ok.ct σ' H' Δ' M' F' (eF.trans e1) (c.ofAt (e.trans eF))⟩
end
/-- the ends of a suite with a name -/
def asEnds (i : Nat) (De : DE) : DE := { nx := fun Δ M => De.nx (Δ.set i .un) M, rt := De.rt, bk := fun Δ M => De.bk (Δ.set i .un) M, ct := fun Δ M => De.ct (Δ.set i .un) M }
/-- what the body of a try wishes of an exception -/
def asX (cat : List (Addr × Bool)) (i : Nat) (rs : Addr → Addr → List (Str × D) → RS) (Ψ : DXS) (De : DE) : DXS := fun C fs Δ1 M1 => ∃ b, (C, b) ∈ cat ∧
  (b = true → ∀ a, rs a C fs (asEnds i De) (Δ1.set i (.d (.ref a))) M1) ∧ (b = false → Ψ C fs Δ1 M1)
def onX (cat : List (Addr × Bool)) (rs : Addr → Addr → List (Str × D) → RS) (Ψ : DXS) (De : DE) : DXS := fun C fs Δ1 M1 => ∃ b, (C, b) ∈ cat ∧
  (b = true → ∀ a, rs a C fs De Δ1 M1) ∧ (b = false → Ψ C fs Δ1 M1)
def dTryAs (cat : List (Addr × Bool)) (i : Nat) (rb : DXS → RS) (rs : Addr → Addr → List (Str × D) → RS) (Ψ : DXS) : RS := fun De Δ M => rb (asX cat i rs Ψ De) De Δ M
def dTryOn (cat : List (Addr × Bool)) (rb : DXS → RS) (rs : Addr → Addr → List (Str × D) → RS) (Ψ : DXS) : RS := fun De Δ M => rb (onX cat rs Ψ De) De Δ M
theorem PSs.weak {X : Cx} {ss : List Stmt} {t t' : TS} (h : PSs X ss t) (k : ∀ D σ H, t' D σ H → t D σ H) : PSs X ss t' := ⟨fun pins s σ H D I z => h.run pins s σ H D I (k D σ H z)⟩
section
variable {X : Cx} {Z : Zx} {x n : Str} {c : Value} {cat : List (Addr × Bool)} {i : Nat} {body suite : List Stmt} {b₀ : Stmt} {np pos pos' : Pos} {W : WX} {Ψ : DXS} {rb : DXS → RS} {rs : Addr → Addr → List (Str × D) → RS}
/-- the body's term, one for all ways -/
def tBody (X : Cx) (body : List Stmt) (rb : DXS → RS) : WX → TS := fun W D σ H => ∃ (Z : Zx) (Ψ : DXS), XOk X.K Z W Ψ ∧ ∃ (M : Mem) (Δ : List Sl) (F : Hp) (De : DE), Cn X.K Z M σ H Δ F ∧ rb Ψ De Δ M ∧ EndsOk X.K Z F De D
def tSuite (X : Cx) (cat : List (Addr × Bool)) (rs : Addr → Addr → List (Str × D) → RS) : Addr → Value → Option Addr → TS := fun a cls d Dv σ H => ∃ (Z : Zx) (C : Addr) (fs : List (Str × D)), cls = .ref C ∧ (C, true) ∈ cat ∧ XRep X.K Z.F0 fs d ∧ ∃ (M : Mem) (Δ : List Sl) (F : Hp) (De : DE), Cn X.K Z M σ H Δ F ∧ rs a C fs De Δ M ∧ EndsOk X.K Z F De Dv
theorem pss_body (hb : ∀ (W : WX) (pn : List (Addr × Obj)) (xe : Value → Shared → Prop) (Z' : Zx) (Ψ' : DXS), Takes (X.tr pn xe) W → PassesOwn (model X.prog X.w) X.A X.env xe → XOk X.K Z' W Ψ' → QSs (X.tr pn xe) Z' body (rb Ψ'))
    (W : WX) (pn : List (Addr × Obj)) (xe : Value → Shared → Prop) (tk : Takes (X.tr pn xe) W) (po : PassesOwn (model X.prog X.w) X.A X.env xe) : PSs (X.tr pn xe) body (tBody X body rb W) := by
  refine ⟨fun pins s σ H D I h => ?_⟩
  obtain ⟨Z', Ψ', xo, M, Δ, F, De, c, k, ok⟩ := h
  obtain ⟨t, p, sim⟩ := hb W pn xe Z' Ψ' tk po xo
  exact p.run pins s σ H D I (sim M σ H Δ F De c k D ok)
theorem pss_suite (hsu : ∀ (a : Addr) (oe : Obj) (C : Addr) (d : Option Addr) (fs : List (Str × D)) (pn : List (Addr × Obj)) (Z' : Zx), (C, true) ∈ cat → Zc (.ref C) d oe → (∃ vs, oe.data = .fields vs) → XRep X.K Z'.F0 fs d → QSs (X.suite a ((a, oe) :: pn)) Z' (b₀ :: suite) (rs a C fs))
    (a : Addr) (oe : Obj) (cls : Value) (d : Option Addr) (pn : List (Addr × Obj)) (hz : Zc cls d oe) (hf : ∃ vs, oe.data = .fields vs) : PSs (X.suite a ((a, oe) :: pn)) (b₀ :: suite) (tSuite X cat rs a cls d) := by
  refine ⟨fun pins s σ H D I h => ?_⟩
  obtain ⟨Z', C, fs, e, hm, xr, M, Δ, F, De, c, k, ok⟩ := h
  subst e
  obtain ⟨t, p, sim⟩ := hsu a oe C d fs pn Z' hm hz hf xr
  exact p.run pins s σ H D I (sim M σ H Δ F De c k D ok)
theorem qs_try_as (hs : X.stack = X.env :: X.outer) (hf : X.env.frame = some X.env.locals) (hN : X.N.Nodup) (hi : X.N[i]? = some n) (hln : X.env.kindOf n = some .local) (hc : Names X x c) (hcat : ∀ C b, (C, b) ∈ cat → PySem.W.exmOne X.K (.ref C) c = some b) (tk : Takes X W) (xo : XOk X.K Z W Ψ)
    (hb : ∀ (W : WX) (pn : List (Addr × Obj)) (xe : Value → Shared → Prop) (Z' : Zx) (Ψ' : DXS), Takes (X.tr pn xe) W → PassesOwn (model X.prog X.w) X.A X.env xe → XOk X.K Z' W Ψ' → QSs (X.tr pn xe) Z' body (rb Ψ'))
    (hsu : ∀ (a : Addr) (oe : Obj) (C : Addr) (d : Option Addr) (fs : List (Str × D)) (pn : List (Addr × Obj)) (Z' : Zx), (C, true) ∈ cat → Zc (.ref C) d oe → (∃ vs, oe.data = .fields vs) → XRep X.K Z'.F0 fs d → QSs (X.suite a ((a, oe) :: pn)) Z' (b₀ :: suite) (rs a C fs)) :
    QS X Z (.Try body [.ExceptHandler (some (.Name x np)) (some n) (b₀ :: suite) pos'] [] [] pos) (dTryAs cat i rb rs Ψ) := by
  refine ⟨_, ps_try_as (tb := tBody X body rb) (ts := tSuite X cat rs) hs hf hN hi hln hc tk (fun W pn xe tk po => pss_body hb W pn xe tk po) (fun a oe cls d pn hz hf => pss_suite hsu a oe cls d pn hz hf), ?_⟩
  intro M σ H Δ F De cn k Dv ok
  have f0 := cn.bs.f0
  refine ⟨⟨Z.R, F⟩, asX cat i rs Ψ De, ?_, M, Δ, F, De, cn.toAt, k, ok.toAt f0 (Ex.refl _)⟩
  intro C fs Δ1 M1 dd σ1 H1 F1 c1 xr hx
  obtain ⟨b, e, hy, hn⟩ := hx
  have eF : Ex F F1 := c1.bs.f0
  refine ⟨b, hcat C b e, fun hb a na => ?_, fun hb => ?_⟩
  · refine ⟨⟨Z.R, F1⟩, C, fs, rfl, by rw [← hb]; exact e, xr, M1, Δ1.set i (.d (.ref a)), F1, asEnds i De, ?_, hy hb a, ?_⟩
    · exact ((c1.ofAt f0).toAt).set (d := .ref a) rfl i
    · refine EndsOk.toAt (F := F) f0 eF ⟨?_, ok.rt, ?_, ?_⟩
      · exact fun σ' H' Δ' M' F' e1 c' z => ok.nx _ _ _ _ _ e1 (c'.emptied i) z
      · exact fun σ' H' Δ' M' F' e1 c' z => ok.bk _ _ _ _ _ e1 (c'.emptied i) z
      · exact fun σ' H' Δ' M' F' e1 c' z => ok.ct _ _ _ _ _ e1 (c'.emptied i) z
  · exact xo C fs Δ1 M1 dd σ1 H1 F1 (c1.ofAt f0) xr (hn hb)
theorem qs_try_only (hs : X.stack = X.env :: X.outer) (hf : X.env.frame = some X.env.locals) (hc : Names X x c) (hcat : ∀ C b, (C, b) ∈ cat → PySem.W.exmOne X.K (.ref C) c = some b) (tk : Takes X W) (xo : XOk X.K Z W Ψ)
    (hb : ∀ (W : WX) (pn : List (Addr × Obj)) (xe : Value → Shared → Prop) (Z' : Zx) (Ψ' : DXS), Takes (X.tr pn xe) W → PassesOwn (model X.prog X.w) X.A X.env xe → XOk X.K Z' W Ψ' → QSs (X.tr pn xe) Z' body (rb Ψ'))
    (hsu : ∀ (a : Addr) (oe : Obj) (C : Addr) (d : Option Addr) (fs : List (Str × D)) (pn : List (Addr × Obj)) (Z' : Zx), (C, true) ∈ cat → Zc (.ref C) d oe → (∃ vs, oe.data = .fields vs) → XRep X.K Z'.F0 fs d → QSs (X.suite a ((a, oe) :: pn)) Z' (b₀ :: suite) (rs a C fs)) :
    QS X Z (.Try body [.ExceptHandler (some (.Name x np)) none (b₀ :: suite) pos'] [] [] pos) (dTryOn cat rb rs Ψ) := by
  refine ⟨_, ps_try_only (tb := tBody X body rb) (ts := tSuite X cat rs) hs hf hc tk (fun W pn xe tk po => pss_body hb W pn xe tk po) (fun a oe cls d pn hz hf => pss_suite hsu a oe cls d pn hz hf), ?_⟩
  intro M σ H Δ F De cn k Dv ok
  have f0 := cn.bs.f0
  refine ⟨⟨Z.R, F⟩, onX cat rs Ψ De, ?_, M, Δ, F, De, cn.toAt, k, ok.toAt f0 (Ex.refl _)⟩
  intro C fs Δ1 M1 dd σ1 H1 F1 c1 xr hx
  obtain ⟨b, e, hy, hn⟩ := hx
  have eF : Ex F F1 := c1.bs.f0
  refine ⟨b, hcat C b e, fun hb a na => ?_, fun hb => ?_⟩
  · exact ⟨⟨Z.R, F1⟩, C, fs, rfl, by rw [← hb]; exact e, xr, M1, Δ1, F1, De, (c1.ofAt f0).toAt, hy hb a, EndsOk.toAt (F := F) f0 eF ok⟩
  · exact xo C fs Δ1 M1 dd σ1 H1 F1 (c1.ofAt f0) xr (hn hb)
end
theorem cat_one {C c : Addr} (h : (C, true) ∈ [(c, true)]) : C = c := by
  have := List.mem_singleton.mp h
  exact congrArg Prod.fst this
/-- nothing leaves this try -/
theorem xok_none {K : PySem.W.Frag} {Z : Zx} : XOk K Z (fun _ _ _ _ => False) (fun _ _ _ _ => False) := fun _ _ _ _ _ _ _ _ _ _ k => k
/-- e.f in an except suite -/
def dXf (a : Addr) (fs : List (Str × D)) (f : Str) (r : RE) : RE := fun Δ M Φ => r Δ M fun x Δ1 M1 => match x with
  | .ref b => b = a ∧ ∃ d, fs.lookup f = some d ∧ Φ d Δ1 M1
  | _ => False
theorem lookup_rps {K : PySem.W.Frag} {F : Hp} : ∀ {fs : List (Str × D)} {vfs : List (Str × V)} {f : Str} {d : D}, vfs.map Prod.fst = fs.map Prod.fst → Rps K F (fs.map Prod.snd) (vfs.map Prod.snd) → fs.lookup f = some d → ∃ v, vfs.lookup f = some v ∧ Rp K F d v
  | [], _, _, _, _, _, h => by cases h
  | (g, e) :: fs, [], _, _, hn, _, _ => by cases hn
  | (g, e) :: fs, (g', u) :: vfs, f, d, hn, hr, h => by
    rw [List.map_cons, List.map_cons] at hn
    obtain ⟨e1, e2⟩ := List.cons.inj hn
    replace e1 : g' = g := e1
    subst e1
    obtain ⟨v, r, e3, h1, h2⟩ := hr
    obtain ⟨e4, e5⟩ := List.cons.inj e3
    replace e4 : u = v := e4
    subst e4
    rw [← e5] at h2
    rw [lookup_put']
    rw [lookup_put'] at h
    by_cases k : f = g'
    · rw [if_pos k] at h ⊢
      cases h
      exact ⟨u, rfl, h1⟩
    · rw [if_neg k] at h ⊢
      exact lookup_rps e2 h2 h
where
  lookup_put' {α : Type} {f g : Str} {y : α} {l : List (Str × α)} : ((f, y) :: l).lookup g = if g = f then some y else l.lookup g := by
    by_cases h : g = f
    · subst h
      simp [List.lookup]
    · have e : (g == f) = false := by simpa using h
      rw [if_neg h]
      simp [List.lookup, e]
theorem qe_xf {X : Cx} {Z : Zx} {a C : Addr} {oe : Obj} {d : Option Addr} {fs : List (Str × D)} {pn : List (Addr × Obj)} {e : Expr} {r : RE} {pos : Pos} {n : Str} (T : XfC X.K C) (hno : PySem.W.findIn X.K (.ref C) n = some none)
    (hz : Zc (.ref C) d oe) (hf : ∃ vs, oe.data = .fields vs) (xr : XRep X.K Z.F0 fs d) (he : QE (X.suite a ((a, oe) :: pn)) Z e r) (hb : attributeBase e n X.env (eval e X.env) = eval e X.env := by rfl) :
    QE (X.suite a ((a, oe) :: pn)) Z (.Attribute e n pos) (dXf a fs n r) := by
  obtain ⟨t, p, s⟩ := he
  refine ⟨_, pe_xf T hno hz hf p hb, fun M σ H Δ F Φ c h Q q => ?_⟩
  refine s M σ H Δ F _ c h _ fun v H1 x Δ1 M1 F1 e1 c1 r1 h1 => ?_
  cases x with
  | ref b =>
    obtain ⟨rfl, dd, hl, hΦ⟩ := h1
    cases d with
    | none =>
      have : fs = [] := xr
      subst this
      cases hl
    | some dx =>
      obtain ⟨vfs, g1, g2, g3⟩ := xr.mono c1.bs.f0
      obtain ⟨u, hu, ru⟩ := lookup_rps g2 g3 hl
      exact ⟨r1, rfl, dx, vfs, u, rfl, c1.bs.fH _ _ g1, hu, q u H1 dd Δ1 M1 F1 e1 c1 ru hΦ⟩
  | _ => exact h1.elim
end DL

set_option Elab.async false
set_option linter.all false
set_option maxRecDepth 100000
set_option maxHeartbeats 4000000
/-! Objects of own classes over data. -/
namespace DL
open PySem PySem.Spec PyProof.Rows L2
open Evl (Ex)
section
variable {K : PySem.W.Frag} {Z : Zx} {M : Mem} {σ : L2.St} {H F : Hp} {Δ : List Sl}
theorem Cn.newO (c : Cn K Z M σ H Δ F) {p : Addr} {o : OD} {u : HO} (hp : H p = none) (r : RpO K F o (some u)) : Cn K Z (updM M p o) σ (upd H p u) Δ F where
  bs := {
    f0 := c.bs.f0
    fH := (c.bs.newH hp _).fH
    rH := (c.bs.newH hp u).rH
    fr := c.bs.fr
    mm := fun a o' h => by
      by_cases e : a = p
      · subst e
        rw [updM_same] at h
        cases h
        exact ⟨c.bs.freeF hp, c.bs.freeR hp, by rw [upd_same]; exact r⟩
      · rw [updM_ne e] at h
        exact (c.bs.newH hp u).mm a o' h }
  len := c.len
  slot := fun i s h => by
    have k := (c.newH hp u).slot i s h
    cases s with
    | un => exact True.intro
    | d d => exact k
    | own es =>
      obtain ⟨a, ws, e, h1, h2, h3, h4, h5⟩ := k
      have g := c.slot i _ h
      obtain ⟨a', ws', e', g1, _⟩ := g
      rw [e] at e'
      cases e'
      exact ⟨a, ws, e, h1, h2, h3, h4, by rw [updM_ne (ne_of_none g1 hp)]; exact h5⟩
  sep := c.sep
theorem Cn.setO (c : Cn K Z M σ H Δ F) {p : Addr} {o o2 : OD} {u : HO} (hM : M p = some o) (r : RpO K F o2 (some u)) : Cn K Z (updM M p o2) σ (upd H p u) Δ F := by
  obtain ⟨m1, m2, m3⟩ := c.bs.mm p o hM
  refine ⟨⟨c.bs.f0, fun a u h => ?_, fun a u h => ?_, c.bs.fr, fun a u h => ?_⟩, c.len, fun i s h => ?_, c.sep⟩
  · have e : a ≠ p := fun e => by subst e; rw [m1] at h; cases h
    rw [upd_ne e]; exact c.bs.fH a _ h
  · have e : a ≠ p := fun e => by subst e; rw [m2] at h; cases h
    rw [upd_ne e]; exact c.bs.rH a _ h
  · by_cases e : a = p
    · subst e
      rw [updM_same] at h
      cases h
      exact ⟨m1, m2, by rw [upd_same]; exact r⟩
    · rw [updM_ne e] at h
      rw [upd_ne e]; exact c.bs.mm a _ h
  · have k := c.slot i s h
    cases s with
    | un => exact True.intro
    | d d => exact k
    | own es =>
      obtain ⟨a, ws, e, h1, h2, h3, h4, h5⟩ := k
      have ne : a ≠ p := fun e => by subst e; rw [h5] at hM; cases hM
      exact ⟨a, ws, e, by rw [upd_ne ne]; exact h1, h2, h3, h4, by rw [updM_ne ne]; exact h5⟩
theorem Bs.insM (b : Bs K Z M H F) {p C : Addr} {fs : List (Str × D)} (h : M p = some (.ins C fs)) : ∃ dx vfs, H p = some (.ins C dx vfs) ∧ vfs.map Prod.fst = fs.map Prod.fst ∧ Rps K F (fs.map Prod.snd) (vfs.map Prod.snd) := (b.mm p _ h).2.2
theorem lookup_none {α β : Type} {f : Str} : ∀ {fs : List (Str × α)} {gs : List (Str × β)}, gs.map Prod.fst = fs.map Prod.fst → fs.lookup f = none → gs.lookup f = none
  | [], [], _, _ => rfl
  | [], _ :: _, hn, _ => by cases hn
  | (g, e) :: fs, [], hn, _ => by cases hn
  | (g, e) :: fs, (g', u) :: gs, hn, h => by
    rw [List.map_cons, List.map_cons] at hn
    obtain ⟨e1, e2⟩ := List.cons.inj hn
    replace e1 : g' = g := e1
    subst e1
    rw [lookup_rps.lookup_put'] at h ⊢
    by_cases k : f = g'
    · rw [if_pos k] at h; cases h
    · rw [if_neg k] at h ⊢
      exact lookup_none e2 h
/-- a field is stored -/
def putD (f : Str) (d : D) : List (Str × D) → List (Str × D)
  | [] => [(f, d)]
  | (g, x) :: r => if g = f then (g, d) :: r else (g, x) :: putD f d r
theorem put_rps {f : Str} {d : D} {v : V} (r : Rp K F d v) : ∀ {fs : List (Str × D)} {vfs : List (Str × V)}, vfs.map Prod.fst = fs.map Prod.fst → Rps K F (fs.map Prod.snd) (vfs.map Prod.snd) →
    (putF f v vfs).map Prod.fst = (putD f d fs).map Prod.fst ∧ Rps K F ((putD f d fs).map Prod.snd) ((putF f v vfs).map Prod.snd)
  | [], [], _, _ => ⟨rfl, rps_one r⟩
  | [], _ :: _, hn, _ => by cases hn
  | (g, e) :: fs, [], hn, _ => by cases hn
  | (g, e) :: fs, (g', u) :: vfs, hn, hr => by
    rw [List.map_cons, List.map_cons] at hn
    obtain ⟨e1, e2⟩ := List.cons.inj hn
    replace e1 : g' = g := e1
    subst e1
    obtain ⟨v', r', e3, h1, h2⟩ := hr
    obtain ⟨e4, e5⟩ := List.cons.inj e3
    replace e4 : u = v' := e4
    subst e4
    rw [← e5] at h2
    unfold putF putD
    by_cases k : g' = f
    · rw [if_pos k, if_pos k]
      exact ⟨by rw [List.map_cons, List.map_cons, e2], v, _, rfl, r, h2⟩
    · rw [if_neg k, if_neg k]
      obtain ⟨q1, q2⟩ := put_rps r e2 h2
      exact ⟨by rw [List.map_cons, List.map_cons, q1], u, _, rfl, h1, q2⟩
end
section
variable {X : Cx} {Z : Zx} {e o : Expr} {ro r : RE} {pos apos : Pos} {es : List Expr} {rl : RA} {n k : Nat} {C f : Addr} {fd : FuncData} {ps : List Str} {x m : Str} {p : Pos} {S : DSp} {Ψ : DX} {E : XK}
/-- o.f -/
def dFld (C : Addr) (f : Str) (r : RE) : RE := fun Δ M Φ => r Δ M fun x Δ1 M1 => match x with
  | .ref a => ∃ fs d, M1 a = some (.ins C fs) ∧ fs.lookup f = some d ∧ Φ d Δ1 M1
  | _ => False
theorem qe_fld {f : Str} (c : Cls X.K C) (hn : NoAttr X.K C f) (h : QE X Z e r) (hb : attributeBase e f X.env (eval e X.env) = eval e X.env := by rfl) : QE X Z (.Attribute e f pos) (dFld C f r) := by
  obtain ⟨t, p, s⟩ := h
  refine ⟨_, pe_fld p hb, fun M σ H Δ F Φ cn h Q q => ?_⟩
  refine s M σ H Δ F _ cn h _ fun v H1 x Δ1 M1 F1 e1 c1 r1 h1 => ?_
  cases x with
  | ref a =>
    obtain ⟨fs, d, hM, hl, hΦ⟩ := h1
    obtain ⟨dx, vfs, g1, g2, g3⟩ := c1.bs.insM hM
    obtain ⟨u, hu, ru⟩ := lookup_rps g2 g3 hl
    exact ⟨a, C, dx, vfs, u, r1, g1, c, hn, hu, q u H1 d Δ1 M1 F1 e1 c1 ru hΦ⟩
  | _ => exact h1.elim
/-- o.f = e -/
def dSetF (C : Addr) (f : Str) (ro rv : RE) : RS := fun De Δ M => rv Δ M fun y Δ1 M1 => ro Δ1 M1 fun x Δ2 M2 => match x with
  | .ref a => ∃ fs, M2 a = some (.ins C fs) ∧ fs.length < 1000 ∧ De.nx Δ2 (updM M2 a (.ins C (putD f y fs)))
  | _ => False
theorem qs_fld {f : Str} {p' : Pos} (c : Cls X.K C) (hn : NoAttr X.K C f) (ho : QE X Z o ro) (hv : QE X Z e r) (hs : swapsWith e (some (.Attribute o f p')) pos.line X.env = pure false := by rfl) : QS X Z (.Assign [.Attribute o f p'] e pos) (dSetF C f ro r) := by
  obtain ⟨t, p, s⟩ := ho
  obtain ⟨tv, pv, sv⟩ := hv
  refine ⟨_, ps_fld p pv hs, fun M σ H Δ F De cn h Dv ok => ?_⟩
  refine sv M σ H Δ F _ cn h _ fun v H1 y Δ1 M1 F1 e1 c1 r1 h1 => ?_
  refine s M1 σ H1 Δ1 F1 _ c1 h1 _ fun w H2 x Δ2 M2 F2 e2 c2 r2 h2 => ?_
  cases x with
  | ref a =>
    obtain ⟨fs, hM, hl, hΦ⟩ := h2
    obtain ⟨dx, vfs, g1, g2, g3⟩ := c2.bs.insM hM
    have len : vfs.length = fs.length := by
      have := congrArg List.length g2
      rw [List.length_map, List.length_map] at this
      exact this
    obtain ⟨q1, q2⟩ := put_rps (f := f) (rp_mono e2 _ _ r1) g2 g3
    exact ⟨a, C, dx, vfs, r2, g1, c, hn, by rw [len]; exact hl, ok.nx _ _ _ _ F2 (e1.trans e2) (c2.setO (o2 := .ins C (putD f y fs)) hM ⟨dx, _, rfl, q1, q2⟩) hΦ⟩
  | _ => exact h2.elim
/-- o.f op= e -/
def dAugF (C : Addr) (f : Str) (dr : D → D → (D → Prop) → Prop) (ro rv : RE) : RS := fun De Δ M => ro Δ M fun x Δ1 M1 => match x with
  | .ref a => ∃ fs d, M1 a = some (.ins C fs) ∧ fs.lookup f = some d ∧ rv Δ1 M1 fun y Δ2 M2 => dr d y fun z => ∃ fs', M2 a = some (.ins C fs') ∧ fs'.length < 1000 ∧ De.nx Δ2 (updM M2 a (.ins C (putD f z fs')))
  | _ => False
theorem qs_augF {f : Str} {tp : Pos} {op : Operator} {rd : R2} {dr : D → D → (D → Prop) → Prop} (c : Cls X.K C) (hn : NoAttr X.K C f) (hop : InOp X op rd) (hd : OpD X.K rd dr) (ho : QE X Z o ro) (hv : QE X Z e r) : QS X Z (.AugAssign (.Attribute o f tp) op e pos) (dAugF C f dr ro r) := by
  obtain ⟨t, p, s⟩ := ho
  obtain ⟨tv, pv, sv⟩ := hv
  refine ⟨_, ps_fldaug p pv hop, fun M σ H Δ F De cn h Dv ok => ?_⟩
  refine s M σ H Δ F _ cn h _ fun v H1 x Δ1 M1 F1 e1 c1 r1 h1 => ?_
  cases x with
  | ref a =>
    obtain ⟨fs, d, hM, hl, h2⟩ := h1
    obtain ⟨dx, vfs, g1, g2, g3⟩ := c1.bs.insM hM
    obtain ⟨u, hu, ru⟩ := lookup_rps g2 g3 hl
    refine ⟨a, C, dx, vfs, u, r1, g1, c, hn, hu, ?_⟩
    refine sv M1 σ H1 Δ1 F1 _ c1 h2 _ fun w H2 y Δ2 M2 F2 e2 c2 r2 h3 => ?_
    refine hd Z M2 σ H2 Δ2 F2 d y u w _ c2 (rp_mono e2 _ _ ru) r2 h3 _ fun z H3 dz F3 e3 c3 r3 h4 => ?_
    obtain ⟨fs', hM', hl', hΦ⟩ := h4
    obtain ⟨dx', vfs', k1, k2, k3⟩ := c3.bs.insM hM'
    have len : vfs'.length = fs'.length := by
      have := congrArg List.length k2
      rw [List.length_map, List.length_map] at this
      exact this
    obtain ⟨q1, q2⟩ := put_rps (f := f) r3 k2 k3
    exact ⟨dx', vfs', k1, by rw [len]; exact hl', ok.nx _ _ _ _ F3 ((e1.trans e2).trans e3) (c3.setO (o2 := .ins C (putD f dz fs')) hM' ⟨dx', _, rfl, q1, q2⟩) hΦ⟩
  | _ => exact h1.elim
/-- o.m(..) -/
def dMethX (C : Addr) (m : Str) (S : DSp) (Ψ : DX) (ro : RE) (rl : RA) : RE := fun Δ M Φ => ro Δ M fun x Δ1 M1 => match x with
  | .ref a => (∃ fs, M1 a = some (.ins C fs) ∧ fs.lookup m = none) ∧ rl Δ1 M1 fun ds Δ2 M2 => S (.ref a :: ds) M2 (fun d M3 => Φ d Δ2 M3) Ψ
  | _ => False
abbrev dMeth (C : Addr) (m : Str) (S : DSp) (ro : RE) (rl : RA) : RE := dMethX C m S noX ro rl
theorem sim_meth {K : PySem.W.Frag} {t : TE} {ta : TA} (xo : XOk K Z (flatW E) (flatX Ψ)) (ho : Sim K Z t ro) (h : SimA K Z n ta rl) : Sim K Z (tMeth C m (spOf K S) [] E t ta) (dMethX C m S Ψ ro rl) := by
  intro M σ H Δ F Φ c k Q q
  refine ho M σ H Δ F _ c k _ fun v H1 x Δ1 M1 F1 e1 c1 r1 h1 => ?_
  cases x with
  | ref a =>
    obtain ⟨⟨fs, hM, hl⟩, h2⟩ := h1
    obtain ⟨dx, vfs, g1, g2, g3⟩ := c1.bs.insM hM
    refine ⟨a, dx, vfs, r1, g1, lookup_none g2 hl, ?_⟩
    refine h M1 σ H1 Δ1 F1 _ c1 h2 _ fun vs H2 ds Δ2 M2 F2 e2 c2 r2 hn h3 => ?_
    show spOf K S (v :: (vs ++ [])) H2 Q E
    rw [List.append_nil]
    refine ⟨restAt Z σ Δ2 H2, F2, M2, .ref a :: ds, _, _, call_in c2, ⟨v, vs, rfl, r1, r2⟩, h3, fun u H' d M' F' b rr hΦ => ?_, fun C fs M' dd H' F' b rr hΨ => ?_⟩
    · exact q u H' d Δ2 M' F' ((e1.trans e2).trans b.f0) (call_out c2 b) rr hΦ
    · exact xo C fs Δ2 M' dd σ H' F' (call_out c2 b) rr hΨ
  | _ => exact h1.elim
theorem xok_E0 {K : PySem.W.Frag} : XOk K Z (flatW E0) (flatX noX) := fun _ _ _ _ _ _ _ _ _ _ k => k.elim
theorem qe_meth {pl : Sem Bool} (c : Cls X.K C) (hm : Meth X.K C m f) (Fn : FnOk X.prog X.w X.K X.mg X.base CX0 k f fd ps (spOf X.K S)) (hr : Room k X.A) (hb : Binds X.K fd ps []) (ho : QE X Z o ro) (ha : QA X Z n (e :: es) rl)
    (hst : starEach (e :: es) X.env = (false, eval e X.env) :: starEach es X.env := by rfl) (hpl : (backTo pos (starEach es X.env)).any (·.1) = false := by rfl)
    (ht : eval (.Call (.Attribute o m apos) (e :: es) [] pos) X.env = (do
      let ov ← eval o X.env
      standAt apos.atName
      let (f, first) ← holding [ov] (getMethod ov m pl)
      callWith pos f first (backTo pos (starEach (e :: es) X.env)) (backToKw pos (keywordEach [] X.env))) := by rfl) : QE X Z (.Call (.Attribute o m apos) (e :: es) [] pos) (dMeth C m S ro rl) := by
  obtain ⟨t, p, s⟩ := ho
  obtain ⟨ta, pa, sa⟩ := ha
  exact ⟨_, pe_meth p c hm Fn hr hb .nil pass0 pa hst hpl ht, sim_meth xok_E0 s sa⟩
theorem qe_methX {pl : Sem Bool} (tk : Takes X (flatW E)) (xo : XOk X.K Z (flatW E) (flatX Ψ)) (c : Cls X.K C) (hm : Meth X.K C m f) (Fn : FnOk X.prog X.w X.K X.mg X.base (L2.CX X.prog X.w) k f fd ps (spOf X.K S)) (hr : Room k X.A) (hb : Binds X.K fd ps []) (ho : QE X Z o ro) (ha : QA X Z n (e :: es) rl)
    (hst : starEach (e :: es) X.env = (false, eval e X.env) :: starEach es X.env := by rfl) (hpl : (backTo pos (starEach es X.env)).any (·.1) = false := by rfl)
    (ht : eval (.Call (.Attribute o m apos) (e :: es) [] pos) X.env = (do
      let ov ← eval o X.env
      standAt apos.atName
      let (f, first) ← holding [ov] (getMethod ov m pl)
      callWith pos f first (backTo pos (starEach (e :: es) X.env)) (backToKw pos (keywordEach [] X.env))) := by rfl) : QE X Z (.Call (.Attribute o m apos) (e :: es) [] pos) (dMethX C m S Ψ ro rl) := by
  obtain ⟨t, p, s⟩ := ho
  obtain ⟨ta, pa, sa⟩ := ha
  exact ⟨_, pe_meth p c hm Fn hr hb .nil (passes_call tk fun _ _ _ _ h => h) pa hst hpl ht, sim_meth xo s sa⟩
theorem simA_nil {K : PySem.W.Frag} : SimA K Z 0 tNil dNil := fun M σ H Δ F Φ c h Q q => q [] H [] Δ M F (Ex.refl _) c rfl rfl h
theorem qe_meth0 {pl : Sem Bool} (c : Cls X.K C) (hm : Meth X.K C m f) (Fn : FnOk X.prog X.w X.K X.mg X.base CX0 k f fd ps (spOf X.K S)) (hr : Room k X.A) (hb : Binds X.K fd ps []) (ho : QE X Z o ro)
    (ht : eval (.Call (.Attribute o m apos) [] [] pos) X.env = (do
      let ov ← eval o X.env
      standAt apos.atName
      let (f, first) ← holding [ov] (getMethod ov m pl)
      callWith pos f first (backTo pos (starEach [] X.env)) (backToKw pos (keywordEach [] X.env))) := by rfl) : QE X Z (.Call (.Attribute o m apos) [] [] pos) (dMeth C m S ro dNil) := by
  obtain ⟨t, p, s⟩ := ho
  exact ⟨_, pe_meth0 p c hm Fn hr hb .nil pass0 ht, sim_meth xok_E0 s simA_nil⟩
theorem qe_methX0 {pl : Sem Bool} (tk : Takes X (flatW E)) (xo : XOk X.K Z (flatW E) (flatX Ψ)) (c : Cls X.K C) (hm : Meth X.K C m f) (Fn : FnOk X.prog X.w X.K X.mg X.base (L2.CX X.prog X.w) k f fd ps (spOf X.K S)) (hr : Room k X.A) (hb : Binds X.K fd ps []) (ho : QE X Z o ro)
    (ht : eval (.Call (.Attribute o m apos) [] [] pos) X.env = (do
      let ov ← eval o X.env
      standAt apos.atName
      let (f, first) ← holding [ov] (getMethod ov m pl)
      callWith pos f first (backTo pos (starEach [] X.env)) (backToKw pos (keywordEach [] X.env))) := by rfl) : QE X Z (.Call (.Attribute o m apos) [] [] pos) (dMethX C m S Ψ ro dNil) := by
  obtain ⟨t, p, s⟩ := ho
  exact ⟨_, pe_meth0 p c hm Fn hr hb .nil (passes_call tk fun _ _ _ _ h => h) ht, sim_meth xo s simA_nil⟩
/-- C(..) -/
def dMakeX (C : Addr) (S : DSp) (Ψ : DX) (rl : RA) : RE := fun Δ M Φ => rl Δ M fun ds Δ1 M1 => ∀ x, M1 x = none → S (.ref x :: ds) (updM M1 x (.ins C [])) (fun d M2 => d.isNon = true ∧ Φ (.ref x) Δ1 M2) Ψ
abbrev dMake (C : Addr) (S : DSp) (rl : RA) : RE := dMakeX C S noX rl
theorem sim_make {K : PySem.W.Frag} {ta : TA} (xo : XOk K Z (flatW E) (flatX Ψ)) (h : SimA K Z n ta rl) : Sim K Z (tMake C (spOf K S) [] E ta) (dMakeX C S Ψ rl) := by
  intro M σ H Δ F Φ c k Q q
  refine h M σ H Δ F _ c k _ fun vs H1 ds Δ1 M1 F1 e1 c1 r1 hn h1 => fun x dx hx hdx hne => ?_
  show spOf K S (.ref x :: (vs ++ [])) _ _ E
  rw [List.append_nil]
  have c2 := c1.newH hdx (.own x)
  have hx2 : upd H1 dx (.own x) x = none := by rw [upd_ne (fun z => hne z.symm)]; exact hx
  have c3 := c2.newO (o := .ins C []) (u := .ins C dx []) hx2 ⟨dx, [], rfl, rfl, rfl⟩
  refine ⟨restAt Z σ Δ1 (upd (upd H1 dx (.own x)) x (.ins C dx [])), F1, _, .ref x :: ds, _, _, call_in c3, ⟨.ref x, vs, rfl, rfl, r1⟩, h1 x (c1.bs.freeM hx), fun u H' d M' F' b rr hΦ => ?_, fun C fs M' dd H' F' b rr hΨ => ?_⟩
  · refine ⟨?_, q (.ref x) H' (.ref x) Δ1 M' F' (e1.trans b.f0) (call_out c3 b) rfl hΦ.2⟩
    have := rp_isNon rr
    rw [hΦ.1] at this
    exact of_decide_eq_true this
  · exact xo C fs Δ1 M' dd σ H' F' (call_out c3 b) rr hΨ
theorem qe_make (Mc : Mk X.K C f) (Fn : FnOk X.prog X.w X.K X.mg X.base CX0 k f fd ps (spOf X.K S)) (hr : Room (k + 1) X.A) (hg : Gl X x) (hm : X.mg x = some (.ref C)) (hb : Binds X.K fd ps []) (ha : QA X Z n (e :: es) rl)
    (hdb : (x == ("__debug__" : Str)) = false := by decide) (he : starEach (e :: es) X.env = (false, eval e X.env) :: starEach es X.env := by rfl) (hpl : (backTo pos (starEach es X.env)).any (·.1) = false := by rfl) : QE X Z (.Call (.Name x p) (e :: es) [] pos) (dMake C S rl) := by
  obtain ⟨ta, pa, sa⟩ := ha
  exact ⟨_, pe_make Mc Fn hr hg hm hb .nil pass0 pa hdb he hpl, sim_make xok_E0 sa⟩
theorem qe_makeX (tk : Takes X (flatW E)) (xo : XOk X.K Z (flatW E) (flatX Ψ)) (Mc : Mk X.K C f) (Fn : FnOk X.prog X.w X.K X.mg X.base (L2.CX X.prog X.w) k f fd ps (spOf X.K S)) (hr : Room (k + 1) X.A) (hg : Gl X x) (hm : X.mg x = some (.ref C)) (hb : Binds X.K fd ps []) (ha : QA X Z n (e :: es) rl)
    (hdb : (x == ("__debug__" : Str)) = false := by decide) (he : starEach (e :: es) X.env = (false, eval e X.env) :: starEach es X.env := by rfl) (hpl : (backTo pos (starEach es X.env)).any (·.1) = false := by rfl) : QE X Z (.Call (.Name x p) (e :: es) [] pos) (dMakeX C S Ψ rl) := by
  obtain ⟨ta, pa, sa⟩ := ha
  exact ⟨_, pe_make Mc Fn hr hg hm hb .nil (passes_call tk fun _ _ _ _ h => h) pa hdb he hpl, sim_make xo sa⟩
end
end DL

set_option Elab.async false
set_option linter.all false
set_option maxRecDepth 100000
set_option maxHeartbeats 4000000
/-! Texts; lists wherever they are (frozen, or in memory). -/
namespace DL
open PySem PySem.Spec PyProof.Rows L2
open Evl (Ex)
/-- the items of a list, frozen or in memory -/
def Res (M : Mem) (d : D) (ds : List D) : Prop := match d with
  | .lst es => es = ds
  | .ref p => M p = some (.lst ds)
  | _ => False
section
variable {K : PySem.W.Frag} {Z : Zx} {M : Mem} {σ : L2.St} {H F : Hp} {Δ : List Sl}
theorem Cn.res (c : Cn K Z M σ H Δ F) {d : D} {v : V} {ds : List D} (r : Rp K F d v) (h : Res M d ds) : ∃ p vs, v = .ref p ∧ H p = some (.lst vs) ∧ Rps K F ds vs := by
  cases d with
  | lst es =>
    obtain ⟨p, vs, e, g1, g2⟩ := r
    have : es = ds := h
    subst this
    exact ⟨p, vs, e, c.bs.fH _ _ g1, g2⟩
  | ref p =>
    obtain ⟨vs, g1, g2⟩ := c.bs.lstM h
    exact ⟨p, vs, r, g1, g2⟩
  | _ => exact h.elim
end
section
variable {X : Cx} {Z : Zx} {e a b o : Expr} {ra rb r : RE} {pos apos : Pos} {es : List Expr} {rl : RA} {n : Nat} {K : PySem.W.Frag}

/-! ### slices -/
abbrev RO := List Sl → Mem → (Option Int → List Sl → Mem → Prop) → Prop
def SimO (K : PySem.W.Frag) (Z : Zx) (t : TO) (r : RO) : Prop := ∀ (M : Mem) (σ : L2.St) (H : Hp) (Δ : List Sl) (F : Hp) (Φ : Option Int → List Sl → Mem → Prop), Cn K Z M σ H Δ F → r Δ M Φ →
  ∀ Q : Option Int → Hp → Prop, (∀ b H' Δ' M' F', Ex F F' → Cn K Z M' σ H' Δ' F' → Φ b Δ' M' → Q b H') → t σ H Q
def QO (X : Cx) (Z : Zx) (e : Option Expr) (r : RO) : Prop := ∃ t, PO X e t ∧ SimO X.K Z t r
def dNoP : RO := fun Δ M Φ => Φ none Δ M
def dPart (r : RE) : RO := fun Δ M Φ => r Δ M fun x Δ1 M1 => match x with
  | .int i => Φ (some i) Δ1 M1
  | _ => False
theorem qo_none : QO X Z none dNoP := ⟨_, po_none, fun M σ H Δ F Φ c h Q q => q none H Δ M F (Ex.refl _) c h⟩
theorem qo_some (h : QE X Z e r) : QO X Z (some e) (dPart r) := by
  obtain ⟨t, p, s⟩ := h
  refine ⟨_, po_some p, fun M σ H Δ F Φ c h Q q => ?_⟩
  refine s M σ H Δ F _ c h _ fun v H1 x Δ1 M1 F1 e1 c1 r1 h1 => ?_
  cases x with
  | int i => exact ⟨i, r1, q _ H1 Δ1 M1 F1 e1 c1 h1⟩
  | _ => exact h1.elim
/-- the part of a list -/
def cutD (ds : List D) (lo hi : Option Int) : List D := (ds.drop (HT.sIx ds.length 0 lo)).take (HT.sIx ds.length ds.length hi - HT.sIx ds.length 0 lo)
def dSl (r : RE) (rl rh : RO) : RE := fun Δ M Φ => r Δ M fun x Δ1 M1 => rl Δ1 M1 fun lo Δ2 M2 => rh Δ2 M2 fun hi Δ3 M3 => match x with
  | .str z => z.length ≤ sizeLine ∧ Φ (.str (cutS z lo hi)) Δ3 M3
  | .lst ds => Φ (.lst (cutD ds lo hi)) Δ3 M3
  | .ref p => ∃ ds, M3 p = some (.lst ds) ∧ Φ (.lst (cutD ds lo hi)) Δ3 M3
  | _ => False
theorem sl_all : SlR X (fun x lo hi H Q => rSlS x lo hi H Q ∨ rSlL X.K x lo hi H Q) := SlR.or sl_str sl_list
theorem qe_sl {lo hi : Option Expr} {rl rh : RO} {p2 : Pos} (h : QE X Z e r) (hl : QO X Z lo rl) (hh : QO X Z hi rh) : QE X Z (.Subscript e (.Slice lo hi none p2) pos) (dSl r rl rh) := by
  obtain ⟨t, p, s⟩ := h
  obtain ⟨tl, pl, sl⟩ := hl
  obtain ⟨th, ph, sh⟩ := hh
  refine ⟨_, pe_slice sl_all p pl ph, fun M σ H Δ F Φ c h Q q => ?_⟩
  refine s M σ H Δ F _ c h _ fun v H1 x Δ1 M1 F1 e1 c1 r1 h1 => ?_
  refine sl M1 σ H1 Δ1 F1 _ c1 h1 _ fun lo H2 Δ2 M2 F2 e2 c2 h2 => ?_
  refine sh M2 σ H2 Δ2 F2 _ c2 h2 _ fun hi H3 Δ3 M3 F3 e3 c3 h3 => ?_
  have r3 : Rp X.K F3 x v := rp_mono (e2.trans e3) _ _ r1
  have eF := (e1.trans e2).trans e3
  have key : ∀ ds, Res M3 x ds → Φ (.lst (cutD ds lo hi)) Δ3 M3 → rSlL X.K v lo hi H3 Q := fun ds hr hΦ => by
    obtain ⟨p, vs, ev, g1, g2⟩ := c3.res r3 hr
    refine ⟨p, vs, ev, SqL.of g1, fun p' hp => ?_⟩
    have g3 : Rps X.K F3 (cutD ds lo hi) (cutV vs lo hi) := by
      unfold cutD cutV
      rw [rps_len g2]
      exact rps_take _ (rps_drop _ g2)
    exact q _ _ (.lst (cutD ds lo hi)) Δ3 M3 _ (eF.trans (c3.bs.exF hp _)) (c3.new hp _) ⟨p', _, rfl, upd_same, rps_mono (c3.bs.exF hp _) _ _ g3⟩ hΦ
  cases x with
  | str z => exact .inl ⟨z, r3, h3.1, q _ H3 (.str _) Δ3 M3 F3 eF c3 rfl h3.2⟩
  | lst ds => exact .inr (key ds rfl h3)
  | ref p =>
    obtain ⟨ds, hM, hΦ⟩ := h3
    exact .inr (key ds hM hΦ)
  | _ => exact h3.elim

/-! ### len, items, truth: lists anywhere -/
def dLenR (r : RE) : RE := fun Δ M Φ => r Δ M fun x Δ1 M1 => match x with
  | .ref p => ∃ ds, M1 p = some (.lst ds) ∧ Φ (.int (ds.length : Nat)) Δ1 M1
  | x => dLen [x] fun d => Φ d Δ1 M1
theorem qe_lenR {p : Pos} (hg : Gl X "len") (hm : X.mg "len" = none) (h : QE X Z e r) (he : starEach [e] X.env = (false, eval e X.env) :: starEach [] X.env := by rfl) (hpl : (backTo pos (starEach [] X.env)).any (·.1) = false := by rfl) :
    QE X Z (.Call (.Name "len" p) [e] [] pos) (dLenR r) := by
  obtain ⟨t, pa, s⟩ := h
  refine ⟨_, pe_callB cr_lenAll hg hm boot_len (pa_cons pa pa_nil he) (by decide) (by decide) he hpl, fun M σ H Δ F Φ c h Q q => ?_⟩
  refine s M σ H Δ F _ c h _ fun v H1 x Δ1 M1 F1 e1 c1 r1 h1 => ?_
  have gen : dLen [x] (fun d => Φ d Δ1 M1) → rLenAll X.K [v] H1 Q := fun k => cd_len Z M1 σ H1 Δ1 F1 [x] [v] _ c1 (rps_one r1) k Q fun u H2 d F2 e2 c2 r2 k2 => q u H2 d Δ1 M1 F2 (e1.trans e2) c2 r2 k2
  cases x with
  | ref p =>
    obtain ⟨ds, hM, hΦ⟩ := h1
    obtain ⟨p', vs, ev, g1, g2⟩ := c1.res (d := .ref p) r1 hM
    refine .inl ⟨p', vs, by rw [ev], .inl (SqL.of g1), ?_⟩
    rw [rps_len g2]
    exact q _ H1 (.int _) Δ1 M1 F1 e1 c1 rfl hΦ
  | _ => exact gen h1
def dIxR (ra rb : RE) : RE := fun Δ M Φ => ra Δ M fun x Δ1 M1 => rb Δ1 M1 fun y Δ2 M2 => match x, y with
  | .ref p, .int i => ∃ ds, M2 p = some (.lst ds) ∧ ∃ d, atI ds i = some d ∧ Φ d Δ2 M2
  | x, y => dIx x y fun d => Φ d Δ2 M2
def dTruthR (r : RE) : RT := fun Δ M Φ => r Δ M fun x Δ1 M1 => match x with
  | .ref p => ∃ ds, M1 p = some (.lst ds) ∧ bs (!ds.isEmpty) fun k => Φ k Δ1 M1
  | .bl k => bs k fun k => Φ k Δ1 M1
  | .int i => bs (i != 0) fun k => Φ k Δ1 M1
  | .str z => z.length ≤ sizeLine ∧ bs ((z.length : Int) != 0) fun k => Φ k Δ1 M1
  | .lst ds => bs (!ds.isEmpty) fun k => Φ k Δ1 M1
  | .tup ds => bs (!ds.isEmpty) fun k => Φ k Δ1 M1
  | .non => Φ false Δ1 M1
  | _ => False
theorem qt_truthR (h : QE X Z e r) (he : ∀ whole, isTrue e X.env whole = (do let v ← whole; standAt e.pos; holding [v] (truthy v)) := by intro _; rfl) : QT X Z e (dTruthR r) := by
  obtain ⟨t, p, s⟩ := h
  refine ⟨_, pt_truth p he, fun M σ H Δ F Φ c h Q q => ?_⟩
  refine s M σ H Δ F _ c h _ fun v H1 x Δ1 M1 F1 e1 c1 r1 h1 => ?_
  cases x with
  | bl k => rw [show v = .bl k from r1]; exact ⟨k, rfl, q k H1 Δ1 M1 F1 e1 c1 (bs_of h1)⟩
  | int i => rw [show v = .int i from r1]; exact ⟨_, rfl, q _ H1 Δ1 M1 F1 e1 c1 (bs_of h1)⟩
  | str z => rw [show v = .str z from r1]; exact ⟨_, ⟨h1.1, rfl⟩, q _ H1 Δ1 M1 F1 e1 c1 (bs_of h1.2)⟩
  | non => rw [show v = .non from r1]; exact ⟨_, rfl, q _ H1 Δ1 M1 F1 e1 c1 h1⟩
  | lst ds =>
    obtain ⟨p, vs, e2, g1, g2⟩ := r1
    rw [e2]
    exact ⟨!ds.isEmpty, .inl ⟨vs, SqL.of (c1.bs.fH _ _ g1), by rw [rps_empty g2]⟩, q _ H1 Δ1 M1 F1 e1 c1 (bs_of h1)⟩
  | tup ds =>
    obtain ⟨p, vs, e2, g1, g2⟩ := r1
    rw [e2]
    exact ⟨!ds.isEmpty, .inr (.inl ⟨vs, Evl.ex_t c1.bs.fH g1, by rw [rps_empty g2]⟩), q _ H1 Δ1 M1 F1 e1 c1 (bs_of h1)⟩
  | ref p =>
    obtain ⟨ds, hM, hb⟩ := h1
    obtain ⟨p', vs, ev, g1, g2⟩ := c1.res (d := .ref p) r1 hM
    rw [ev]
    exact ⟨!ds.isEmpty, .inl ⟨vs, SqL.of g1, by rw [rps_empty g2]⟩, q _ H1 Δ1 M1 F1 e1 c1 (bs_of hb)⟩
  | _ => exact h1.elim
/-- a + b of lists anywhere, a new list -/
def dCatR (ra rb : RE) : RA := fun Δ M Φ => ra Δ M fun x Δ1 M1 => rb Δ1 M1 fun y Δ2 M2 => ∃ ds es, Res M2 x ds ∧ Res M2 y es ∧ ds.length + es.length ≤ sizeLine ∧ Φ (ds ++ es) Δ2 M2
theorem ql_catR (ha : QE X Z a ra) (hb : QE X Z b rb) : QL X Z (.BinOp a .Add b pos) (dCatR ra rb) := by
  obtain ⟨ta, pa, sa⟩ := ha
  obtain ⟨tb, pb, sb⟩ := hb
  refine ⟨_, pe_op op_cat pa pb, fun M σ H Δ F Φ c h Q q => ?_⟩
  refine sa M σ H Δ F _ c h _ fun v H1 x Δ1 M1 F1 e1 c1 r1 h1 => ?_
  refine sb M1 σ H1 Δ1 F1 _ c1 h1 _ fun w H2 y Δ2 M2 F2 e2 c2 r2 h2 => ?_
  obtain ⟨ds, es, k1, k2, k3, hΦ⟩ := h2
  obtain ⟨p, vs, ev, g1, g2⟩ := c2.res (rp_mono e2 _ _ r1) k1
  obtain ⟨p', ws, ew, g3, g4⟩ := c2.res r2 k2
  exact ⟨p, p', vs, ws, ev, ew, g1, g3, by rw [rps_len g2, rps_len g4]; exact k3, fun l hl => q l _ _ _ Δ2 M2 F2 (e1.trans e2) c2 hl (rps_app g2 g4) hΦ⟩
/-- xs.pop() as a statement, xs in memory -/
def dPopM (r : RE) : RE := fun Δ M Φ => r Δ M fun x Δ1 M1 => match x with
  | .ref p => ∃ ds d, M1 p = some (.lst ds) ∧ ds[ds.length - 1]? = some d ∧ Φ d Δ1 (updM M1 p (.lst ds.dropLast))
  | _ => False
theorem rps_dropLast {F : Hp} : ∀ {ds : List D} {vs : List V}, Rps K F ds vs → Rps K F ds.dropLast vs.dropLast := fun {ds vs} h => by
  rw [List.dropLast_eq_take, List.dropLast_eq_take, rps_len h]
  exact rps_take _ h
theorem qe_popM (h : QE X Z o r) (hbase : attributeBase o "pop" X.env (eval o X.env) = eval o X.env := by rfl) (hline : (apos.endLine == pos.line) = true := by rfl) : QE X Z (.Call (.Attribute o "pop" apos) [] [] pos) (dPopM r) := by
  obtain ⟨t, p, s⟩ := h
  refine ⟨_, pe_bm0 PySem.F.plainAttrs_list PySem.F.slot_list_pop PySem.F.type_list_pop mt_pop p hbase hline, fun M σ H Δ F Φ c h Q q => ?_⟩
  refine s M σ H Δ F _ c h _ fun v H1 x Δ1 M1 F1 e1 c1 r1 h1 => ?_
  cases x with
  | ref p =>
    obtain ⟨ds, d, hM, hl, hΦ⟩ := h1
    obtain ⟨vs, g1, g2⟩ := c1.bs.lstM hM
    obtain ⟨u, hu, ru⟩ := rps_get g2 hl
    rw [show v = .ref p from r1]
    exact ⟨.inl ⟨rfl, vs, SqL.of g1⟩, p, vs, u, rfl, rfl, g1, by rw [rps_len g2]; exact hu, q u _ d Δ1 _ F1 e1 (c1.setM hM (rps_dropLast g2)) ru hΦ⟩
  | _ => exact h1.elim
/-- xs[i] = e, xs in memory -/
def dStoM (rv ra ri : RE) : RS := fun De Δ M => rv Δ M fun z Δ1 M1 => ra Δ1 M1 fun x Δ2 M2 => ri Δ2 M2 fun y Δ3 M3 => match x, y with
  | .ref p, .int k => ∃ ds j, M3 p = some (.lst ds) ∧ ixN ds.length k = some j ∧ De.nx Δ3 (updM M3 p (.lst (ds.set j z)))
  | _, _ => False
theorem qs_stoM {rv ri : RE} {i value : Expr} {p' : Pos} (hv : QE X Z value rv) (ho : QE X Z o ra) (hi : QE X Z i ri) (hg : ∀ to ti, PE X o to → PE X i ti → PG X (.Subscript o i p') (gSub to ti rSetL) := by intro to ti h1 h2; exact pg_sub h1 h2 set_list)
    (hs : swapsWithSole [.Subscript o i p'] value pos.line X.env = pure false := by rfl) (hw : swappedStores [.Subscript o i p'] value X.env = pure none := by rfl)
    (h1 : (assignEach [.Subscript o i p'] X.env).map (·.2) = [assign (.Subscript o i p') X.env] := by rfl) : QS X Z (.Assign [.Subscript o i p'] value pos) (dStoM rv ra ri) := by
  obtain ⟨tv, pv, sv⟩ := hv
  obtain ⟨to, po, so⟩ := ho
  obtain ⟨ti, pi, si⟩ := hi
  refine ⟨_, ps_asg pv (hg to ti po pi) hs hw h1, fun M σ H Δ F De c h Dv ok => ?_⟩
  refine sv M σ H Δ F _ c h _ fun v H1 z Δ1 M1 F1 e1 c1 r1 h1 => ?_
  refine so M1 σ H1 Δ1 F1 _ c1 h1 _ fun w H2 x Δ2 M2 F2 e2 c2 r2 h2 => ?_
  refine si M2 σ H2 Δ2 F2 _ c2 h2 _ fun u H3 y Δ3 M3 F3 e3 c3 r3 h3 => ?_
  cases x with
  | ref p =>
    cases y with
    | int k =>
      obtain ⟨ds, j, hM, hj, hΦ⟩ := h3
      obtain ⟨vs, g1, g2⟩ := c3.bs.lstM hM
      refine ⟨p, vs, k, j, r2, r3, g1, by rw [rps_len g2]; exact hj, ?_⟩
      exact ok.nx σ _ Δ3 _ F3 ((e1.trans e2).trans e3) (c3.setM hM (rps_set j g2 (rp_mono (e2.trans e3) _ _ r1))) hΦ
    | _ => exact h3.elim
  | _ => exact h3.elim

/-! ### texts -/
/-- s.isdigit() and its like -/
def dM0 (g : Str → Bool) (r : RE) : RE := fun Δ M Φ => r Δ M fun x Δ1 M1 => match x with
  | .str z => Φ (.bl (g z)) Δ1 M1
  | _ => False
theorem qe_m0 {id : String} {name : Str} {g : Str → Bool} (slot : Slot "str" name id) (ty : typeOf (.builtin id) = pure (.type "method_descriptor")) (rule : MtR X id (fun x xs H Q => ∃ a, x = .str a ∧ xs = [] ∧ True ∧ Q (.bl (g a)) H)) (h : QE X Z o r)
    (hbase : attributeBase o name X.env (eval o X.env) = eval o X.env := by rfl) (hline : (apos.endLine == pos.line) = true := by rfl) : QE X Z (.Call (.Attribute o name apos) [] [] pos) (dM0 g r) := by
  obtain ⟨t, p, s⟩ := h
  refine ⟨_, pe_m0 slot ty rule p hbase hline, fun M σ H Δ F Φ c h Q q => ?_⟩
  refine s M σ H Δ F _ c h _ fun v H1 x Δ1 M1 F1 e1 c1 r1 h1 => ?_
  cases x with
  | str z => exact ⟨⟨z, r1⟩, z, r1, rfl, trivial, q _ H1 (.bl _) Δ1 M1 F1 e1 c1 rfl h1⟩
  | _ => exact h1.elim
/-- int(..) of an int, a truth value, a text -/
def dIntA : List D → (D → Prop) → Prop := fun xs Φ => match xs with
  | [.int i] => Φ (.int i)
  | [.bl k] => Φ (.int (if k then 1 else 0))
  | [.str z] => ∃ m, PySem.intText? z = some m ∧ z.length ≤ 640 ∧ Φ (.int m)
  | _ => False
theorem cr_intA : CallR X (.type "int") (fun xs H Q => rInt xs H Q ∨ ∃ a n, xs = [.str a] ∧ PySem.intText? a = some n ∧ a.length ≤ 640 ∧ Q (.int n) H) := CallR.or cr_int call_int_str
theorem cd_intA : CallD K (fun xs H Q => rInt xs H Q ∨ ∃ a n, xs = [.str a] ∧ PySem.intText? a = some n ∧ a.length ≤ 640 ∧ Q (.int n) H) dIntA := by
  intro Z M σ H Δ F xs vs Φ c rx k Q q
  unfold dIntA at k
  split at k
  · obtain ⟨v, rfl, e1⟩ := vals1 rx
    exact .inl (.inl ⟨_, by rw [show v = _ from e1], q _ H (.int _) F (Ex.refl _) c rfl k⟩)
  · obtain ⟨v, rfl, e1⟩ := vals1 rx
    exact .inl (.inr ⟨_, by rw [show v = _ from e1], q _ H (.int _) F (Ex.refl _) c rfl k⟩)
  · obtain ⟨v, rfl, e1⟩ := vals1 rx
    obtain ⟨m, k1, k2, k3⟩ := k
    exact .inr ⟨_, m, by rw [show v = _ from e1], k1, k2, q _ H (.int _) F (Ex.refl _) c rfl k3⟩
  · exact k.elim
theorem qe_intA {p : Pos} (hg : Gl X "int") (hm : X.mg "int" = none) (ha : QA X Z n (e :: es) rl) (he : starEach (e :: es) X.env = (false, eval e X.env) :: starEach es X.env := by rfl) (hpl : (backTo pos (starEach es X.env)).any (·.1) = false := by rfl) :
    QE X Z (.Call (.Name "int" p) (e :: es) [] pos) (dCB dIntA rl) := qe_cty cr_intA cd_intA hg hm (by decide +kernel) ha (by decide) (by decide) he hpl
/-- str(..) of an int or a text -/
def dStrA : List D → (D → Prop) → Prop := fun xs Φ => match xs with
  | [.int i] => i.natAbs.log2 < 1920 ∧ Φ (.str (toString i))
  | [.str z] => Φ (.str z)
  | _ => False
def rStrA : List V → Hp → VK → Prop := fun xs H Q => (∃ i, xs = [.int i] ∧ i.natAbs.log2 < 1920 ∧ Q (.str (toString i)) H) ∨ ∃ a, xs = [.str a] ∧ Q (.str a) H
theorem cr_strA : CallR X (.type "str") rStrA := CallR.or call_str_int SkE.call_str_str
theorem cd_strA : CallD K rStrA dStrA := by
  intro Z M σ H Δ F xs vs Φ c rx k Q q
  unfold dStrA at k
  split at k
  · obtain ⟨v, rfl, e1⟩ := vals1 rx
    exact .inl ⟨_, by rw [show v = _ from e1], k.1, q _ H (.str _) F (Ex.refl _) c rfl k.2⟩
  · obtain ⟨v, rfl, e1⟩ := vals1 rx
    exact .inr ⟨_, by rw [show v = _ from e1], q _ H (.str _) F (Ex.refl _) c rfl k⟩
  · exact k.elim
theorem qe_strA {p : Pos} (hg : Gl X "str") (hm : X.mg "str" = none) (ha : QA X Z n (e :: es) rl) (he : starEach (e :: es) X.env = (false, eval e X.env) :: starEach es X.env := by rfl) (hpl : (backTo pos (starEach es X.env)).any (·.1) = false := by rfl) :
    QE X Z (.Call (.Name "str" p) (e :: es) [] pos) (dCB dStrA rl) := qe_cty cr_strA cd_strA hg hm (by decide +kernel) ha (by decide) (by decide) he hpl
end
end DL

set_option Elab.async false
set_option linter.all false
set_option maxRecDepth 100000
set_option maxHeartbeats 4000000
namespace DL
open PySem PySem.Spec PyProof.Rows L2
open Evl (Ex)
section
variable {X : Cx} {Z : Zx} {e a b o : Expr} {ra rb r : RE} {pos apos : Pos} {es : List Expr} {rl : RA} {n : Nat} {K : PySem.W.Frag}
/-! ### == of lists anywhere -/
/-- what stands for a value when it is compared -/
def View (M : Mem) (x dx : D) : Prop := match x with
  | .ref p => ∃ ds, M p = some (.lst ds) ∧ dx = .lst ds
  | _ => dx = x
theorem Cn.view {Z : Zx} {M : Mem} {σ : L2.St} {H F : Hp} {Δ : List Sl} (c : Cn K Z M σ H Δ F) {x dx : D} {v : V} (h : View M x dx) (hp : dx.pure = true) (r : Rp K F x v) : Dp K H v dx.py := by
  cases x with
  | ref p =>
    obtain ⟨ds, hM, e⟩ := h
    subst e
    obtain ⟨vs, g1, g2⟩ := c.bs.lstM hM
    rw [show v = .ref p from r]
    exact .lst (SqL.of g1) (rps_dp c.bs.fH ds vs hp g2)
  | _ =>
    have e : dx = _ := h
    subst e
    exact rp_dp c.bs.fH _ v hp r
def dEqR (neg : Bool) (ra rb : RE) : RE := fun Δ M Φ => ra Δ M fun x Δ1 M1 => rb Δ1 M1 fun y Δ2 M2 => ∃ dx dy, View M2 x dx ∧ View M2 y dy ∧ dx.pure = true ∧ dy.pure = true ∧ SeqAt.shaped dx.py = true ∧ SeqAt.shaped dy.py = true ∧
  Φ (.bl (if neg then !PyData.eqv dx.py dy.py else PyData.eqv dx.py dy.py)) Δ2 M2
theorem sim_eqR {ta tb : TE} (sa : Sim K Z ta ra) (sb : Sim K Z tb rb) : Sim K Z (tOp (rEqD K) ta tb) (dEqR false ra rb) := by
  intro M σ H Δ F Φ c h Q q
  refine sa M σ H Δ F _ c h _ fun v H1 x Δ1 M1 F1 e1 c1 r1 h1 => ?_
  refine sb M1 σ H1 Δ1 F1 _ c1 h1 _ fun w H2 y Δ2 M2 F2 e2 c2 r2 h2 => ?_
  obtain ⟨dx, dy, v1, v2, p1, p2, s1, s2, hΦ⟩ := h2
  exact ⟨_, _, c2.view v1 p1 (rp_mono e2 _ _ r1), c2.view v2 p2 r2, s1, s2, q _ H2 (.bl _) Δ2 M2 F2 (e1.trans e2) c2 rfl hΦ⟩
theorem sim_neR {ta tb : TE} (sa : Sim K Z ta ra) (sb : Sim K Z tb rb) : Sim K Z (tOp (rNeD K) ta tb) (dEqR true ra rb) := by
  intro M σ H Δ F Φ c h Q q
  refine sa M σ H Δ F _ c h _ fun v H1 x Δ1 M1 F1 e1 c1 r1 h1 => ?_
  refine sb M1 σ H1 Δ1 F1 _ c1 h1 _ fun w H2 y Δ2 M2 F2 e2 c2 r2 h2 => ?_
  obtain ⟨dx, dy, v1, v2, p1, p2, s1, s2, hΦ⟩ := h2
  exact ⟨_, _, c2.view v1 p1 (rp_mono e2 _ _ r1), c2.view v2 p2 r2, s1, s2, q _ H2 (.bl _) Δ2 M2 F2 (e1.trans e2) c2 rfl hΦ⟩
theorem qe_eqR (hu : X.A.units + 64 < cLine) (ha : QE X Z a ra) (hb : QE X Z b rb) (hm : behindInMarks .Eq b = false := by first | exact nobehind _ (by decide) (by decide) | rfl) : QE X Z (.Compare a [.Eq] [b] pos) (dEqR false ra rb) := by
  obtain ⟨ta, pa, sa⟩ := ha
  obtain ⟨tb, pb, sb⟩ := hb
  exact ⟨_, pe_cmpR (op_eqD hu) pa pb hm, sim_eqR sa sb⟩
theorem qe_neR (hu : X.A.units + 64 < cLine) (ha : QE X Z a ra) (hb : QE X Z b rb) (hm : behindInMarks .NotEq b = false := by first | exact nobehind _ (by decide) (by decide) | rfl) : QE X Z (.Compare a [.NotEq] [b] pos) (dEqR true ra rb) := by
  obtain ⟨ta, pa, sa⟩ := ha
  obtain ⟨tb, pb, sb⟩ := hb
  exact ⟨_, pe_cmpR (op_neD hu) pa pb hm, sim_neR sa sb⟩
theorem qt_eqR (hu : X.A.units + 64 < cLine) (ha : QE X Z a ra) (hb : QE X Z b rb) (hm : behindInMarks .Eq b = false := by first | exact nobehind _ (by decide) (by decide) | rfl) : QT X Z (.Compare a [.Eq] [b] pos) (dTest (dEqR false ra rb)) := by
  obtain ⟨ta, pa, sa⟩ := ha
  obtain ⟨tb, pb, sb⟩ := hb
  exact ⟨_, pt_cmpR (op_eqD hu) pa pb hm, simT_test (sim_eqR sa sb)⟩
theorem qt_neR (hu : X.A.units + 64 < cLine) (ha : QE X Z a ra) (hb : QE X Z b rb) (hm : behindInMarks .NotEq b = false := by first | exact nobehind _ (by decide) (by decide) | rfl) : QT X Z (.Compare a [.NotEq] [b] pos) (dTest (dEqR true ra rb)) := by
  obtain ⟨ta, pa, sa⟩ := ha
  obtain ⟨tb, pb, sb⟩ := hb
  exact ⟨_, pt_cmpR (op_neD hu) pa pb hm, simT_test (sim_neR sa sb)⟩
/-- x[i], lists anywhere, tuples, texts -/
theorem qe_ixR (ha : QE X Z a ra) (hb : QE X Z b rb) (hs : PlainIx b := by intro _ _; rfl) : QE X Z (.Subscript a b pos) (dIxR ra rb) := by
  obtain ⟨ta, pa, sa⟩ := ha
  obtain ⟨tb, pb, sb⟩ := hb
  refine ⟨_, pe_ix ix_seq pa pb hs, fun M σ H Δ F Φ c h Q q => ?_⟩
  refine sa M σ H Δ F _ c h _ fun v H1 x Δ1 M1 F1 e1 c1 r1 h1 => ?_
  refine sb M1 σ H1 Δ1 F1 _ c1 h1 _ fun w H2 y Δ2 M2 F2 e2 c2 r2 h2 => ?_
  have gen : dIx x y (fun d => Φ d Δ2 M2) → rIx X.K v w H2 Q := fun k => od_ix Z M2 σ H2 Δ2 F2 x y v w _ c2 (rp_mono e2 _ _ r1) r2 k Q fun u H3 d F3 e3 c3 r3 k3 => q u H3 d Δ2 M2 F3 ((e1.trans e2).trans e3) c3 r3 k3
  cases x with
  | ref p =>
    cases y with
    | int i =>
      obtain ⟨ds, hM, d, k1, k2⟩ := h2
      obtain ⟨vs, g1, g2⟩ := c2.bs.lstM hM
      obtain ⟨u, h3, h4⟩ := atI_rps g2 k1
      exact .inl ⟨p, vs, i, u, r1, r2, SqL.of g1, h3, q u H2 d Δ2 M2 F2 (e1.trans e2) c2 h4 k2⟩
    | _ => exact gen h2
  | _ => exact gen h2

/-! ### module constants -/
theorem qe_glob {x : Str} {v : V} {u : Value} {d : D} (hg : Gl X x) (hm : X.mg x = some u) (r : RelV v u) (h : ∀ F, Rp X.K F d v) (hd : (x == ("__debug__" : Str)) = false := by decide) : QE X Z (.Name x pos) (dC d) := ⟨_, pe_glob hg hm r hd, sim_c h⟩

/-! ### f-texts -/
def dJs : List RE → Str → List Sl → Mem → (Str → List Sl → Mem → Prop) → Prop
  | [], acc, Δ, M, Φ => Φ acc Δ M
  | r :: rs, acc, Δ, M, Φ => r Δ M fun x Δ1 M1 => match x with
    | .str y => (acc ++ y).length ≤ sizeLine ∧ dJs rs (acc ++ y) Δ1 M1 Φ
    | _ => False
def dJoin (rs : List RE) : RE := fun Δ M Φ => dJs rs Str.empty Δ M fun out Δ1 M1 => Φ (.str out) Δ1 M1
def QJ (X : Cx) (Z : Zx) (es : List Expr) (rs : List RE) : Prop := ∃ ts, PJ X es ts ∧ ∀ (acc : Str) (M : Mem) (σ : L2.St) (H : Hp) (Δ : List Sl) (F : Hp) (Φ : Str → List Sl → Mem → Prop), Cn X.K Z M σ H Δ F → dJs rs acc Δ M Φ →
  ∀ Q : Str → Hp → Prop, (∀ out H' Δ' M' F', Ex F F' → Cn X.K Z M' σ H' Δ' F' → Φ out Δ' M' → Q out H') → tJs ts acc σ H Q
theorem qj_nil : QJ X Z [] [] := ⟨[], .nil, fun acc M σ H Δ F Φ c h Q q => q acc H Δ M F (Ex.refl _) c h⟩
theorem qj_cons {rs : List RE} (h : QE X Z e r) (hs : QJ X Z es rs) : QJ X Z (e :: es) (r :: rs) := by
  obtain ⟨t, p, s⟩ := h
  obtain ⟨ts, ps, ss⟩ := hs
  refine ⟨t :: ts, .cons p ps, fun acc M σ H Δ F Φ c h Q q => ?_⟩
  refine s M σ H Δ F _ c h _ fun v H1 x Δ1 M1 F1 e1 c1 r1 h1 => ?_
  cases x with
  | str y => exact ⟨y, r1, h1.1, ss _ M1 σ H1 Δ1 F1 Φ c1 h1.2 Q fun out H' Δ' M' F' e2 => q out H' Δ' M' F' (e1.trans e2)⟩
  | _ => exact h1.elim
theorem qe_join {v1 v2 : Expr} {rest : List Expr} {rs : List RE} (h : QJ X Z (v1 :: v2 :: rest) rs) : QE X Z (.JoinedStr (v1 :: v2 :: rest) pos) (dJoin rs) := by
  obtain ⟨ts, ps, ss⟩ := h
  exact ⟨_, pe_joined ps, fun M σ H Δ F Φ c h Q q => ss _ M σ H Δ F _ c h _ fun out H' Δ' M' F' e1 c1 k => q _ H' (.str out) Δ' M' F' e1 c1 rfl k⟩
/-- {e}: an int or a text -/
def dFmt (r : RE) : RE := fun Δ M Φ => r Δ M fun x Δ1 M1 => match x with
  | .str y => y.length ≤ sizeLine ∧ Φ (.str y) Δ1 M1
  | .int i => i.natAbs.log2 < 1920 ∧ Φ (.str (toString i)) Δ1 M1
  | _ => False
theorem qe_fmt (h : QE X Z e r) : QE X Z (.FormattedValue e (-1) none pos) (dFmt r) := by
  obtain ⟨t, p, s⟩ := h
  refine ⟨_, pe_fmt p, fun M σ H Δ F Φ c h Q q => ?_⟩
  refine s M σ H Δ F _ c h _ fun v H1 x Δ1 M1 F1 e1 c1 r1 h1 => ?_
  cases x with
  | str y => exact .inl ⟨y, r1, h1.1, q _ H1 (.str y) Δ1 M1 F1 e1 c1 rfl h1.2⟩
  | int i => exact .inr ⟨i, r1, h1.1, q _ H1 (.str _) Δ1 M1 F1 e1 c1 rfl h1.2⟩
  | _ => exact h1.elim

/-! ### for c in s -/
def signsD (x : Str) : List D := x.cps.toList.map fun c => .str ⟨#[c]⟩
theorem loop_str {x : Str} {j : Nat} {js : List Nat} {t : TS} {u : RS} (hu : SimS K Z t u) {M : Mem} {σ : L2.St} {H F : Hp} {Δ : List Sl} {De : DE} {Dv : Ends} (c : Cn K Z M σ H Δ F)
    (h : dLoop j js (signsD x) u De Δ M) (ok : EndsOk K Z F De Dv) :
    ∃ W : Nat → Nat → L2.St → Hp → Prop, (∃ m, W 0 m σ H) ∧ ∀ i k σ H, W i k σ H →
      ((Its x).stop i H ∧ Dv.nx σ H) ∨ ((Its x).go i H ∧ ∃ N : L2.St → Hp → Prop, (∀ σ' H', N σ' H' → ∃ m', m' < k ∧ W (i + 1) m' σ' H') ∧ ∀ y H', (Its x).yld i H y H' → gName j y σ H' fun σ2 H2 => t { Dv with nx := N, ct := N, bk := Dv.nx } σ2 H2) := by
  obtain ⟨Pv, h0, hs, hd⟩ := h
  have hl : (signsD x).length = x.cps.size := by unfold signsD; rw [List.length_map, Array.length_toList]
  refine ⟨fun i m σ H => m = x.cps.size - i ∧ i ≤ x.cps.size ∧ ∃ Δ M F', Ex F F' ∧ Cn K Z M σ H Δ F' ∧ Pv i Δ M, ⟨_, rfl, Nat.zero_le _, _, M, F, Ex.refl _, cn_fgt js _ c, h0⟩, ?_⟩
  rintro i m σ H ⟨rfl, hi, Δ, M, F', e, c, hp⟩
  by_cases hlt : i < x.cps.size
  · refine .inr ⟨hlt, fun σ H => ∃ Δ M F', Ex F F' ∧ Cn K Z M σ H Δ F' ∧ Pv (i + 1) Δ M, fun σ' H' p' => ⟨x.cps.size - (i + 1), by omega, rfl, hlt, p'⟩, fun y H' hy => ?_⟩
    obtain ⟨eH, k, hk, ev⟩ := hy
    subst eH ev
    have hd' : (signsD x)[i]? = some (.str ⟨#[k]⟩) := by
      unfold signsD
      rw [List.getElem?_map, Array.getElem?_toList, hk] <;> rfl
    exact hu M _ _ _ F' _ (c.set (d := .str ⟨#[k]⟩) rfl j) (hs i _ Δ M hd' hp) _ (endsLoop (js := js) (Pv := Pv) ok e fun σ' H' Δ' M' F'' e1 c' k => ⟨Δ', M', F'', e.trans e1, c', k⟩)
  · have ei : i = x.cps.size := by omega
    subst ei
    rw [hl] at hd
    exact .inl ⟨Nat.le_refl _, ok.nx σ H Δ M F' e c (hd _ _ hp)⟩
def dForS (j : Nat) (js : List Nat) (r : RE) (u : RS) : RS := fun De Δ M => r Δ M fun x Δ1 M1 => match x with
  | .str z => dLoop j js (signsD z) u De Δ1 M1
  | _ => False
theorem qs_forS {j : Nat} {js : List Nat} {x : Str} {px : Pos} {body : List Stmt} {iter : Expr} {u : RS} (hp : PassesOwn (model X.prog X.w) X.A X.env X.xe) (hc : X.calm = true) (hN : X.N.Nodup) (h : QE X Z iter r) (hb : QSs X Z body u) (hi : X.N[j]? = some x := by rfl) (hx : Loc X.env.scope x := by first | exact Or.inl rfl | exact Or.inr rfl)
    (hf : X.fn x = true ∨ X.env.scope.names.lookup x = some .local := by first | exact .inl rfl | exact .inr rfl) (hs : ∀ x, foldedSetIterable iter X.env x = pure x := by intro _; rfl) : QS X Z (.For (.Name x px) iter body [] pos) (dForS j js r u) := by
  obtain ⟨t, p, s⟩ := h
  obtain ⟨tb, pb, sb⟩ := hb
  refine ⟨_, ps_for hp hc (pi_str p) (pg_name (i := j) hN hi hx hf) pb hs, fun M σ H Δ F De c h Dv ok => ?_⟩
  refine s M σ H Δ F _ c h _ fun v H1 y Δ1 M1 F1 e1 c1 r1 h1 => ?_
  cases y with
  | str z => exact ⟨z, r1, loop_str sb c1 h1 (ok.mono e1)⟩
  | _ => exact h1.elim
/-- isinstance, also of a list in memory -/
def dIsiR (T : String) (r : RE) : RE := fun Δ M Φ => r Δ M fun x Δ1 M1 => match x with
  | .ref p => ∃ ds b, M1 p = some (.lst ds) ∧ kitB "list" T = some b ∧ Φ (.bl b) Δ1 M1
  | .rng _ _ => False
  | x => ∃ b, kitB x.ty T = some b ∧ Φ (.bl b) Δ1 M1
theorem qe_isiR {T : String} {x : Str} {p p2 : Pos} (h : QE X Z e r) (hg : Gl X "isinstance") (hm : X.mg "isinstance" = none) (hg2 : Gl X x) (hm2 : X.mg x = none) (hb : bootBuiltins x = some (.type T)) (hn : x ≠ "__name__" := by decide) (hdb : (x == ("__debug__" : Str)) = false := by decide)
    (he : starEach [e, .Name x p2] X.env = (false, eval e X.env) :: starEach [.Name x p2] X.env := by rfl) (he2 : starEach [.Name x p2] X.env = (false, eval (.Name x p2) X.env) :: starEach [] X.env := by rfl) (hpl : (backTo pos (starEach [.Name x p2] X.env)).any (·.1) = false := by rfl) :
    QE X Z (.Call (.Name "isinstance" p) [e, .Name x p2] [] pos) (dIsiR T r) := by
  obtain ⟨t, pe, s⟩ := h
  refine ⟨_, pe_callB call_isi hg hm (by decide +kernel) (pa_cons pe (pa_cons (pe_bltn hg2 hm2 hb (v := .ty T) rfl hn hdb) pa_nil he2) he) (by decide) (by decide) he hpl, fun M σ H Δ F Φ c h Q q => ?_⟩
  refine s M σ H Δ F _ c h _ fun v H1 y Δ1 M1 F1 e1 c1 r1 h1 => ?_
  have hd : ∃ ty b, TyX X.K H1 v (.type ty) ∧ kitB ty T = some b ∧ Φ (.bl b) Δ1 M1 := by
    cases y with
    | ref p =>
      obtain ⟨ds, b, hM, k1, k2⟩ := h1
      obtain ⟨vs, g1, g2⟩ := c1.bs.lstM hM
      rw [show v = .ref p from r1]
      exact ⟨_, b, .base (.lst g1), k1, k2⟩
    | rng lo hi => exact h1.elim
    | _ =>
      obtain ⟨b, k1, k2⟩ := h1
      exact ⟨_, b, rp_tyx c1.bs.fH r1 True.intro, k1, k2⟩
  obtain ⟨ty, b, hty, k1, k2⟩ := hd
  exact ⟨v, .ty T, _, _, b, rfl, .ty T, hty, kit_ty k1, q _ H1 (.bl b) Δ1 M1 F1 e1 c1 rfl k2⟩
end
end DL

set_option Elab.async false
set_option linter.all false
set_option maxRecDepth 100000
set_option maxHeartbeats 4000000
namespace DL
open PySem PySem.Spec PyProof.Rows L2
open Evl (Ex)
/-! ### an own exception's __init__ of two fields -/
def tI2 (K : PySem.W.Frag) (f1 f2 : Str) : TS := fun Dv σ H => tOst K f1 (tVar 0) (tVar 1) { Dv with nx := fun σ1 H1 => tOst K f2 (tVar 0) (tVar 2) Dv σ1 H1 } σ H
theorem spInit_len {C : Addr} {names ps : List Str} (h : ps.length = names.length + 1) : ∀ vs H Q E, spInit C names vs H Q E → vs.length = ps.length := by
  rintro vs H Q E ⟨a, ws, rfl, hl, _⟩
  rw [List.length_cons, hl, h]
theorem init2 {K : PySem.W.Frag} {C : Addr} {f1 f2 a b c : Str} {vs : List V} {H : Hp} {Q : VK} {E : XK} (T : OexC K C) (n1 : PySem.W.findIn K (.ref C) f1 = some none) (n2 : PySem.W.findIn K (.ref C) f2 = some none) (h : spInit C [f1, f2] vs H Q E) :
    tI2 K f1 f2 { nx := fun _ H' => Q .non H', rt := Q } (L2.start [a, b, c] vs) H := by
  obtain ⟨e, ws, rfl, hl, he, k⟩ := h
  match ws, hl with
  | [x, y], _ =>
    refine ⟨x, rfl, .ref e, rfl, e, C, rfl, T, n1, .inl ⟨he, fun dx hdx hne => ?_⟩⟩
    refine ⟨y, rfl, .ref e, rfl, e, C, rfl, T, n2, .inr ⟨dx, [(f1, x)], upd_same, by rw [upd_ne hne, upd_same], (by show 1 ≤ 900; decide), ?_⟩⟩
    refine k dx _ hdx hne ?_ upd_same fun u h1 h2 => ?_
    · rw [upd_ne hne.symm, upd_same]
    · rw [upd_ne h2, upd_ne h1, upd_ne h2]
/-! ### constants, += on a field -/
theorem qe_globI {X : Cx} {Z : Zx} {pos : Pos} {x : Str} {i : Int} (hg : Gl X x) (hm : ∃ t, X.mg x = some (.int i t)) (hd : (x == ("__debug__" : Str)) = false := by decide) : QE X Z (.Name x pos) (dC (.int i)) := by
  obtain ⟨t, hm⟩ := hm
  exact qe_glob (v := .int i) hg hm ⟨t, rfl⟩ (fun _ => rfl) hd
theorem inop_add {X : Cx} : InOp X .Add rAdd := in_add
theorem od_plus {K : PySem.W.Frag} : OpD K rAdd dPlus := by
  intro Z M σ H Δ F x y v w Φ c rx ry k Q q
  unfold dPlus dI at k
  split at k
  · exact ⟨_, _, rx, ry, q _ H (.int _) F (Ex.refl _) c rfl k⟩
  · exact k.elim
/-- isinstance(e, T) of the exception that the suite holds -/
def dIsX (a : Addr) (b : Bool) (r : RE) : RE := fun Δ M Φ => r Δ M fun x Δ1 M1 => match x with
  | .ref p => p = a ∧ Φ (.bl b) Δ1 M1
  | _ => False
theorem kit_true {K : PySem.W.Frag} {C T : Addr} (hd : PySem.W.hasDictIn K T = true) (ht : PySem.W.typeIn K (.ref T) = some (.type "type")) (hs : PySem.W.subIn K (.ref C) (.ref T) = some true) : PySem.W.kitOne K (.ref C) (.ref T) = some true := by
  unfold PySem.W.kitOne
  split
  · rfl
  · obtain ⟨cd, hc, _⟩ := PySem.W.any_some hd
    show (if ((PySem.W.clsIn K T).isSome && PySem.W.typeIn K (.ref T) == some (.type "type")) = true then PySem.W.subIn K (.ref C) (.ref T) else none) = some true
    have e : ((some cd).isSome && (some (Value.type "type") : Option Value) == some (.type "type")) = true := rfl
    rw [hc, ht, hs, if_pos e]
def rIsX (D cT a : Addr) (d : Option Addr) (b : Bool) : List V → Hp → VK → Prop := fun xs H Q => xs = [.ref a, .ref cT] ∧ (∀ dd, d = some dd → ∃ vfs, H dd = some (.xd vfs)) ∧ Q (.bl b) H
theorem call_isX {X : Cx} {a D cT : Addr} {oe : Obj} {d : Option Addr} {b : Bool} {pn : List (Addr × Obj)} (C : ExcC X.K D) (hk : PySem.W.kitOne X.K (.ref D) (.ref cT) = some b) (hz : Zc (.ref D) d oe) (hf : ∃ vs, oe.data = .fields vs) :
    CallR (X.suite a ((a, oe) :: pn)) (.builtin "isinstance") (rIsX D cT a d b) := by
  intro pins s σ H xs us Q I r h
  obtain ⟨rfl, hd, q⟩ := h
  match us, r with
  | [_, _], .cons rx (.cons ry .nil) =>
    cases rx
    cases ry
    have hget := (I.pin (a, oe) (List.mem_append.mpr (.inl List.mem_cons_self))).1
    obtain ⟨vs, hv⟩ := hf
    obtain ⟨h1, h2⟩ := hz
    have cl : (PySem.W.clsIn X.K D).isSome = true := by
      obtain ⟨cd, hc, _⟩ := PySem.W.any_some C.hd
      rw [hc] <;> rfl
    have nc : PySem.W.notCls oe = true := by unfold PySem.W.notCls; rw [hv] <;> rfl
    have fin : ∀ od, PySem.W.InstAt s.heap a oe D od → wpAny (model X.prog X.w) (X.suite a ((a, oe) :: pn)).A (call (.builtin "isinstance") [.ref a, .ref cT]) (EP (X.suite a ((a, oe) :: pn)) pins σ Q) (X.suite a ((a, oe) :: pn)).xe s := fun od J =>
      PySem.W.kia_one (PySem.W.kitx_exc (gt := none) (od := od) (ox := oe) cl C.hg C.hk C.hs C.ha C.hn C.ht C.hm) I.kIn J hk (fun z => nomatch z) fun tk => ⟨.bl b, H, I.kept (t' := tk) fun _ _ z => z, rfl, q⟩
    cases d with
    | none => exact fin none ⟨hget, h1, nc, by rw [h2]; trivial⟩
    | some dd =>
      obtain ⟨vfs, ed⟩ := hd dd rfl
      have hx : ObjOk X.prog X.w H s.heap dd (.xd vfs) := I.hok dd _ ed
      obtain ⟨mA, hns, hr⟩ := hx
      obtain ⟨od, ho, hl⟩ := lookIn_ns hns
      exact fin (some od) ⟨hget, h1, nc, by rw [h2]; exact ho⟩
theorem qe_isX {X : Cx} {Z : Zx} {a C cT : Addr} {oe : Obj} {d : Option Addr} {b : Bool} {fs : List (Str × D)} {pn : List (Addr × Obj)} {e : Expr} {r : RE} {pos p p2 : Pos} {x : Str} (T : ExcC X.K C) (hk : PySem.W.kitOne X.K (.ref C) (.ref cT) = some b)
    (hz : Zc (.ref C) d oe) (hf : ∃ vs, oe.data = .fields vs) (xr : XRep X.K Z.F0 fs d) (he : QE (X.suite a ((a, oe) :: pn)) Z e r) (hg : Gl X "isinstance") (hm : X.mg "isinstance" = none) (hg2 : Gl X x) (hm2 : X.mg x = some (.ref cT)) (hdb : (x == ("__debug__" : Str)) = false := by decide)
    (h1 : starEach [e, .Name x p2] X.env = (false, eval e X.env) :: starEach [.Name x p2] X.env := by rfl) (h2 : starEach [.Name x p2] X.env = (false, eval (.Name x p2) X.env) :: starEach [] X.env := by rfl) (hpl : (backTo pos (starEach [.Name x p2] X.env)).any (·.1) = false := by rfl) :
    QE (X.suite a ((a, oe) :: pn)) Z (.Call (.Name "isinstance" p) [e, .Name x p2] [] pos) (dIsX a b r) := by
  obtain ⟨t, pe, s⟩ := he
  refine ⟨_, pe_callB (X := X.suite a ((a, oe) :: pn)) (call_isX T hk hz hf) hg hm (by decide +kernel) (pa_cons pe (pa_cons (pe_glob (X := X.suite a ((a, oe) :: pn)) (v := .ref cT) hg2 hm2 rfl hdb) pa_nil h2) h1) (by decide) (by decide) h1 hpl, fun M σ H Δ F Φ c h Q q => ?_⟩
  refine s M σ H Δ F _ c h _ fun v H1 y Δ1 M1 F1 e1 c1 r1 k => ?_
  cases y with
  | ref b =>
    obtain ⟨rfl, hΦ⟩ := k
    refine ⟨by rw [show v = .ref b from r1], fun dd hd => ?_, q _ H1 (.bl _) Δ1 M1 F1 e1 c1 rfl hΦ⟩
    subst hd
    obtain ⟨vfs, g1, _⟩ := xr.mono c1.bs.f0
    exact ⟨vfs, c1.bs.fH _ _ g1⟩
  | _ => exact k.elim
end DL

set_option Elab.async false
set_option linter.all false
set_option maxRecDepth 100000
set_option maxHeartbeats 4000000
namespace My
open PySem PySem.Spec PyProof.Rows L2 DL
open Evl (Ex)
/-! ### the law's own numbers: a row of the script -/
def cellAt (ns : List Int) (k : Int) : Int := if k < (ns.length : Int) then ns.getD k.toNat 0 else 0
def seedAt (s : Int) : Nat → Int
  | 0 => s
  | i + 1 => (seedAt s i * 16807 + (i : Int) * 7919 + 101) % 2147483647
def thAt (c : Int) : Nat → Int
  | 0 => c
  | i + 1 => thAt c i / 1000
def lawRow (ns : List Int) (k : Int) (n : Nat) : List Int :=
  if cellAt ns k ≥ 10 ^ 18 then (List.range n).map fun i => thAt (cellAt ns k) i % 1000
  else (List.range n).map fun i => seedAt ((cellAt ns k * 48271 + k * 69621 + 11) % 2147483647) (i + 1) / 65536 % 1000
theorem lawRow_len (ns : List Int) (k : Int) (n : Nat) : (lawRow ns k n).length = n := by
  unfold lawRow
  split <;> rw [List.length_map, List.length_range]
theorem lawRow_mem {ns : List Int} {k : Int} {n : Nat} : ∀ r ∈ lawRow ns k n, 0 ≤ r ∧ r < 1000 := by
  intro r hr
  unfold lawRow at hr
  split at hr
  · obtain ⟨i, _, rfl⟩ := List.mem_map.mp hr
    omega
  · obtain ⟨i, _, rfl⟩ := List.mem_map.mp hr
    omega
/-- the i-th number of a row -/
theorem lawRow_at {ns : List Int} {k : Int} {n i : Nat} (h : i < n) : ∃ r, atI ((lawRow ns k n).map D.int) (i : Int) = some (.int r) ∧ (lawRow ns k n)[i]? = some r ∧ 0 ≤ r ∧ r < 1000 := by
  have hl : i < (lawRow ns k n).length := by rw [lawRow_len]; exact h
  refine ⟨(lawRow ns k n)[i], ?_, List.getElem?_eq_getElem hl, lawRow_mem _ (List.getElem_mem hl)⟩
  refine atI_nat ?_
  rw [List.getElem?_map, List.getElem?_eq_getElem hl] <;> rfl
def S_law_row : DSp := fun ds M Φ _ => ∃ (ns : List Int) (k : Int) (n : Nat), ds = [.scr ns, .int k, .int n] ∧ 0 ≤ k ∧ k < 1000000 ∧ n ≤ 1000 ∧ Φ (.lst ((lawRow ns k n).map .int)) M
theorem ar_law_row : Arity S_law_row 3 := by
  rintro ds M Φ Ψ ⟨ns, k, n, rfl, _⟩
  rfl
theorem seedAt_lo {s : Int} (h : 0 ≤ s ∧ s < 2147483647) : ∀ i, 0 ≤ seedAt s i ∧ seedAt s i < 2147483647
  | 0 => h
  | i + 1 => by
    show 0 ≤ (seedAt s i * 16807 + (i : Int) * 7919 + 101) % 2147483647 ∧ (seedAt s i * 16807 + (i : Int) * 7919 + 101) % 2147483647 < 2147483647
    omega
/-! _law_row: slots 0 _law_script 1 _law_k 2 _law_count 3 _law_cell_here 4 _law_row_here 5 _law_at 6 _law_seed -/
def b_law_row_6 : RS := (dSeq (dApp 4 (dOp (dIC (fun _ j => 0 < j) fun i j => .int (i % j)) (dCB dInt (dCons (dVar 3) dNil)) (dC (.int 1000))))
    (dSet 3 (dOp (dIC CDivA fun i j => .int (i / j)) (dVar 3) (dC (.int 1000)))))
def b_law_row_11 : RS := (dSeq (dSet 6 (dOp (dIC (fun _ j => 0 < j) fun i j => .int (i % j)) (dCB dInt (dCons (dOp dAdd (dOp dAdd (dOp (dIC CMulA fun i j => .int (i * j)) (dVar 6) (dC (.int 16807))) (dOp (dIC CMulA fun i j => .int (i * j)) (dVar 5) (dC (.int 7919)))) (dC (.int 101))) dNil)) (dC (.int 2147483647))))
    (dApp 4 (dOp (dIC (fun _ j => 0 < j) fun i j => .int (i % j)) (dOp (dIC CDivA fun i j => .int (i / j)) (dVar 6) (dC (.int 65536))) (dC (.int 1000)))))
def r_law_row_6 : RS := (dRet (dVar 4))
def r_law_row_5 : RS := dSeq (dForR 5 [5] (dVar 2) b_law_row_11) r_law_row_6
def r_law_row_4 : RS := dSeq (dSet 6 (dOp (dIC (fun _ j => 0 < j) fun i j => .int (i % j)) (dCB dInt (dCons (dOp dAdd (dOp dAdd (dOp (dIC CMulA fun i j => .int (i * j)) (dVar 3) (dC (.int 48271))) (dOp (dIC CMulA fun i j => .int (i * j)) (dVar 1) (dC (.int 69621)))) (dC (.int 11))) dNil)) (dC (.int 2147483647)))) r_law_row_5
def r_law_row_3 : RS := dSeq (dIfS (dTest (dOp dGe (dVar 3) (dOp (dIC CPow fun i j => .int (i ^ j.toNat)) (dC (.int 10)) (dC (.int 18))))) (dSeq (dForR 5 [5] (dVar 2) b_law_row_6)
    (dRet (dVar 4))) dNext) r_law_row_4
def r_law_row_2 : RS := dSeq (dSetO 4 dNil) r_law_row_3
def r_law_row_1 : RS := dSeq (dIfS (dTest (dOp dLt (dVar 1) (dCB dLen (dCons (dVar 0) dNil)))) (dSet 3 (dCB dInt (dCons (dOp dIx (dVar 0) (dVar 1)) dNil))) dNext) r_law_row_2
def r_law_row : RS := dSeq (dSet 3 (dC (.int 0))) r_law_row_1


theorem getD_of {ns : List Int} {k : Int} (h0 : 0 ≤ k) (h : k < (ns.length : Int)) : atI ns k = some (cellAt ns k) := by
  have hk : k.toNat < ns.length := by omega
  have e : ((k.toNat : Nat) : Int) = k := Int.toNat_of_nonneg h0
  rw [← e]
  unfold cellAt
  rw [if_pos (by omega)]
  refine atI_nat ?_
  rw [Int.toNat_natCast, List.getD_eq_getElem?_getD, List.getElem?_eq_getElem hk] <;> rfl
theorem range_take {α : Type} (g : Nat → α) (i : Nat) : (List.range (i + 1)).map g = (List.range i).map g ++ [g i] := by
  rw [List.range_succ, List.map_append] <;> rfl
theorem line1000 {n : Nat} (h : n ≤ 1000) : n < sizeLine := Nat.lt_of_le_of_lt h (by decide)
theorem rangeD_some {lo : Int} {n i : Nat} {d : D} (h : (rangeD lo n)[i]? = some d) : i < n ∧ d = .int (lo + (i : Nat)) := by
  have hi : i < n := by
    have := (List.getElem?_eq_some_iff.mp h).1
    rw [rangeD_len] at this
    exact this
  rw [rangeD_get hi] at h
  exact ⟨hi, (Option.some.inj h).symm⟩
theorem red_law_row : ∀ ds M Φ Ψ, S_law_row ds M Φ Ψ → r_law_row { nx := fun _ M' => Φ .non M', rt := Φ } (startD 7 ds) M := by
  rintro ds M Φ Ψ ⟨ns, k, n, rfl, hk0, hk1, hn, q⟩
  have key : ∀ c, c = cellAt ns k → r_law_row_2 { nx := fun _ M' => Φ .non M', rt := Φ } [.d (.scr ns), .d (.int k), .d (.int n), .d (.int c), .un, .un, .un] M := by
    intro c hc
    have h10 : (10 : Int) ^ (18 : Int).toNat = 1000000000000000000 := by decide
    have h10' : (10 : Int) ^ 18 = 1000000000000000000 := by decide
    refine ⟨⟨by decide, by decide, by decide⟩, fun hb => ?_, fun hb => ?_⟩
    · -- the digits of a great cell
      have hc18 : cellAt ns k ≥ 10 ^ 18 := by
        have := of_decide_eq_true hb
        rw [h10] at this
        omega
      refine ⟨by omega, ?_⟩
      refine loop_by (fun i => [.d (.scr ns), .d (.int k), .d (.int n), .d (.int (thAt c i)), .own ((List.range i).map fun i => .int (thAt c i % 1000)), .un, .un]) rfl (fun i d hi => ?_) ?_
      · obtain ⟨hi, rfl⟩ := rangeD_some hi
        refine ⟨⟨_, rfl⟩, (by show (0 : Int) < 1000; decide), ?_, ?_⟩
        · rw [List.length_map, List.length_range]
          exact line1000 (by omega)
        · refine ⟨⟨by decide, .inl (by decide)⟩, ?_, rfl⟩
          show [Sl.d (.scr ns), .d (.int k), .d (.int n), .d (.int (thAt c i / 1000)), .own ((List.range i).map (fun i => D.int (thAt c i % 1000)) ++ [.int (thAt c i % 1000)]), .un, .un] = [.d (.scr ns), .d (.int k), .d (.int n), .d (.int (thAt c (i + 1))), .own ((List.range (i + 1)).map fun i => .int (thAt c i % 1000)), .un, .un]
          rw [range_take] <;> rfl
      · rw [rangeD_len, show (↑n : Int).toNat = n from Int.toNat_natCast n]
        have e : (List.range n).map (fun i => D.int (thAt c i % 1000)) = (lawRow ns k n).map .int := by
          unfold lawRow
          rw [if_pos hc18, List.map_map, hc] <;> rfl
        show Φ (.lst ((List.range n).map fun i => D.int (thAt c i % 1000))) M
        rw [e]
        exact q
    · -- a seed
      have hc18 : ¬ cellAt ns k ≥ 10 ^ 18 := by
        have := of_decide_eq_false hb
        rw [h10] at this
        omega
      have e2 : (0 : Int) < 2147483647 := by decide
      let s0 := (c * 48271 + k * 69621 + 11) % 2147483647
      have hs0 : 0 ≤ s0 ∧ s0 < 2147483647 := by omega
      refine ⟨.inl (.inr (by decide)), .inl (.inr (by decide)), e2, by omega, ?_⟩
      refine loop_by (fun i => [.d (.scr ns), .d (.int k), .d (.int n), .d (.int c), .own ((List.range i).map fun i => .int (seedAt s0 (i + 1) / 65536 % 1000)), .un, .d (.int (seedAt s0 i))]) rfl (fun i d hi => ?_) ?_
      · obtain ⟨hi, rfl⟩ := rangeD_some hi
        refine ⟨.inl (.inr (by decide)), .inl (.inr (by decide)), e2, ⟨_, rfl⟩, ⟨by decide, .inl (by decide)⟩, (by show (0 : Int) < 1000; decide), ?_, ?_, rfl⟩
        · rw [List.length_map, List.length_range]
          exact line1000 (by omega)
        · have e3 : (seedAt s0 i * 16807 + (0 + (i : Int)) * 7919 + 101) % 2147483647 = seedAt s0 (i + 1) := by
            show _ = (seedAt s0 i * 16807 + (i : Int) * 7919 + 101) % 2147483647
            rw [Int.zero_add]
          show [Sl.d (.scr ns), .d (.int k), .d (.int n), .d (.int c), .own ((List.range i).map (fun i => D.int (seedAt s0 (i + 1) / 65536 % 1000)) ++ [.int ((seedAt s0 i * 16807 + (0 + (i : Int)) * 7919 + 101) % 2147483647 / 65536 % 1000)]), .un, .d (.int ((seedAt s0 i * 16807 + (0 + (i : Int)) * 7919 + 101) % 2147483647))] = _
          rw [e3, range_take]
      · rw [rangeD_len, show (↑n : Int).toNat = n from Int.toNat_natCast n]
        have e : (List.range n).map (fun i => D.int (seedAt s0 (i + 1) / 65536 % 1000)) = (lawRow ns k n).map .int := by
          unfold lawRow
          rw [if_neg hc18, List.map_map, ← hc] <;> rfl
        show Φ (.lst ((List.range n).map fun i => D.int (seedAt s0 (i + 1) / 65536 % 1000))) M
        rw [e]
        exact q
  refine ⟨fun hb => ?_, fun hb => ?_⟩
  · have hlt : k < (ns.length : Int) := of_decide_eq_true hb
    exact ⟨_, getD_of hk0 hlt, key _ rfl⟩
  · have hge : ¬ k < (ns.length : Int) := of_decide_eq_false hb
    refine key 0 ?_
    unfold cellAt
    rw [if_neg hge]
end My

set_option Elab.async false
set_option linter.all false
set_option maxRecDepth 100000
set_option maxHeartbeats 4000000
namespace My
open PySem PySem.Spec PyProof.Rows L2 DL
open Evl (Ex)
/-! ### trees of pairs over ints: values, kinds -/
inductive T where
  | n (i : Int) | p (a b : T)
  deriving DecidableEq
def T.D : T → DL.D
  | .n i => .int i
  | .p a b => .tup [a.D, b.D]
def T.dep : T → Nat
  | .n _ => 0
  | .p a b => 1 + max a.dep b.dep
def T.isZ : T → Bool
  | .n i => decide (i = 0)
  | .p _ _ => false
theorem T.pure : ∀ t : T, t.D.pure = true
  | .n _ => rfl
  | .p a b => by
    show (a.D.pure && (b.D.pure && true)) = true
    rw [a.pure, b.pure] <;> rfl
theorem T.lay : ∀ t : T, t.D.py.canLay0 = true
  | .n _ => rfl
  | .p a b => by
    show (a.D.py.canLay0 && (b.D.py.canLay0 && true)) = true
    rw [a.lay, b.lay] <;> rfl
theorem T.pdep : ∀ t : T, t.D.py.depth ≤ t.dep
  | .n _ => Nat.le_refl 0
  | .p a b => by
    show max a.D.py.depth (max b.D.py.depth 0) + 1 ≤ 1 + max a.dep b.dep
    have h1 := a.pdep
    have h2 := b.pdep
    omega
theorem T.shaped {t : T} (h : t.dep ≤ 60) : SeqAt.shaped t.D.py = true := by
  unfold SeqAt.shaped
  rw [t.lay, Bool.true_and]
  have := t.pdep
  exact decide_eq_true (by omega)
/-- t == 0 -/
theorem eq_zero {t : T} (h : t.dep ≤ 60) {Φ : DL.D → Prop} (k : Φ (.bl t.isZ)) : dEqA t.D (.int 0) Φ := by
  cases t with
  | n i => exact k
  | p a b => exact ⟨T.pure _, rfl, T.shaped h, rfl, k⟩
def oD : Option T → DL.D
  | none => .non
  | some t => t.D
theorem oD_isNon (x : Option T) : (oD x).isNon = x.isNone := by
  cases x with
  | none => rfl
  | some t => cases t <;> rfl
theorem T.isNon (t : T) : t.D.isNon = false := by cases t <;> rfl
end My

set_option Elab.async false
set_option linter.all false
set_option maxRecDepth 100000
set_option maxHeartbeats 4000000
/-! list comprehensions, walks -/
namespace DL
open PySem PySem.Spec PyProof.Rows L2
open Evl (Ex)

/-! ### readings whatever the rest -/
def tOf (K : PySem.W.Frag) (r : RE) : TE := fun σ H Q => ∃ (Z : Zx) (M : Mem) (Δ : List Sl) (F : Hp) (Φ : D → List Sl → Mem → Prop), Cn K Z M σ H Δ F ∧ r Δ M Φ ∧ ∀ v H' d Δ' M' F', Ex F F' → Cn K Z M' σ H' Δ' F' → Rp K F' d v → Φ d Δ' M' → Q v H'
theorem pe_of {X : Cx} {e : Expr} {r : RE} (h : ∀ Z, QE X Z e r) : PE X e (tOf X.K r) := by
  refine ⟨fun pins s σ H Q I hw => ?_⟩
  obtain ⟨Z, M, Δ, F, Φ, c, k, q⟩ := hw
  obtain ⟨t, p, sim⟩ := h Z
  exact p.run pins s σ H Q I (sim M σ H Δ F Φ c k Q q)
def ttOf (K : PySem.W.Frag) (r : RT) : TT := fun σ H Q => ∃ (Z : Zx) (M : Mem) (Δ : List Sl) (F : Hp) (Φ : Bool → List Sl → Mem → Prop), Cn K Z M σ H Δ F ∧ r Δ M Φ ∧ ∀ b H' Δ' M' F', Ex F F' → Cn K Z M' σ H' Δ' F' → Φ b Δ' M' → Q b H'
theorem pts_of {X : Cx} {e : Expr} {r : RT} (h : ∀ Z, QT X Z e r) : PTs X [e] (ttOf X.K r) := by
  refine ⟨fun pins s σ H Q I hw => ?_⟩
  obtain ⟨Z, M, Δ, F, Φ, c, k, q⟩ := hw
  obtain ⟨t, p, sim⟩ := h Z
  exact (pts_one p).run pins s σ H Q I (sim M σ H Δ F Φ c k Q q)
def dYes : RT := fun Δ M Φ => Φ true Δ M
theorem pts_yes {X : Cx} : PTs X [] (ttOf X.K dYes) := by
  refine ⟨fun pins s σ H Q I hw => ?_⟩
  obtain ⟨Z, M, Δ, F, Φ, c, k, q⟩ := hw
  exact pts_nil.run pins s σ H Q I (q true H Δ M F (Ex.refl _) c k)

/-! ### what is walked -/
/-- J walks over the items ds, represented in F -/
def WalkD (K : PySem.W.Frag) (J : It) (ds : List D) (F : Hp) : Prop := ∃ (G : Hp → Prop) (Y : Nat → Hp → V → Hp → Prop), Walk J ds.length G Y ∧ (∀ H, Ex F H → G H) ∧
  ∀ i H x H1 d, ds[i]? = some d → Ex F H → Y i H x H1 → (H1 = H ∧ Rp K F d x) ∨ ∃ T vs es, x = .ref T ∧ H T = none ∧ H1 = upd H T (.tup vs) ∧ d = .tup es ∧ Rps K F es vs
theorem Cn.step {K : PySem.W.Frag} {Z : Zx} {M : Mem} {σ : L2.St} {H H1 F F0 : Hp} {Δ : List Sl} {d : D} {x : V} (c : Cn K Z M σ H Δ F) (e : Ex F0 F)
    (y : (H1 = H ∧ Rp K F0 d x) ∨ ∃ T vs es, x = .ref T ∧ H T = none ∧ H1 = upd H T (.tup vs) ∧ d = .tup es ∧ Rps K F0 es vs) : ∃ F1, Ex F F1 ∧ Cn K Z M σ H1 Δ F1 ∧ Rp K F1 d x := by
  rcases y with ⟨e1, r⟩ | ⟨T, vs, es, e1, hT, e2, e3, r⟩
  · subst e1
    exact ⟨F, Ex.refl _, c, rp_mono e _ _ r⟩
  · subst e1 e2 e3
    exact ⟨_, c.bs.exF hT _, c.new hT _, T, vs, rfl, SqT.of upd_same, rps_mono (e.trans (c.bs.exF hT _)) _ _ r⟩
abbrev RI := RA
def SimI (K : PySem.W.Frag) (Z : Zx) (w : TI) (r : RI) : Prop := ∀ (M : Mem) (σ : L2.St) (H : Hp) (Δ : List Sl) (F : Hp) (Φ : List D → List Sl → Mem → Prop), Cn K Z M σ H Δ F → r Δ M Φ →
  ∀ R : It → Hp → Prop, (∀ J H' ds Δ' M' F', Ex F F' → Cn K Z M' σ H' Δ' F' → WalkD K J ds F' → Φ ds Δ' M' → R J H') → w σ H R
def QI (X : Cx) (Z : Zx) (tg e : Expr) (r : RI) : Prop := ∃ w, PI X tg e w ∧ SimI X.K Z w r
def iOf (K : PySem.W.Frag) (r : RI) : TI := fun σ H R => ∃ (Z : Zx) (M : Mem) (Δ : List Sl) (F : Hp) (Φ : List D → List Sl → Mem → Prop), Cn K Z M σ H Δ F ∧ r Δ M Φ ∧ ∀ J H' ds Δ' M' F', Ex F F' → Cn K Z M' σ H' Δ' F' → WalkD K J ds F' → Φ ds Δ' M' → R J H'
theorem pi_of {X : Cx} {tg e : Expr} {r : RI} (h : ∀ Z, QI X Z tg e r) : PI X tg e (iOf X.K r) := by
  refine ⟨fun pins s σ H R I hw => ?_⟩
  obtain ⟨Z, M, Δ, F, Φ, c, k, q⟩ := hw
  obtain ⟨w, p, sim⟩ := h Z
  exact p.run pins s σ H R I (sim M σ H Δ F Φ c k R q)
theorem walkD_list {K : PySem.W.Frag} {F : Hp} {a : Addr} {xs : List V} {ds : List D} (hx : SqL K F a xs) (hr : Rps K F ds xs) : WalkD K (Itl K a) ds F := by
  refine ⟨fun H => SqL K H a xs, YAt xs, by rw [← rps_len hr]; exact walk_list (K := K) (a := a) (xs := xs), fun H e => Evl.ex_l e hx, fun i H x H1 d hd e y => .inl ⟨y.1, ?_⟩⟩
  obtain ⟨v, h1, h2⟩ := rps_get hr hd
  rw [y.2] at h1
  cases h1
  exact h2
theorem walkD_tup {K : PySem.W.Frag} {F : Hp} {a : Addr} {xs : List V} {ds : List D} (hx : SqT K F a xs) (hr : Rps K F ds xs) : WalkD K (Itt K a) ds F := by
  refine ⟨fun H => SqT K H a xs, YAt xs, by rw [← rps_len hr]; exact walk_tup (K := K) (a := a) (xs := xs), fun H e => Evl.ex_t e hx, fun i H x H1 d hd e y => .inl ⟨y.1, ?_⟩⟩
  obtain ⟨v, h1, h2⟩ := rps_get hr hd
  rw [y.2] at h1
  cases h1
  exact h2
theorem walkD_range {K : PySem.W.Frag} {F : Hp} {lo : Int} {n : Nat} : WalkD K (Itr lo n) (rangeD lo n) F := by
  refine ⟨fun _ => True, YFn fun i => .int (lo + i), by rw [rangeD_len]; exact walk_range (lo := lo) (n := n), fun H e => trivial, fun i H x H1 d hd e y => .inl ⟨y.1, ?_⟩⟩
  have hi : i < n := by
    have := (List.getElem?_eq_some_iff.mp hd).1
    rwa [rangeD_len] at this
  rw [rangeD_get hi] at hd
  cases hd
  exact y.2
/-- the items of what is frozen -/
def dItems (r : RE) : RI := fun Δ M Φ => r Δ M fun x Δ1 M1 => match x with
  | .lst ds => Φ ds Δ1 M1
  | .scr ns => Φ (ns.map .int) Δ1 M1
  | .tup ds => Φ ds Δ1 M1
  | _ => False
section
variable {X : Cx} {Z : Zx} {e a b tg : Expr} {ra rb r : RE} {pos : Pos}
theorem qi_seq (h : QE X Z e r) : QI X Z tg e (dItems r) := by
  obtain ⟨t, p, s⟩ := h
  refine ⟨_, pi_seq p, fun M σ H Δ F Φ c h R q => ?_⟩
  refine s M σ H Δ F _ c h _ fun v H1 y Δ1 M1 F1 e1 c1 r1 h1 => ?_
  cases y with
  | lst ds =>
    obtain ⟨a, vs, e2, g1, g2⟩ := r1
    exact ⟨a, e2, .inl ⟨⟨_, SqL.of (c1.bs.fH _ _ g1)⟩, q _ H1 ds Δ1 M1 F1 e1 c1 (walkD_list (SqL.of g1) g2) h1⟩⟩
  | scr ns =>
    obtain ⟨a, e2, g1⟩ := r1
    exact ⟨a, e2, .inl ⟨⟨_, Evl.ex_l c1.bs.fH g1⟩, q _ H1 _ Δ1 M1 F1 e1 c1 (walkD_list g1 (ints_rps ns)) h1⟩⟩
  | tup ds =>
    obtain ⟨a, vs, e2, g1, g2⟩ := r1
    exact ⟨a, e2, .inr ⟨⟨_, Evl.ex_t c1.bs.fH g1⟩, q _ H1 ds Δ1 M1 F1 e1 c1 (walkD_tup g1 g2) h1⟩⟩
  | _ => exact h1.elim
def dRng (r : RE) : RI := fun Δ M Φ => r Δ M fun x Δ1 M1 => match x with
  | .int k => (-(2 ^ 62) ≤ k ∧ k < 2 ^ 62) ∧ Φ (rangeD 0 k.toNat) Δ1 M1
  | _ => False
def dRng2 (ra rb : RE) : RI := fun Δ M Φ => ra Δ M fun x Δ1 M1 => rb Δ1 M1 fun y Δ2 M2 => match x, y with
  | .int lo, .int hi => (-(2 ^ 62) ≤ lo ∧ lo < 2 ^ 62 ∧ -(2 ^ 62) ≤ hi ∧ hi < 2 ^ 62) ∧ Φ (rangeD lo (hi - lo).toNat) Δ2 M2
  | _, _ => False
theorem qi_range {p2 p1 : Pos} (hg : Gl X "range") (hm : X.mg "range" = none) (h : QE X Z e r) (hst : starEach [e] X.env = [(false, eval e X.env)] := by rfl) : QI X Z tg (.Call (.Name "range" p1) [e] [] p2) (dRng r) := by
  obtain ⟨t, p, s⟩ := h
  refine ⟨_, pi_range1 hg hm (pa_cons p pa_nil hst) hst, fun M σ H Δ F Φ c h R q => ?_⟩
  refine s M σ H Δ F _ c h _ fun v H1 y Δ1 M1 F1 e1 c1 r1 h1 => ?_
  cases y with
  | int k => exact ⟨k, by rw [show v = .int k from r1], h1.1.1, h1.1.2, q _ H1 _ Δ1 M1 F1 e1 c1 walkD_range h1.2⟩
  | _ => exact h1.elim
theorem qi_range2 {p2 p1 : Pos} (hg : Gl X "range") (hm : X.mg "range" = none) (ha : QE X Z a ra) (hb : QE X Z b rb) (hst : starEach [a, b] X.env = [(false, eval a X.env), (false, eval b X.env)] := by rfl) (hst1 : starEach [a, b] X.env = (false, eval a X.env) :: starEach [b] X.env := by rfl) (hst2 : starEach [b] X.env = [(false, eval b X.env)] := by rfl) : QI X Z tg (.Call (.Name "range" p1) [a, b] [] p2) (dRng2 ra rb) := by
  obtain ⟨t, p, s⟩ := ha
  obtain ⟨t', p', s'⟩ := hb
  refine ⟨_, pi_range2 hg hm (pa_cons p (pa_cons p' pa_nil hst2) hst1) hst hst2, fun M σ H Δ F Φ c h R q => ?_⟩
  refine s M σ H Δ F _ c h _ fun v H1 y Δ1 M1 F1 e1 c1 r1 h1 => ?_
  refine s' M1 σ H1 Δ1 F1 _ c1 h1 _ fun v2 H2 y2 Δ2 M2 F2 e2 c2 r2 h2 => ?_
  split at h2
  · exact ⟨_, _, by rw [show v = _ from r1, show v2 = _ from r2], h2.1, q _ H2 _ Δ2 M2 F2 (e1.trans e2) c2 walkD_range h2.2⟩
  · exact h2.elim
end

/-! ### for over any walk -/
theorem loop_walk {K : PySem.W.Frag} {Z : Zx} {J : It} {ds : List D} {g : TG} {tg : RG} (hg : SimG K Z g tg) {js : List Nat} {t : TS} {u : RS} (hu : SimS K Z t u) {M : Mem} {σ : L2.St} {H F : Hp} {Δ : List Sl} {De : DE} {Dv : Ends} (c : Cn K Z M σ H Δ F)
    (w : WalkD K J ds F) (h : dLoopG tg js ds u De Δ M) (ok : EndsOk K Z F De Dv) :
    ∃ W : Nat → Nat → L2.St → Hp → Prop, (∃ m, W 0 m σ H) ∧ ∀ i m σ H, W i m σ H →
      (J.stop i H ∧ Dv.nx σ H) ∨ (J.go i H ∧ ∃ N : L2.St → Hp → Prop, (∀ σ' H', N σ' H' → ∃ m', m' < m ∧ W (i + 1) m' σ' H') ∧ ∀ x H', J.yld i H x H' → g x σ H' fun σ2 H2 => t { Dv with nx := N, ct := N, bk := Dv.nx } σ2 H2) := by
  obtain ⟨Pv, h0, hs, hd⟩ := h
  obtain ⟨G, Y, w, hG, hY⟩ := w
  refine for_it w (fun i σ H => ∃ Δ M F', Ex F F' ∧ Cn K Z M σ H Δ F' ∧ Pv i Δ M) ⟨_, M, F, Ex.refl _, cn_fgt js _ c, h0⟩ ?_ ?_ ?_
  · rintro i σ H _ ⟨Δ, M, F', e, c, _⟩
    exact hG H (e.trans c.bs.fH)
  · rintro i x σ H H' hi ⟨Δ, M, F', e, c, hp⟩ y
    have hd' : ds[i]? = some ds[i] := List.getElem?_eq_getElem hi
    obtain ⟨F2, e2, c2, r⟩ := c.step e (hY i H x H' _ hd' (e.trans c.bs.fH) y)
    exact hg M σ H' Δ F2 _ x _ c2 r (hs i _ Δ M hd' hp) _ fun σ2 Δ2 c3 h3 => hu M σ2 H' Δ2 F2 _ c3 h3 _ (endsLoop (js := js) (Pv := Pv) ok (e.trans e2) fun σ' H'' Δ' M' F'' e1 c' k => ⟨Δ', M', F'', (e.trans e2).trans e1, c', k⟩)
  · rintro σ H ⟨Δ, M, F', e, c, hp⟩
    exact ok.nx σ H Δ M F' e c (hd _ _ hp)
def dForI (tg : RG) (js : List Nat) (ri : RI) (u : RS) : RS := fun D Δ M => ri Δ M fun ds Δ1 M1 => dLoopG tg js ds u D Δ1 M1
theorem qs_forI {X : Cx} {Z : Zx} {pos : Pos} {tge : Expr} {g : TG} {tg : RG} {ri : RI} {js : List Nat} {body : List Stmt} {iter : Expr} {u : RS} (hp : PassesOwn (model X.prog X.w) X.A X.env X.xe) (hc : X.calm = true) (h : QI X Z tge iter ri) (hg : PG X tge g) (sg : SimG X.K Z g tg) (hb : QSs X Z body u)
    (hs : ∀ x, foldedSetIterable iter X.env x = pure x := by intro _; rfl) : QS X Z (.For tge iter body [] pos) (dForI tg js ri u) := by
  obtain ⟨w, p, s⟩ := h
  obtain ⟨tb, pb, sb⟩ := hb
  refine ⟨_, ps_for hp hc p hg pb hs, fun M σ H Δ F De c h Dv ok => ?_⟩
  exact s M σ H Δ F _ c h _ fun J H1 ds Δ1 M1 F1 e1 c1 w1 h1 => loop_walk sg sb c1 w1 h1 (ok.mono e1)

/-! ### slots forgotten in a block -/
def wipeD (Δ : List Sl) : List Nat → List Sl
  | [] => Δ
  | v :: vs => (wipeD Δ vs).set v .un
theorem Cn.wipe {K : PySem.W.Frag} {Z : Zx} {M : Mem} {σ : L2.St} {H F : Hp} {Δ : List Sl} (c : Cn K Z M σ H Δ F) : ∀ vs, Cn K Z M (L2.wipe σ vs) H (wipeD Δ vs) F
  | [] => c
  | v :: vs => (c.wipe vs).emptied v
theorem wipe_at {σ : L2.St} {i : Nat} : ∀ {vs : List Nat}, (L2.wipe σ vs)[i]? = if i ∈ vs then (if i < σ.length then some none else none) else σ[i]?
  | [] => by simp [L2.wipe]
  | v :: vs => by
    unfold L2.wipe
    by_cases e : v = i
    · subst e
      rw [if_pos List.mem_cons_self]
      by_cases hl : v < σ.length
      · rw [if_pos hl, List.getElem?_set_self (by rw [wipe_length]; exact hl)]
      · rw [if_neg hl, List.getElem?_eq_none (by rw [List.length_set, wipe_length]; omega)]
    · rw [List.getElem?_set_ne e, wipe_at (vs := vs)]
      have : (i ∈ v :: vs) ↔ i ∈ vs := by
        constructor
        · intro h
          rcases List.mem_cons.mp h with h | h
          · exact absurd h.symm e
          · exact h
        · exact fun h => List.mem_cons_of_mem _ h
      simp only [this]
theorem wipe_set {σ : L2.St} {j : Nat} {x : Option V} {vs : List Nat} (h : j ∈ vs) : L2.wipe (σ.set j x) vs = L2.wipe σ vs := by
  apply List.ext_getElem?
  intro i
  rw [wipe_at, wipe_at, List.length_set]
  by_cases hi : i ∈ vs
  · rw [if_pos hi, if_pos hi]
  · rw [if_neg hi, if_neg hi, List.getElem?_set_ne (by intro e; subst e; exact hi h)]
theorem wipe_wipe {σ : L2.St} {vs us : List Nat} (h : ∀ i ∈ us, i ∈ vs) : L2.wipe (L2.wipe σ us) vs = L2.wipe σ vs := by
  apply List.ext_getElem?
  intro i
  by_cases hi : i ∈ vs
  · rw [wipe_at (vs := vs), wipe_at (vs := vs), if_pos hi, if_pos hi, wipe_length]
  · rw [wipe_at (vs := vs), wipe_at (vs := vs), if_neg hi, if_neg hi, wipe_at, if_neg (fun e => hi (h i e))]
theorem wipeD_at {Δ : List Sl} {i : Nat} {s : Sl} : ∀ {vs : List Nat}, (wipeD Δ vs)[i]? = some s → (i ∈ vs ∧ s = .un) ∨ (i ∉ vs ∧ Δ[i]? = some s)
  | [], h => .inr ⟨by simp, h⟩
  | v :: vs, h => by
    unfold wipeD at h
    rcases get_set h with ⟨e, _, e2⟩ | ⟨e, h'⟩
    · exact .inl ⟨e ▸ List.mem_cons_self, e2⟩
    · rcases wipeD_at h' with ⟨h1, h2⟩ | ⟨h1, h2⟩
      · exact .inl ⟨List.mem_cons_of_mem _ h1, h2⟩
      · refine .inr ⟨fun hm => ?_, h2⟩
        rcases List.mem_cons.mp hm with hm | hm
        · exact e hm.symm
        · exact h1 hm
theorem wipeD_len {Δ : List Sl} : ∀ vs, (wipeD Δ vs).length = Δ.length
  | [] => rfl
  | v :: vs => by
    unfold wipeD
    rw [List.length_set, wipeD_len vs]
/-- behind the block: the slots of the def -/
theorem Cn.unwipe {K : PySem.W.Frag} {Z : Zx} {M : Mem} {σ : L2.St} {H F : Hp} {Δ : List Sl} {vs : List Nat} (c : Cn K Z M (L2.wipe σ vs) H Δ F) : Cn K Z M σ H (wipeD Δ vs) F where
  bs := c.bs
  len := by rw [wipeD_len, c.len, wipe_length]
  slot := fun i s h => by
    rcases wipeD_at h with ⟨_, e⟩ | ⟨h1, h2⟩
    · subst e; exact True.intro
    · have q := c.slot i s h2
      rw [wipe_at, if_neg h1] at q
      exact q
  sep := fun i j a ds es hne h1 h2 h3 h4 => by
    rcases wipeD_at h1 with ⟨_, e⟩ | ⟨n1, g1⟩
    · cases e
    rcases wipeD_at h2 with ⟨_, e⟩ | ⟨n2, g2⟩
    · cases e
    exact c.sep i j a ds es hne g1 g2 (by rw [wipe_at, if_neg n1]; exact h3) (by rw [wipe_at, if_neg n2]; exact h4)

/-! ### the list that is being made -/
section
variable {K : PySem.W.Frag} {Z : Zx} {M : Mem} {σ : L2.St} {H F : Hp} {Δ : List Sl} {p : Addr} {o o' : HO}
theorem Cn.guard (c : Cn K Z M σ H Δ F) (hp : H p = none) : Cn K ⟨upd Z.R p o, Z.F0⟩ M σ (upd H p o) Δ F where
  bs := {
    f0 := c.bs.f0
    fH := c.bs.fH.trans (Ex.new hp)
    rH := fun a u h => by
      by_cases e : a = p
      · subst e; rw [upd_same]; rw [show (⟨upd Z.R a o, Z.F0⟩ : Zx).R = upd Z.R a o from rfl, upd_same] at h; exact h
      · rw [show (⟨upd Z.R p o, Z.F0⟩ : Zx).R = upd Z.R p o from rfl, upd_ne e] at h; rw [upd_ne e]; exact c.bs.rH a u h
    fr := fun a u h => by
      have e : a ≠ p := fun e => by subst e; rw [c.bs.freeF hp] at h; cases h
      show upd Z.R p o a = none
      rw [upd_ne e]; exact c.bs.fr a u h
    mm := fun a u h => by
      have e : a ≠ p := fun e => by subst e; rw [c.bs.freeM hp] at h; cases h
      obtain ⟨h1, h2, h3⟩ := c.bs.mm a u h
      exact ⟨h1, by show upd Z.R p o a = none; rw [upd_ne e]; exact h2, by rw [upd_ne e]; exact h3⟩ }
  len := c.len
  slot := fun i s h => by
    have k := c.slot i s h
    cases s with
    | un => exact k
    | d d => exact k
    | own ds =>
      obtain ⟨a, vs, e1, h1, h2, h3, h4, h5⟩ := k
      have e : a ≠ p := ne_of_none h1 hp
      exact ⟨a, vs, e1, by rw [upd_ne e]; exact h1, h2, h3, by show upd Z.R p o a = none; rw [upd_ne e]; exact h4, h5⟩
  sep := c.sep
theorem Cn.guardF (c : Cn K ⟨upd Z.R p o, Z.F0⟩ M σ H Δ F) : F p = none ∧ M p = none ∧ H p = some o := by
  have hr : (⟨upd Z.R p o, Z.F0⟩ : Zx).R p = some o := upd_same
  refine ⟨?_, ?_, c.bs.rH p o hr⟩
  · cases h : F p with
    | none => rfl
    | some u => have := c.bs.fr p u h; rw [hr] at this; cases this
  · cases h : M p with
    | none => rfl
    | some u => have := (c.bs.mm p u h).2.1; rw [hr] at this; cases this
theorem Cn.reguard (c : Cn K ⟨upd Z.R p o, Z.F0⟩ M σ H Δ F) : Cn K ⟨upd Z.R p o', Z.F0⟩ M σ (upd H p o') Δ F := by
  obtain ⟨hF, hM, hH⟩ := c.guardF
  have ne : ∀ a, (⟨upd Z.R p o, Z.F0⟩ : Zx).R a = none → a ≠ p := fun a h e => by
    subst e
    rw [show (⟨upd Z.R a o, Z.F0⟩ : Zx).R a = some o from upd_same] at h
    cases h
  have cv : ∀ a, a ≠ p → (⟨upd Z.R p o, Z.F0⟩ : Zx).R a = none → (⟨upd Z.R p o', Z.F0⟩ : Zx).R a = none := fun a e h => by
    show upd Z.R p o' a = none
    rw [upd_ne e]
    rwa [show (⟨upd Z.R p o, Z.F0⟩ : Zx).R a = upd Z.R p o a from rfl, upd_ne e] at h
  exact {
    bs := {
      f0 := c.bs.f0
      fH := fun a u h => by
        have e : a ≠ p := fun e => by subst e; rw [hF] at h; cases h
        rw [upd_ne e]; exact c.bs.fH a u h
      rH := fun a u h => by
        by_cases e : a = p
        · subst e
          rw [show (⟨upd Z.R a o', Z.F0⟩ : Zx).R a = some o' from upd_same] at h
          rw [upd_same]; exact h
        · rw [show (⟨upd Z.R p o', Z.F0⟩ : Zx).R a = upd Z.R p o' a from rfl, upd_ne e] at h
          rw [upd_ne e]
          exact c.bs.rH a u (by show upd Z.R p o a = some u; rw [upd_ne e]; exact h)
      fr := fun a u h => cv a (fun e => by subst e; rw [hF] at h; cases h) (c.bs.fr a u h)
      mm := fun a u h => by
        have e : a ≠ p := fun e => by subst e; rw [hM] at h; cases h
        obtain ⟨h1, h2, h3⟩ := c.bs.mm a u h
        exact ⟨h1, cv a e h2, by rw [upd_ne e]; exact h3⟩ }
    len := c.len
    slot := fun i s h => by
      have k := c.slot i s h
      cases s with
      | un => exact k
      | d d => exact k
      | own ds =>
        obtain ⟨a, vs, e1, h1, h2, h3, h4, h5⟩ := k
        have e : a ≠ p := ne a h4
        exact ⟨a, vs, e1, by rw [upd_ne e]; exact h1, h2, h3, cv a e h4, h5⟩
    sep := c.sep }
noncomputable def hide (H : Hp) (p : Addr) : Hp := fun a => open Classical in if a = p then none else H a
theorem hide_same {H : Hp} {p : Addr} : hide H p p = none := by unfold hide; rw [if_pos rfl]
theorem hide_ne {H : Hp} {p a : Addr} (h : a ≠ p) : hide H p a = H a := by unfold hide; rw [if_neg h]
theorem upd_hide {H : Hp} {p : Addr} {o : HO} (h : H p = some o) : upd (hide H p) p o = H := by
  funext a
  by_cases e : a = p
  · subst e; rw [upd_same, h]
  · rw [upd_ne e, hide_ne e]
theorem Cn.unguard (c : Cn K ⟨upd Z.R p o, Z.F0⟩ M σ H Δ F) (hR : Z.R p = none) : Cn K Z M σ (hide H p) Δ F := by
  obtain ⟨hF, hM, hH⟩ := c.guardF
  have cv : ∀ a, (⟨upd Z.R p o, Z.F0⟩ : Zx).R a = none → a ≠ p ∧ Z.R a = none := fun a h => by
    have e : a ≠ p := fun e => by
      subst e
      rw [show (⟨upd Z.R a o, Z.F0⟩ : Zx).R a = some o from upd_same] at h
      cases h
    refine ⟨e, ?_⟩
    rwa [show (⟨upd Z.R p o, Z.F0⟩ : Zx).R a = upd Z.R p o a from rfl, upd_ne e] at h
  exact {
    bs := {
      f0 := c.bs.f0
      fH := fun a u h => by
        have e : a ≠ p := fun e => by subst e; rw [hF] at h; cases h
        rw [hide_ne e]; exact c.bs.fH a u h
      rH := fun a u h => by
        have e : a ≠ p := fun e => by subst e; rw [hR] at h; cases h
        rw [hide_ne e]
        exact c.bs.rH a u (by show upd Z.R p o a = some u; rw [upd_ne e]; exact h)
      fr := fun a u h => (cv a (c.bs.fr a u h)).2
      mm := fun a u h => by
        obtain ⟨h1, h2, h3⟩ := c.bs.mm a u h
        exact ⟨h1, (cv a h2).2, by rw [hide_ne (cv a h2).1]; exact h3⟩ }
    len := c.len
    slot := fun i s h => by
      have k := c.slot i s h
      cases s with
      | un => exact k
      | d d => exact k
      | own ds =>
        obtain ⟨a, vs, e1, h1, h2, h3, h4, h5⟩ := k
        exact ⟨a, vs, e1, by rw [hide_ne (cv a h4).1]; exact h1, h2, h3, (cv a h4).2, h5⟩
    sep := c.sep }
end
end DL

set_option Elab.async false
set_option linter.all false
set_option maxRecDepth 100000
set_option maxHeartbeats 4000000
/-! list comprehensions: the readings go through the items, no invariant is asked -/
namespace DL
open PySem PySem.Spec PyProof.Rows L2
open Evl (Ex)

/-- one clause: the items left, the slots of the block, what is made so far -/
def lcGo (vs : List Nat) (tg : RG) (rt : RT) (r : RE) : List D → List Sl → List D → Mem → (List D → List Sl → Mem → Prop) → Prop
  | [], Δ, acc, M, Ψ => Ψ acc Δ M
  | x :: xs, Δ, acc, M, Ψ => tg x Δ fun Δ1 => rt Δ1 M fun b Δ2 M2 => match b with
    | true => r Δ2 M2 fun d Δ3 M3 => lcGo vs tg rt r xs (wipeD Δ3 vs) (acc ++ [d]) M3 Ψ
    | false => lcGo vs tg rt r xs (wipeD Δ2 vs) acc M2 Ψ
/-- [r for tg in ri if rt] -/
def dLc (vs : List Nat) (ri : RI) (tg : RG) (rt : RT) (r : RE) : RA := fun Δ M Φ => ri Δ M fun ds Δ1 M1 => ds.length < sizeLine ∧ lcGo vs tg rt r ds (wipeD Δ1 vs) [] M1 fun acc Δ2 M2 => Φ acc (wipeD Δ2 vs) M2
/-- a target that stores only the block's slots -/
def SimGw (K : PySem.W.Frag) (vs : List Nat) (g : TG) (r : RG) : Prop := ∀ (Z : Zx) (M : Mem) (σ : L2.St) (H : Hp) (Δ : List Sl) (F : Hp) (d : D) (v : V) (Φ : List Sl → Prop), Cn K Z M σ H Δ F → Rp K F d v → r d Δ Φ →
  ∀ Q : L2.St → Hp → Prop, (∀ σ' Δ', Cn K Z M σ' H Δ' F → Φ Δ' → L2.wipe σ' vs = L2.wipe σ vs → Q σ' H) → g v σ H Q
theorem simGw_name {K : PySem.W.Frag} {vs : List Nat} {j : Nat} (h : j ∈ vs) : SimGw K vs (gName j) (tgN j) := fun Z M σ H Δ F d v Φ c r k Q q => q _ _ (c.set r j) k (wipe_set h)
theorem simGw_names {K : PySem.W.Frag} {vs : List Nat} {Z : Zx} {M : Mem} {H F : Hp} {Q : L2.St → Hp → Prop} : ∀ (is : List Nat) (ds : List D) (xs : List V) (σ : L2.St) (Δ : List Sl), (∀ i ∈ is, i ∈ vs) → Cn K Z M σ H Δ F → Rps K F ds xs → ds.length = is.length →
    (∀ σ', Cn K Z M σ' H ((is.zip ds).foldl (fun Δ p => Δ.set p.1 (.d p.2)) Δ) F → L2.wipe σ' vs = L2.wipe σ vs → Q σ' H) → gNames is xs σ H Q
  | [], [], xs, σ, Δ, _, c, r, _, q => by
    exact ⟨r, q σ c rfl⟩
  | i :: is, d :: ds, xs, σ, Δ, hv, c, r, hl, q => by
    obtain ⟨v, w, e, h1, h2⟩ := r
    exact ⟨v, w, e, simGw_names is ds w _ _ (fun j hj => hv j (List.mem_cons_of_mem _ hj)) (c.set h1 i) h2 (by simpa using hl) fun σ' c' e => q σ' c' (e.trans (wipe_set (hv i List.mem_cons_self)))⟩
  | [], _ :: _, _, _, _, _, _, _, hl, _ => by simp at hl
  | _ :: _, [], _, _, _, _, _, _, hl, _ => by simp at hl
theorem simGw_tup {K : PySem.W.Frag} {vs is : List Nat} (hv : ∀ i ∈ is, i ∈ vs) : SimGw K vs (gTup K is.length (gNames is)) (tgU is) := by
  intro Z M σ H Δ F d v Φ c r h Q q
  unfold tgU at h
  split at h
  · obtain ⟨a, xs, e, h1, h2⟩ := r
    exact ⟨a, xs, e, Evl.ex_t c.bs.fH h1, by rw [rps_len h2]; exact h.1, simGw_names is _ xs σ Δ hv c h2 h.1 fun σ' c' e => q σ' _ c' h.2 e⟩
  · exact h.elim

section
variable {K : PySem.W.Frag} {Z : Zx}
/-- between the turns: the new list at p -/
def LcAt (K : PySem.W.Frag) (Z : Zx) (F0 : Hp) (p : Addr) (σ : L2.St) (ds : List D) (G : List D → List Sl → List D → Mem → Prop) (i : Nat) (H : Hp) : Prop :=
  ∃ (Δ : List Sl) (M : Mem) (F : Hp) (acc : List D) (ws : List V), Ex F0 F ∧ Cn K ⟨upd Z.R p (.lst ws), Z.F0⟩ M σ H Δ F ∧ Rps K F acc ws ∧ acc.length ≤ i ∧ G (ds.drop i) Δ acc M
theorem drop_at' {α : Type} {l : List α} {i : Nat} (h : i < l.length) : l.drop i = l[i] :: l.drop (i + 1) := (List.drop_eq_getElem_cons h)
theorem simL_lc {vs : List Nat} {w : TI} {ri : RI} {g : TG} {tg : RG} {rt : RT} {r : RE} (hi : SimI K Z w ri) (hg : SimGw K vs g tg) : SimL K Z (tLc w g (ttOf K rt) (tOf K r) vs) (dLc vs ri tg rt r) := by
  intro M σ H Δ F Φ c h Q q
  refine hi M σ H Δ F _ c h _ fun J H1 ds Δ1 M1 F1 e1 c1 w1 h1 => ?_
  obtain ⟨hz, h1⟩ := h1
  intro p hp
  obtain ⟨G, Y, w1, hG, hY⟩ := w1
  have hpR : Z.R p = none := c1.bs.freeR hp
  refine lc_it w1 (LcAt K Z F1 p (L2.wipe σ vs) ds fun xs Δ acc M => lcGo vs tg rt r xs Δ acc M fun acc Δ2 M2 => Φ acc (wipeD Δ2 vs) M2) ?_ ?_ ?_ ?_
  · exact ⟨wipeD Δ1 vs, M1, F1, [], [], Ex.refl _, (c1.wipe vs).guard hp, rfl, Nat.le_refl _, h1⟩
  · rintro i H2 _ ⟨Δ2, M2, F2, acc, ws, e2, c2, _⟩
    exact hG H2 (e2.trans c2.bs.fH)
  · rintro i x H2 H3 hi' ⟨Δ2, M2, F2, acc, ws, e2, c2, ra, hl, hgo⟩ y
    obtain ⟨F3, e3, c3, rx⟩ := c2.step e2 (hY i H2 x H3 _ (List.getElem?_eq_getElem hi') (e2.trans c2.bs.fH) y)
    rw [drop_at' hi'] at hgo
    refine hg _ M2 _ H3 Δ2 F3 _ x _ c3 rx hgo _ fun σ4 Δ4 c4 h4 hw4 => ⟨by rw [hw4, wipe_wipe (fun i h => h)], ?_⟩
    refine ⟨_, M2, Δ4, F3, _, c4, h4, fun b H5 Δ5 M5 F5 e5 c5 h5 => ?_⟩
    have back : ∀ {H : Hp} {Δ : List Sl} {M : Mem} {F : Hp} {ws : List V}, Cn K ⟨upd Z.R p (.lst ws), Z.F0⟩ M σ4 H Δ F → Cn K ⟨upd Z.R p (.lst ws), Z.F0⟩ M (L2.wipe σ vs) H (wipeD Δ vs) F := fun {H Δ M F ws} c => by
      have q := c.wipe vs
      rw [hw4, wipe_wipe (fun i h => h)] at q
      exact q
    cases b with
    | false =>
      simp only [Bool.false_eq_true, if_false]
      exact ⟨wipeD Δ5 vs, M5, F5, acc, ws, (e2.trans e3).trans e5, back c5, rps_mono (e3.trans e5) _ _ ra, by omega, h5⟩
    | true =>
      simp only [if_true]
      refine ⟨_, M5, Δ5, F5, _, c5, h5, fun v H6 d Δ6 M6 F6 e6 c6 r6 h6 => ?_⟩
      refine ⟨ws, c6.guardF.2.2, by rw [rps_len ra]; omega, ?_⟩
      exact ⟨wipeD Δ6 vs, M6, F6, acc ++ [d], ws ++ [v], ((e2.trans e3).trans e5).trans e6, (back c6).reguard, rps_app (rps_mono ((e3.trans e5).trans e6) _ _ ra) (rps_one r6), by rw [List.length_append, List.length_singleton]; omega, h6⟩
  · rintro H2 ⟨Δ2, M2, F2, acc, ws, e2, c2, ra, hl, hgo⟩
    rw [List.drop_length] at hgo
    have hH : H2 p = some (.lst ws) := c2.guardF.2.2
    have := q p (hide H2 p) ws acc (wipeD Δ2 vs) M2 F2 (e1.trans e2) (c2.unguard hpR).unwipe hide_same ra hgo
    rw [upd_hide hH] at this
    exact this

/-- two clauses -/
def lcGo2 (vs us : List Nat) (tg : RG) (rt : RT) (ri1 : RI) (tg1 : RG) (rt1 : RT) (r : RE) : List D → List Sl → List D → Mem → (List D → List Sl → Mem → Prop) → Prop
  | [], Δ, acc, M, Ψ => Ψ acc Δ M
  | x :: xs, Δ, acc, M, Ψ => tg x Δ fun Δ1 => rt Δ1 M fun b Δ2 M2 => match b with
    | true => ri1 Δ2 M2 fun es Δ3 M3 => acc.length + es.length < sizeLine ∧ lcGo us tg1 rt1 r es (wipeD Δ3 us) acc M3 fun acc' Δ4 M4 => lcGo2 vs us tg rt ri1 tg1 rt1 r xs (wipeD Δ4 vs) acc' M4 Ψ
    | false => lcGo2 vs us tg rt ri1 tg1 rt1 r xs (wipeD Δ2 vs) acc M2 Ψ
def dLc2 (vs us : List Nat) (ri : RI) (tg : RG) (rt : RT) (ri1 : RI) (tg1 : RG) (rt1 : RT) (r : RE) : RA := fun Δ M Φ => ri Δ M fun ds Δ1 M1 => lcGo2 vs us tg rt ri1 tg1 rt1 r ds (wipeD Δ1 vs) [] M1 fun acc Δ2 M2 => Φ acc (wipeD Δ2 vs) M2
def LcAt2 (K : PySem.W.Frag) (Z : Zx) (F0 : Hp) (p : Addr) (σ : L2.St) (ds : List D) (G : List D → List Sl → List D → Mem → Prop) (i : Nat) (H : Hp) : Prop :=
  ∃ (Δ : List Sl) (M : Mem) (F : Hp) (acc : List D) (ws : List V), Ex F0 F ∧ Cn K ⟨upd Z.R p (.lst ws), Z.F0⟩ M σ H Δ F ∧ Rps K F acc ws ∧ G (ds.drop i) Δ acc M
def LcIn (K : PySem.W.Frag) (Z : Zx) (F0 : Hp) (p : Addr) (σ : L2.St) (ds : List D) (n : Nat) (G : List D → List Sl → List D → Mem → Prop) (i : Nat) (H : Hp) : Prop :=
  ∃ (Δ : List Sl) (M : Mem) (F : Hp) (acc : List D) (ws : List V), Ex F0 F ∧ Cn K ⟨upd Z.R p (.lst ws), Z.F0⟩ M σ H Δ F ∧ Rps K F acc ws ∧ acc.length ≤ n + i ∧ G (ds.drop i) Δ acc M
theorem simL_lc2 {vs us : List Nat} {w : TI} {ri ri1 : RI} {g g1 : TG} {tg tg1 : RG} {rt rt1 : RT} {r : RE} (hi : SimI K Z w ri) (hg : SimGw K vs g tg) (hg1 : SimGw K us g1 tg1) (hu : ∀ i ∈ us, i ∈ vs) :
    SimL K Z (tLc2 w g (ttOf K rt) (iOf K ri1) g1 (ttOf K rt1) (tOf K r) vs us) (dLc2 vs us ri tg rt ri1 tg1 rt1 r) := by
  intro M σ H Δ F Φ c h Q q
  refine hi M σ H Δ F _ c h _ fun J H1 ds Δ1 M1 F1 e1 c1 w1 h1 => ?_
  intro p hp
  obtain ⟨G, Y, w1, hG, hY⟩ := w1
  have hpR : Z.R p = none := c1.bs.freeR hp
  refine ⟨fun i m H => m = ds.length - i ∧ i ≤ ds.length ∧ LcAt2 K Z F1 p (L2.wipe σ vs) ds (fun xs Δ acc M => lcGo2 vs us tg rt ri1 tg1 rt1 r xs Δ acc M fun acc Δ2 M2 => Φ acc (wipeD Δ2 vs) M2) i H, ⟨_, rfl, Nat.zero_le _, wipeD Δ1 vs, M1, F1, [], [], Ex.refl _, (c1.wipe vs).guard hp, rfl, h1⟩, ?_⟩
  rintro i m H2 ⟨rfl, hle, Δ2, M2, F2, acc, ws, e2, c2, ra, hgo⟩
  have gH : G H2 := hG H2 (e2.trans c2.bs.fH)
  by_cases hi' : i < ds.length
  · refine .inr ⟨w1.goes i H2 hi' gH, LcAt2 K Z F1 p (L2.wipe σ vs) ds (fun xs Δ acc M => lcGo2 vs us tg rt ri1 tg1 rt1 r xs Δ acc M fun acc Δ2 M2 => Φ acc (wipeD Δ2 vs) M2) (i + 1), fun H' p' => ⟨ds.length - (i + 1), by omega, rfl, hi', p'⟩, fun x H3 y => ?_⟩
    obtain ⟨F3, e3, c3, rx⟩ := c2.step e2 (hY i H2 x H3 _ (List.getElem?_eq_getElem hi') (e2.trans c2.bs.fH) (w1.yields i H2 x H3 hi' gH y))
    rw [drop_at' hi'] at hgo
    refine hg _ M2 _ H3 Δ2 F3 _ x _ c3 rx hgo _ fun σ4 Δ4 c4 h4 hw4 => ⟨by rw [hw4, wipe_wipe (fun i h => h)], ?_⟩
    refine ⟨_, M2, Δ4, F3, _, c4, h4, fun b H5 Δ5 M5 F5 e5 c5 h5 => ?_⟩
    have back : ∀ {σ' : L2.St} {H : Hp} {Δ : List Sl} {M : Mem} {F : Hp} {ws : List V}, L2.wipe σ' vs = L2.wipe σ4 vs → Cn K ⟨upd Z.R p (.lst ws), Z.F0⟩ M σ' H Δ F → Cn K ⟨upd Z.R p (.lst ws), Z.F0⟩ M (L2.wipe σ vs) H (wipeD Δ vs) F := fun {σ' H Δ M F ws} e c => by
      have q := c.wipe vs
      rw [e, hw4, wipe_wipe (fun i h => h)] at q
      exact q
    cases b with
    | false =>
      simp only [Bool.false_eq_true, if_false]
      exact ⟨wipeD Δ5 vs, M5, F5, acc, ws, (e2.trans e3).trans e5, back rfl c5, rps_mono (e3.trans e5) _ _ ra, h5⟩
    | true =>
      simp only [if_true]
      refine ⟨_, M5, Δ5, F5, _, c5, h5, fun J1 H6 es Δ6 M6 F6 e6 c6 w6 h6 => ?_⟩
      obtain ⟨hz6, h6⟩ := h6
      obtain ⟨G1, Y1, w6, hG1, hY1⟩ := w6
      refine ⟨fun j k H => k = es.length - j ∧ j ≤ es.length ∧ LcIn K Z F6 p (L2.wipe σ4 us) es acc.length (fun xs Δ acc M => lcGo us tg1 rt1 r xs Δ acc M fun acc' Δ4 M4 => lcGo2 vs us tg rt ri1 tg1 rt1 r (ds.drop (i + 1)) (wipeD Δ4 vs) acc' M4 fun acc Δ2 M2 => Φ acc (wipeD Δ2 vs) M2) j H, ⟨_, rfl, Nat.zero_le _, wipeD Δ6 us, M6, F6, acc, ws, Ex.refl _, c6.wipe us, rps_mono ((e3.trans e5).trans e6) _ _ ra, Nat.le_refl _, h6⟩, ?_⟩
      rintro j k H7 ⟨rfl, hle7, Δ7, M7, F7, acc7, ws7, e7, c7, ra7, hl7, hgo7⟩
      have gH7 : G1 H7 := hG1 H7 (e7.trans c7.bs.fH)
      by_cases hj : j < es.length
      · refine .inr ⟨w6.goes j H7 hj gH7, LcIn K Z F6 p (L2.wipe σ4 us) es acc.length (fun xs Δ acc M => lcGo us tg1 rt1 r xs Δ acc M fun acc' Δ4 M4 => lcGo2 vs us tg rt ri1 tg1 rt1 r (ds.drop (i + 1)) (wipeD Δ4 vs) acc' M4 fun acc Δ2 M2 => Φ acc (wipeD Δ2 vs) M2) (j + 1), fun H' p' => ⟨es.length - (j + 1), by omega, rfl, hj, p'⟩, fun x8 H8 y8 => ?_⟩
        obtain ⟨F8, e8, c8, rx8⟩ := c7.step e7 (hY1 j H7 x8 H8 _ (List.getElem?_eq_getElem hj) (e7.trans c7.bs.fH) (w6.yields j H7 x8 H8 hj gH7 y8))
        rw [drop_at' hj] at hgo7
        refine hg1 _ M7 _ H8 Δ7 F8 _ x8 _ c8 rx8 hgo7 _ fun σ9 Δ9 c9 h9 hw9 => ⟨by rw [hw9, wipe_wipe (fun i h => h)], ?_⟩
        refine ⟨_, M7, Δ9, F8, _, c9, h9, fun b H10 Δ10 M10 F10 e10 c10 h10 => ?_⟩
        have back1 : ∀ {H : Hp} {Δ : List Sl} {M : Mem} {F : Hp} {ws : List V}, Cn K ⟨upd Z.R p (.lst ws), Z.F0⟩ M σ9 H Δ F → Cn K ⟨upd Z.R p (.lst ws), Z.F0⟩ M (L2.wipe σ4 us) H (wipeD Δ us) F := fun {H Δ M F ws} c => by
          have q := c.wipe us
          rw [hw9, wipe_wipe (fun i h => h)] at q
          exact q
        cases b with
        | false =>
          simp only [Bool.false_eq_true, if_false]
          exact ⟨wipeD Δ10 us, M10, F10, acc7, ws7, (e7.trans e8).trans e10, back1 c10, rps_mono (e8.trans e10) _ _ ra7, by omega, h10⟩
        | true =>
          simp only [if_true]
          refine ⟨_, M10, Δ10, F10, _, c10, h10, fun v H11 d Δ11 M11 F11 e11 c11 r11 h11 => ?_⟩
          refine ⟨ws7, c11.guardF.2.2, by rw [rps_len ra7]; omega, ?_⟩
          exact ⟨wipeD Δ11 us, M11, F11, acc7 ++ [d], ws7 ++ [v], ((e7.trans e8).trans e10).trans e11, (back1 c11).reguard, rps_app (rps_mono ((e8.trans e10).trans e11) _ _ ra7) (rps_one r11), by rw [List.length_append, List.length_singleton]; omega, h11⟩
      · have e : j = es.length := by omega
        subst e
        rw [List.drop_length] at hgo7
        exact .inl ⟨w6.stops H7 gH7, wipeD Δ7 vs, M7, F7, acc7, ws7, (((e2.trans e3).trans e5).trans e6).trans e7, back (wipe_wipe hu) c7, ra7, hgo7⟩
  · have e : i = ds.length := by omega
    subst e
    rw [List.drop_length] at hgo
    have hH : H2 p = some (.lst ws) := c2.guardF.2.2
    have := q p (hide H2 p) ws acc (wipeD Δ2 vs) M2 F2 (e1.trans e2) (c2.unguard hpR).unwipe hide_same ra hgo
    rw [upd_hide hH] at this
    exact .inl ⟨w1.stops H2 gH, this⟩
end

/-! ### the rules -/
section
variable {X : Cx} {Z : Zx} {elt tge iter tge1 iter1 : Expr} {ifs ifs1 : List Expr} {scope : Scope} {own : List (Str × Nat)} {us vs : List Nat} {pos : Pos} {g g1 : TG} {tg tg1 : RG} {ri ri1 : RI} {rt rt1 : RT} {r : RE}
theorem ql_lc (hc : X.calm = true) (hN : X.N.Nodup) (hi : QI X Z tge iter ri) (ok : BlkOk X.N X.env.scope scope own) (sg : SimGw X.K vs g tg)
    (hg : ∀ (s : Shared) (H : Hp) (C : Addr) (cl : List (Str × Addr)) (fp : List Addr), PG (X.blk s H scope (compEnvC scope cl C X.env) fp) tge g)
    (ht : ∀ (s : Shared) (H : Hp) (C : Addr) (cl : List (Str × Addr)) (fp : List Addr), PTs (X.blk s H scope (compEnvC scope cl C X.env) fp) ifs (ttOf X.K rt))
    (he : ∀ (s : Shared) (H : Hp) (C : Addr) (cl : List (Str × Addr)) (fp : List Addr) (Z : Zx), QE (X.blk s H scope (compEnvC scope cl C X.env) fp) Z elt r)
    (hs : ∀ x, foldedSetIterable iter X.env x = pure x := by intro _; rfl) (hv : own.map (·.2) = vs := by rfl) : QL X Z (.ListComp elt [⟨tge, iter, ifs, 0⟩] scope pos) (dLc vs ri tg rt r) := by
  subst hv
  obtain ⟨w, p, s⟩ := hi
  exact ⟨_, pe_lc (te := tOf X.K r) (tt := ttOf X.K rt) hc hN p ok hg ht (fun s H C cl fp => pe_of (X := X.blk s H scope (compEnvC scope cl C X.env) fp) (he s H C cl fp)) hs, simL_lc s sg⟩
theorem ql_lc2 (hc : X.calm = true) (hN : X.N.Nodup) (hi : QI X Z tge iter ri) (ok : BlkOk X.N X.env.scope scope own) (hu : ∀ i ∈ us, i ∈ vs) (sg : SimGw X.K vs g tg) (sg1 : SimGw X.K us g1 tg1)
    (hg : ∀ (s : Shared) (H : Hp) (C : Addr) (cl : List (Str × Addr)) (fp : List Addr), PG (X.blk s H scope (compEnvC scope cl C X.env) fp) tge g)
    (ht : ∀ (s : Shared) (H : Hp) (C : Addr) (cl : List (Str × Addr)) (fp : List Addr), PTs (X.blk s H scope (compEnvC scope cl C X.env) fp) ifs (ttOf X.K rt))
    (hi1 : ∀ (s : Shared) (H : Hp) (C : Addr) (cl : List (Str × Addr)) (fp : List Addr) (Z : Zx), QI (X.blk s H scope (compEnvC scope cl C X.env) fp) Z tge1 iter1 ri1)
    (hg1 : ∀ (s : Shared) (H : Hp) (C : Addr) (cl : List (Str × Addr)) (fp : List Addr), PG (X.blk s H scope (compEnvC scope cl C X.env) fp) tge1 g1)
    (ht1 : ∀ (s : Shared) (H : Hp) (C : Addr) (cl : List (Str × Addr)) (fp : List Addr), PTs (X.blk s H scope (compEnvC scope cl C X.env) fp) ifs1 (ttOf X.K rt1))
    (he : ∀ (s : Shared) (H : Hp) (C : Addr) (cl : List (Str × Addr)) (fp : List Addr) (Z : Zx), QE (X.blk s H scope (compEnvC scope cl C X.env) fp) Z elt r)
    (hs : ∀ x, foldedSetIterable iter X.env x = pure x := by intro _; rfl) (hs1 : ∀ env x, foldedSetIterable iter1 env x = pure x := by intro _ _; rfl) (hv : own.map (·.2) = vs := by rfl) :
    QL X Z (.ListComp elt [⟨tge, iter, ifs, 0⟩, ⟨tge1, iter1, ifs1, 0⟩] scope pos) (dLc2 vs us ri tg rt ri1 tg1 rt1 r) := by
  subst hv
  obtain ⟨w, p, s⟩ := hi
  exact ⟨_, pe_lc2 (te := tOf X.K r) (tt := ttOf X.K rt) (tt1 := ttOf X.K rt1) (wi1 := iOf X.K ri1) hc hN p ok hu hg ht (fun s H C cl fp => pi_of (X := X.blk s H scope (compEnvC scope cl C X.env) fp) (hi1 s H C cl fp)) hg1 ht1 (fun s H C cl fp => pe_of (X := X.blk s H scope (compEnvC scope cl C X.env) fp) (he s H C cl fp)) hs hs1, simL_lc2 s sg sg1 hu⟩
/-- x = [..] -/
theorem qs_setLc {i : Nat} {y : Str} {py spos : Pos} (hc : X.calm = true) (hN : X.N.Nodup) (hy : X.N[i]? = some y) (hyl : X.env.scope.names.lookup y = some .local)
    (hsw : swapsWith (.ListComp elt [⟨tge, iter, ifs, 0⟩] scope pos) (some (.Name y py)) spos.line X.env = pure true) (hi : QI X Z tge iter ri) (ok : BlkOk X.N X.env.scope scope own) (sg : SimGw X.K vs g tg)
    (hg : ∀ (s : Shared) (H : Hp) (C : Addr) (cl : List (Str × Addr)) (fp : List Addr), PG (X.blk s H scope (compEnvC scope cl C X.env) fp) tge g)
    (ht : ∀ (s : Shared) (H : Hp) (C : Addr) (cl : List (Str × Addr)) (fp : List Addr), PTs (X.blk s H scope (compEnvC scope cl C X.env) fp) ifs (ttOf X.K rt))
    (he : ∀ (s : Shared) (H : Hp) (C : Addr) (cl : List (Str × Addr)) (fp : List Addr) (Z : Zx), QE (X.blk s H scope (compEnvC scope cl C X.env) fp) Z elt r)
    (hs : ∀ x, foldedSetIterable iter X.env x = pure x := by intro _; rfl) (hv : own.map (·.2) = vs := by rfl) : QS X Z (.Assign [.Name y py] (.ListComp elt [⟨tge, iter, ifs, 0⟩] scope pos) spos) (dSetO i (dLc vs ri tg rt r)) := by
  subst hv
  obtain ⟨w, p, s⟩ := hi
  refine ⟨_, ps_setLc (i := i) (te := tOf X.K r) (tt := ttOf X.K rt) hc hN hy hyl hsw p ok hg ht (fun s H C cl fp => pe_of (X := X.blk s H scope (compEnvC scope cl C X.env) fp) (he s H C cl fp)) hs, fun M σ H Δ F De c h Dv ok => ?_⟩
  exact simL_lc s sg M σ H Δ F _ c h _ fun p H1 vs ds Δ1 M1 F1 e1 c1 hp r1 h1 => ok.nx _ _ _ M1 F1 e1 (c1.setOwn hp r1 i) h1
theorem qs_setLc2 {i : Nat} {y : Str} {py spos : Pos} (hc : X.calm = true) (hN : X.N.Nodup) (hy : X.N[i]? = some y) (hyl : X.env.scope.names.lookup y = some .local)
    (hsw : swapsWith (.ListComp elt [⟨tge, iter, ifs, 0⟩, ⟨tge1, iter1, ifs1, 0⟩] scope pos) (some (.Name y py)) spos.line X.env = pure true) (hi : QI X Z tge iter ri) (ok : BlkOk X.N X.env.scope scope own) (hu : ∀ i ∈ us, i ∈ vs) (sg : SimGw X.K vs g tg) (sg1 : SimGw X.K us g1 tg1)
    (hg : ∀ (s : Shared) (H : Hp) (C : Addr) (cl : List (Str × Addr)) (fp : List Addr), PG (X.blk s H scope (compEnvC scope cl C X.env) fp) tge g)
    (ht : ∀ (s : Shared) (H : Hp) (C : Addr) (cl : List (Str × Addr)) (fp : List Addr), PTs (X.blk s H scope (compEnvC scope cl C X.env) fp) ifs (ttOf X.K rt))
    (hi1 : ∀ (s : Shared) (H : Hp) (C : Addr) (cl : List (Str × Addr)) (fp : List Addr) (Z : Zx), QI (X.blk s H scope (compEnvC scope cl C X.env) fp) Z tge1 iter1 ri1)
    (hg1 : ∀ (s : Shared) (H : Hp) (C : Addr) (cl : List (Str × Addr)) (fp : List Addr), PG (X.blk s H scope (compEnvC scope cl C X.env) fp) tge1 g1)
    (ht1 : ∀ (s : Shared) (H : Hp) (C : Addr) (cl : List (Str × Addr)) (fp : List Addr), PTs (X.blk s H scope (compEnvC scope cl C X.env) fp) ifs1 (ttOf X.K rt1))
    (he : ∀ (s : Shared) (H : Hp) (C : Addr) (cl : List (Str × Addr)) (fp : List Addr) (Z : Zx), QE (X.blk s H scope (compEnvC scope cl C X.env) fp) Z elt r)
    (hs : ∀ x, foldedSetIterable iter X.env x = pure x := by intro _; rfl) (hs1 : ∀ env x, foldedSetIterable iter1 env x = pure x := by intro _ _; rfl) (hv : own.map (·.2) = vs := by rfl) :
    QS X Z (.Assign [.Name y py] (.ListComp elt [⟨tge, iter, ifs, 0⟩, ⟨tge1, iter1, ifs1, 0⟩] scope pos) spos) (dSetO i (dLc2 vs us ri tg rt ri1 tg1 rt1 r)) := by
  subst hv
  obtain ⟨w, p, s⟩ := hi
  refine ⟨_, ps_setLc2 (i := i) (te := tOf X.K r) (tt := ttOf X.K rt) (tt1 := ttOf X.K rt1) (wi1 := iOf X.K ri1) hc hN hy hyl hsw p ok hu hg ht (fun s H C cl fp => pi_of (X := X.blk s H scope (compEnvC scope cl C X.env) fp) (hi1 s H C cl fp)) hg1 ht1 (fun s H C cl fp => pe_of (X := X.blk s H scope (compEnvC scope cl C X.env) fp) (he s H C cl fp)) hs hs1, fun M σ H Δ F De c h Dv ok => ?_⟩
  exact simL_lc2 s sg sg1 hu M σ H Δ F _ c h _ fun p H1 vs ds Δ1 M1 F1 e1 c1 hp r1 h1 => ok.nx _ _ _ M1 F1 e1 (c1.setOwn hp r1 i) h1
end
end DL

set_option Elab.async false
set_option linter.all false
set_option maxRecDepth 100000
set_option maxHeartbeats 4000000
/-! sequences: list(), tuple(), stars, sums, slices and multiples of tuples, stores into own lists, ranges as values -/
namespace DL
open PySem PySem.Spec PyProof.Rows L2
open Evl (Ex)

/-- the items of a sequence, wherever it is -/
def dSq (M : Mem) (x : D) (Φ : List D → Prop) : Prop := match x with
  | .lst ds => Φ ds
  | .tup ds => Φ ds
  | .scr ns => Φ (ns.map .int)
  | .ref p => ∃ ds, M p = some (.lst ds) ∧ Φ ds
  | _ => False
section
variable {K : PySem.W.Frag} {Z : Zx} {M : Mem} {σ : L2.St} {H F : Hp} {Δ : List Sl}
theorem Cn.sq (c : Cn K Z M σ H Δ F) {x : D} {v : V} {Φ : List D → Prop} (r : Rp K F x v) (h : dSq M x Φ) : ∃ p vs ds, v = .ref p ∧ (SqL K H p vs ∨ SqT K H p vs) ∧ Rps K F ds vs ∧ Φ ds ∧ ((∃ es, x = .tup es ∧ ds = es ∧ SqT K H p vs) ∨ (∀ es, x ≠ .tup es) ∧ SqL K H p vs) := by
  cases x with
  | lst ds =>
    obtain ⟨p, vs, e, g1, g2⟩ := r
    exact ⟨p, vs, ds, e, .inl (SqL.of (c.bs.fH _ _ g1)), g2, h, .inr ⟨(by intro es e; cases e), SqL.of (c.bs.fH _ _ g1)⟩⟩
  | tup ds =>
    obtain ⟨p, vs, e, g1, g2⟩ := r
    exact ⟨p, vs, ds, e, .inr (Evl.ex_t c.bs.fH g1), g2, h, .inl ⟨ds, rfl, rfl, Evl.ex_t c.bs.fH g1⟩⟩
  | scr ns =>
    obtain ⟨p, e, g1⟩ := r
    exact ⟨p, _, _, e, .inl (Evl.ex_l c.bs.fH g1), ints_rps ns, h, .inr ⟨(by intro es e; cases e), Evl.ex_l c.bs.fH g1⟩⟩
  | ref p =>
    obtain ⟨ds, hM, h⟩ := h
    obtain ⟨vs, g1, g2⟩ := c.bs.lstM hM
    exact ⟨p, vs, ds, r, .inl (SqL.of g1), g2, h, .inr ⟨(by intro es e; cases e), SqL.of g1⟩⟩
  | _ => exact h.elim
end
section
variable {X : Cx} {Z : Zx} {e a b o : Expr} {ra rb r : RE} {pos apos : Pos} {es : List Expr} {rl : RA} {n : Nat} {K : PySem.W.Frag}

/-! ### list(e), tuple(e) -/
def dLst (r : RE) : RA := fun Δ M Φ => r Δ M fun x Δ1 M1 => dSq M1 x fun ds => Φ ds Δ1 M1
theorem ql_list {p : Pos} (hg : Gl X "list") (hm : X.mg "list" = none) (h : QE X Z e r) (he : starEach [e] X.env = (false, eval e X.env) :: starEach [] X.env := by rfl) (hpl : (backTo pos (starEach [] X.env)).any (·.1) = false := by rfl) : QL X Z (.Call (.Name "list" p) [e] [] pos) (dLst r) := by
  obtain ⟨t, p, s⟩ := h
  refine ⟨_, pe_callTy call_list_of hg hm (by decide +kernel) (pa_cons p pa_nil he) (by decide) (by decide) he hpl, fun M σ H Δ F Φ c h Q q => ?_⟩
  refine s M σ H Δ F _ c h _ fun v H1 x Δ1 M1 F1 e1 c1 r1 h1 => ?_
  obtain ⟨p, vs, ds, ev, hs, g, hΦ, _⟩ := c1.sq r1 h1
  exact ⟨p, vs, by rw [ev], hs, fun l hl => q l H1 vs ds Δ1 M1 F1 e1 c1 hl g hΦ⟩
def dTpl (r : RE) : RE := fun Δ M Φ => r Δ M fun x Δ1 M1 => dSq M1 x fun ds => Φ (.tup ds) Δ1 M1
theorem qe_tuple {p : Pos} (hg : Gl X "tuple") (hm : X.mg "tuple" = none) (h : QE X Z e r) (he : starEach [e] X.env = (false, eval e X.env) :: starEach [] X.env := by rfl) (hpl : (backTo pos (starEach [] X.env)).any (·.1) = false := by rfl) : QE X Z (.Call (.Name "tuple" p) [e] [] pos) (dTpl r) := by
  obtain ⟨t, p, s⟩ := h
  refine ⟨_, pe_callTy call_tuple_of hg hm (by decide +kernel) (pa_cons p pa_nil he) (by decide) (by decide) he hpl, fun M σ H Δ F Φ c h Q q => ?_⟩
  refine s M σ H Δ F _ c h _ fun v H1 x Δ1 M1 F1 e1 c1 r1 h1 => ?_
  obtain ⟨p, vs, ds, ev, _, g, hΦ, hs⟩ := c1.sq r1 h1
  refine ⟨p, vs, by rw [ev], ?_⟩
  rcases hs with ⟨es, ex, ed, ht⟩ | ⟨_, hl⟩
  · refine .inr ⟨ht, ?_⟩
    subst ex ed
    rw [ev] at r1
    exact q _ H1 _ Δ1 M1 F1 e1 c1 r1 hΦ
  · refine .inl ⟨hl, fun l hp => ?_⟩
    exact q _ _ (.tup ds) Δ1 M1 _ (e1.trans (c1.bs.exF hp _)) (c1.new hp _) ⟨l, vs, rfl, SqT.of upd_same, rps_mono (c1.bs.exF hp _) _ _ g⟩ hΦ
def dLstR (r : RE) : RA := fun Δ M Φ => r Δ M fun x Δ1 M1 => match x with
  | .int k => (0 ≤ k ∧ k ≤ 16777216) ∧ Φ (rangeD 0 k.toNat) Δ1 M1
  | _ => False
theorem rps_range {K : PySem.W.Frag} {F : Hp} {f : Nat → Int} : ∀ (l : List Nat), Rps K F (l.map fun i => .int (f i)) (l.map fun i => .int (f i))
  | [] => rfl
  | i :: l => ⟨_, _, rfl, rfl, rps_range l⟩
theorem ql_listR {p p1 p2 : Pos} (hc : X.calm = true) (hg : Gl X "list") (hm : X.mg "list" = none) (hg2 : Gl X "range") (hm2 : X.mg "range" = none) (h : QE X Z e r) (he : starEach [e] X.env = (false, eval e X.env) :: starEach [] X.env := by rfl)
    (he2 : starEach [.Call (.Name "range" p1) [e] [] p2] X.env = (false, eval (.Call (.Name "range" p1) [e] [] p2) X.env) :: starEach [] X.env := by rfl) : QL X Z (.Call (.Name "list" p) [.Call (.Name "range" p1) [e] [] p2] [] pos) (dLstR r) := by
  obtain ⟨t, p, s⟩ := h
  refine ⟨_, pe_listRg hc hg hm (prg_1 hg2 hm2 p he) he2, fun M σ H Δ F Φ c h Q q => ?_⟩
  refine s M σ H Δ F _ c h _ fun v H1 x Δ1 M1 F1 e1 c1 r1 h1 => ?_
  cases x with
  | int k =>
    refine ⟨k, r1, RgOk.of_le (by omega) (by omega) (by omega) h1.1.1, fun l hl => ?_⟩
    refine q l H1 _ _ Δ1 M1 F1 e1 c1 hl ?_ h1.2
    unfold rangeD rgV
    rw [show (k - 0).toNat = k.toNat by congr 1; omega]
    have : (fun i : Nat => V.int (0 + (i : Int) * 1)) = fun i : Nat => V.int (0 + (i : Int)) := by
      funext i; rw [Int.mul_one]
    first
      | (rw [this]; exact rps_range _)
      | exact rps_range _
  | _ => exact h1.elim

/-! ### tuples with stars -/
def SimB (K : PySem.W.Frag) (Z : Zx) (t : TA) (r : RA) : Prop := ∀ (M : Mem) (σ : L2.St) (H : Hp) (Δ : List Sl) (F : Hp) (Φ : List D → List Sl → Mem → Prop), Cn K Z M σ H Δ F → r Δ M Φ →
  ∀ Q : List V → Hp → Prop, (∀ vs H' ds Δ' M' F', Ex F F' → Cn K Z M' σ H' Δ' F' → Rps K F' ds vs → Φ ds Δ' M' → Q vs H') → t σ H Q
def QB (X : Cx) (Z : Zx) (es : List Expr) (r : RA) : Prop := ∃ t, PA X es t ∧ SimB X.K Z t r
theorem qb_nil : QB X Z [] dNil := ⟨_, pa_nil, fun M σ H Δ F Φ c h Q q => q [] H [] Δ M F (Ex.refl _) c rfl h⟩
theorem qb_cons (he : QE X Z e r) (hr : QB X Z es rl) (hs : starEach (e :: es) X.env = (false, eval e X.env) :: starEach es X.env := by rfl) : QB X Z (e :: es) (dCons r rl) := by
  obtain ⟨t, p, s⟩ := he
  obtain ⟨u, p', s'⟩ := hr
  refine ⟨_, pa_cons p p' hs, fun M σ H Δ F Φ c h Q q => ?_⟩
  refine s M σ H Δ F _ c h _ fun v H1 x Δ1 M1 F1 e1 c1 r1 h1 => ?_
  refine s' M1 σ H1 Δ1 F1 _ c1 h1 _ fun vs H2 ds Δ2 M2 F2 e2 c2 r2 h2 => ?_
  exact q _ H2 (x :: ds) Δ2 M2 F2 (e1.trans e2) c2 ⟨v, vs, rfl, rp_mono e2 _ _ r1, r2⟩ h2
def dStar (r : RE) (rl : RA) : RA := fun Δ M Φ => r Δ M fun x Δ1 M1 => dSq M1 x fun ds => rl Δ1 M1 fun fs Δ2 M2 => Φ (ds ++ fs) Δ2 M2
theorem qb_star {p : Pos} (he : QE X Z e r) (hr : QB X Z es rl) (hs : starEach (.Starred e p :: es) X.env = (true, eval e X.env) :: starEach es X.env := by rfl) : QB X Z (.Starred e p :: es) (dStar r rl) := by
  obtain ⟨t, pe, s⟩ := he
  obtain ⟨u, p', s'⟩ := hr
  refine ⟨_, StX.pa_star pe p' hs, fun M σ H Δ F Φ c h Q q => ?_⟩
  refine s M σ H Δ F _ c h _ fun v H1 x Δ1 M1 F1 e1 c1 r1 h1 => ?_
  obtain ⟨p, vs, ds, ev, hq, g, h2, _⟩ := c1.sq r1 h1
  refine ⟨p, vs, ev, hq.symm, ?_⟩
  refine s' M1 σ H1 Δ1 F1 _ c1 h2 _ fun ws H2 fs Δ2 M2 F2 e2 c2 r2 h2 => ?_
  exact q _ H2 (ds ++ fs) Δ2 M2 F2 (e1.trans e2) c2 (rps_app (rps_mono e2 _ _ g) r2) h2
def dTupB (rl : RA) : RE := fun Δ M Φ => rl Δ M fun ds Δ1 M1 => ds.length ≤ sizeLine ∧ Φ (.tup ds) Δ1 M1
theorem qe_tupB {x1} (h : QB X Z es rl) : QE X Z (.Tuple es x1 pos) (dTupB rl) := by
  obtain ⟨t, p, s⟩ := h
  refine ⟨_, pe_tup p, fun M σ H Δ F Φ c h Q q => ?_⟩
  refine s M σ H Δ F _ c h _ fun vs H1 ds Δ1 M1 F1 e1 c1 r1 h1 => ?_
  refine ⟨by rw [rps_len r1]; exact h1.1, fun p hp => ?_⟩
  exact q _ _ (.tup ds) Δ1 M1 _ (e1.trans (c1.bs.exF hp _)) (c1.new hp _) ⟨p, vs, rfl, SqT.of upd_same, rps_mono (c1.bs.exF hp _) _ _ r1⟩ h1.2

/-! ### t + u, t * n, t[a:b] -/
def dAddT : D → D → (D → Prop) → Prop := fun x y Φ => match x, y with
  | .tup xs, .tup ys => xs.length + ys.length ≤ sizeLine ∧ Φ (.tup (xs ++ ys))
  | _, _ => dAdd x y Φ
theorem rps_nil_iff {F : Hp} {ds : List D} {vs : List V} (h : Rps K F ds vs) : vs = [] ↔ ds = [] := by
  have := rps_len h
  constructor <;> intro e <;> subst e
  · exact List.eq_nil_of_length_eq_zero this.symm
  · exact List.eq_nil_of_length_eq_zero this
theorem od_catA : OpD K (rCatA K) fun x y Φ => match x, y with
    | .tup xs, .tup ys => xs.length + ys.length ≤ sizeLine ∧ Φ (.tup (xs ++ ys))
    | _, _ => False := by
  intro Z M σ H Δ F x y v w Φ c rx ry k Q q
  cases x with
  | tup xs =>
    cases y with
    | tup ys =>
      obtain ⟨hz, k⟩ := k
      obtain ⟨a, vs, ea, g1, g2⟩ := id rx
      obtain ⟨b, ws, eb, g3, g4⟩ := id ry
      refine ⟨a, b, vs, ws, ea, eb, Evl.ex_t c.bs.fH g1, Evl.ex_t c.bs.fH g3, by rw [rps_len g2, rps_len g4]; exact hz, fun e => ?_, fun e1 e2 => ?_, fun e1 e2 p hp => ?_⟩
      · have : xs = [] := (rps_nil_iff g2).mp e
        subst this
        rw [← eb]
        exact q _ H (.tup ys) F (Ex.refl _) c ry k
      · have : ys = [] := (rps_nil_iff g4).mp e2
        subst this
        rw [← ea]
        rw [List.append_nil] at k
        exact q _ H (.tup xs) F (Ex.refl _) c rx k
      · exact q _ _ (.tup (xs ++ ys)) _ (c.bs.exF hp _) (c.new hp _) ⟨p, _, rfl, SqT.of upd_same, rps_mono (c.bs.exF hp _) _ _ (rps_app g2 g4)⟩ k
    | _ => exact k.elim
  | _ => exact k.elim
def dRepT : D → D → (D → Prop) → Prop := fun x y Φ => match x, y with
  | .tup xs, .int k => (xs ≠ [] ∧ 2 ≤ k ∧ k ≤ 1000 ∧ xs.length ≤ 1000) ∧ Φ (.tup (List.replicate k.toNat xs).flatten)
  | _, _ => False
theorem rps_flat_rep {F : Hp} {ds : List D} {vs : List V} (h : Rps K F ds vs) : ∀ m, Rps K F (List.replicate m ds).flatten (List.replicate m vs).flatten
  | 0 => rfl
  | m + 1 => by
    rw [List.replicate_succ, List.replicate_succ, List.flatten_cons, List.flatten_cons]
    exact rps_app h (rps_flat_rep h m)
theorem od_repT : OpD K (rRepT K) dRepT := by
  intro Z M σ H Δ F x y v w Φ c rx ry k Q q
  cases x with
  | tup xs =>
    cases y with
    | int k' =>
      obtain ⟨⟨h0, h1, h2, h3⟩, k⟩ := k
      obtain ⟨a, vs, ea, g1, g2⟩ := id rx
      refine ⟨a, k', vs, ea, ry, Evl.ex_t c.bs.fH g1, fun e => h0 ((rps_nil_iff g2).mp e), h1, h2, by rw [rps_len g2]; exact h3, fun p hp => ?_⟩
      exact q _ _ (.tup _) _ (c.bs.exF hp _) (c.new hp _) ⟨p, _, rfl, SqT.of upd_same, rps_mono (c.bs.exF hp _) _ _ (rps_flat_rep g2 _)⟩ k
    | _ => exact k.elim
  | _ => exact k.elim
theorem qe_repT (ha : QE X Z a ra) (hb : QE X Z b rb) : QE X Z (.BinOp a .Mult b pos) (dOp dRepT ra rb) := qe_bin op_repT od_repT ha hb
def dSlA (r : RE) (rl rh : RO) : RE := fun Δ M Φ => r Δ M fun x Δ1 M1 => rl Δ1 M1 fun lo Δ2 M2 => rh Δ2 M2 fun hi Δ3 M3 => match x with
  | .str z => z.length ≤ sizeLine ∧ Φ (.str (cutS z lo hi)) Δ3 M3
  | .lst ds => Φ (.lst (cutD ds lo hi)) Δ3 M3
  | .scr ns => Φ (.lst (cutD (ns.map .int) lo hi)) Δ3 M3
  | .tup ds => Φ (.tup (cutD ds lo hi)) Δ3 M3
  | .ref p => ∃ ds, M3 p = some (.lst ds) ∧ Φ (.lst (cutD ds lo hi)) Δ3 M3
  | _ => False
theorem sl_every : SlR X (fun x lo hi H Q => (rSlS x lo hi H Q ∨ rSlL X.K x lo hi H Q) ∨ rSlA X.K x lo hi H Q) := SlR.or sl_all sl_tupA
theorem cut_whole {ds : List D} {lo hi : Option Int} (h : HT.sIx ds.length 0 lo = 0 ∧ HT.sIx ds.length ds.length hi = ds.length) : cutD ds lo hi = ds := by
  unfold cutD
  rw [h.1, h.2, List.drop_zero, Nat.sub_zero, List.take_length]
theorem qe_slA {lo hi : Option Expr} {rl rh : RO} {p2 : Pos} (h : QE X Z e r) (hl : QO X Z lo rl) (hh : QO X Z hi rh) : QE X Z (.Subscript e (.Slice lo hi none p2) pos) (dSlA r rl rh) := by
  obtain ⟨t, p, s⟩ := h
  obtain ⟨tl, pl, sl⟩ := hl
  obtain ⟨th, ph, sh⟩ := hh
  refine ⟨_, pe_slice sl_every p pl ph, fun M σ H Δ F Φ c h Q q => ?_⟩
  refine s M σ H Δ F _ c h _ fun v H1 x Δ1 M1 F1 e1 c1 r1 h1 => ?_
  refine sl M1 σ H1 Δ1 F1 _ c1 h1 _ fun lo H2 Δ2 M2 F2 e2 c2 h2 => ?_
  refine sh M2 σ H2 Δ2 F2 _ c2 h2 _ fun hi H3 Δ3 M3 F3 e3 c3 h3 => ?_
  have r3 : Rp X.K F3 x v := rp_mono (e2.trans e3) _ _ r1
  have eF := (e1.trans e2).trans e3
  have cut : ∀ {ds : List D} {vs : List V}, Rps X.K F3 ds vs → Rps X.K F3 (cutD ds lo hi) (cutV vs lo hi) := fun {ds vs} g => by
    unfold cutD cutV
    rw [rps_len g]
    exact rps_take _ (rps_drop _ g)
  have key : ∀ (ds : List D) (p : Addr) (vs : List V), v = .ref p → SqL X.K H3 p vs → Rps X.K F3 ds vs → Φ (.lst (cutD ds lo hi)) Δ3 M3 → rSlL X.K v lo hi H3 Q := fun ds p vs ev g1 g2 hΦ => by
    refine ⟨p, vs, ev, g1, fun p' hp => ?_⟩
    exact q _ _ (.lst (cutD ds lo hi)) Δ3 M3 _ (eF.trans (c3.bs.exF hp _)) (c3.new hp _) ⟨p', _, rfl, upd_same, rps_mono (c3.bs.exF hp _) _ _ (cut g2)⟩ hΦ
  cases x with
  | str z => exact .inl (.inl ⟨z, r3, h3.1, q _ H3 (.str _) Δ3 M3 F3 eF c3 rfl h3.2⟩)
  | lst ds =>
    obtain ⟨p, vs, ev, g1, g2⟩ := r3
    exact .inl (.inr (key ds p vs ev (SqL.of (c3.bs.fH _ _ g1)) g2 h3))
  | scr ns =>
    obtain ⟨p, ev, g1⟩ := r3
    exact .inl (.inr (key _ p _ ev (Evl.ex_l c3.bs.fH g1) (ints_rps ns) h3))
  | ref p =>
    obtain ⟨ds, hM, hΦ⟩ := h3
    obtain ⟨vs, g1, g2⟩ := c3.bs.lstM hM
    exact .inl (.inr (key ds p vs r3 (SqL.of g1) g2 hΦ))
  | tup ds =>
    obtain ⟨p, vs, ev, g1, g2⟩ := id r3
    refine .inr ⟨p, vs, ev, Evl.ex_t c3.bs.fH g1, fun hw => ?_, fun _ p' hp => ?_⟩
    · rw [rps_len g2] at hw
      have hΦ : Φ (.tup (cutD ds lo hi)) Δ3 M3 := h3
      rw [cut_whole hw] at hΦ
      rw [← ev]
      exact q _ H3 (.tup ds) Δ3 M3 F3 eF c3 r3 hΦ
    · exact q _ _ (.tup (cutD ds lo hi)) Δ3 M3 _ (eF.trans (c3.bs.exF hp _)) (c3.new hp _) ⟨p', _, rfl, SqT.of upd_same, rps_mono (c3.bs.exF hp _) _ _ (cut g2)⟩ h3
  | _ => exact h3.elim

/-! ### own[i] = e -/
def dStoO (j : Nat) (rv ri : RE) : RS := fun De Δ M => rv Δ M fun z Δ1 M1 => isOwn Δ1 j ∧ ri Δ1 M1 fun y Δ2 M2 => match Δ2[j]?, y with
  | some (.own ds), .int k => ∃ i, ixN ds.length k = some i ∧ De.nx (Δ2.set j (.own (ds.set i z))) M2
  | _, _ => False
theorem qs_stoO {rv ri : RE} {i value : Expr} {p' p2 : Pos} {x : Str} (j : Nat) (hv : QE X Z value rv) (hi : QE X Z i ri) (hN : X.N[j]? = some x := by rfl) (hvis : Vis X.env.scope x := by first | exact Or.inl rfl | exact Or.inr (Or.inl rfl) | exact Or.inr (Or.inr rfl)) (hd : (x == ("__debug__" : Str)) = false := by decide)
    (hcd : (x == ("__classdict__" : Str)) = false := by decide) (hg : ∀ to ti, PE X (.Name x p2) to → PE X i ti → PG X (.Subscript (.Name x p2) i p') (gSub to ti rSetL) := by intro to ti h1 h2; exact pg_sub h1 h2 set_list)
    (hs : swapsWithSole [.Subscript (.Name x p2) i p'] value pos.line X.env = pure false := by rfl) (hw : swappedStores [.Subscript (.Name x p2) i p'] value X.env = pure none := by rfl)
    (h1 : (assignEach [.Subscript (.Name x p2) i p'] X.env).map (·.2) = [assign (.Subscript (.Name x p2) i p') X.env] := by rfl) : QS X Z (.Assign [.Subscript (.Name x p2) i p'] value pos) (dStoO j rv ri) := by
  obtain ⟨tv, pv, sv⟩ := hv
  obtain ⟨ti, pi, si⟩ := hi
  refine ⟨_, ps_asg pv (hg _ ti (pe_var (i := j) hN hvis hd hcd) pi) hs hw h1, fun M σ H Δ F De c h Dv ok => ?_⟩
  refine sv M σ H Δ F _ c h _ fun v H1 z Δ1 M1 F1 e1 c1 r1 h1 => ?_
  obtain ⟨⟨ds0, h0⟩, h1⟩ := h1
  obtain ⟨p0, vs0, hv0, _⟩ := c1.slot j _ h0
  refine ⟨.ref p0, hv0, ?_⟩
  refine si M1 σ H1 Δ1 F1 _ c1 h1 _ fun u H2 y Δ2 M2 F2 e2 c2 r2 h2 => ?_
  split at h2
  · rename_i ds k hj
    obtain ⟨i, hi, hΦ⟩ := h2
    obtain ⟨p, vs, ev, g1, g2, g3, g4, g5⟩ := c2.slot j _ hj
    rw [hv0] at ev
    cases ev
    refine ⟨p0, vs, k, i, rfl, r2, g1, by rw [rps_len g2]; exact hi, ?_⟩
    exact ok.nx σ _ _ M2 F2 (e1.trans e2) (c2.change hj hv0 g3 g4 g5 (rps_set i g2 (rp_mono e2 _ _ r1))) hΦ
  · exact h2.elim
end
end DL

set_option Elab.async false
set_option linter.all false
set_option maxRecDepth 100000
set_option maxHeartbeats 4000000
/-! ranges as values, dicts, fields as targets, extend -/
namespace DL
open PySem PySem.Spec PyProof.Rows L2
open Evl (Ex)
section
variable {X : Cx} {Z : Zx} {e a b o tg : Expr} {ra rb r ro rv : RE} {pos apos : Pos} {es : List Expr} {rl : RA} {n : Nat} {K : PySem.W.Frag}

/-! ### range(e) as a value -/
def dRngV (r : RE) : RE := fun Δ M Φ => r Δ M fun x Δ1 M1 => match x with
  | .int k => Φ (.rng 0 k) Δ1 M1
  | _ => False
theorem cr_range1 : CallR X (.type "range") (fun vs H Q => ∃ j, vs = [V.int j] ∧ ∀ p, H p = none → Q (.ref p) (upd H p (.rng 0 j))) := by
  intro pins s σ H vs us Q I r h
  obtain ⟨j, rfl, q⟩ := h
  obtain ⟨u1, rfl, rj⟩ := L2.vals1 r
  obtain ⟨t, rfl⟩ := rj
  refine call_range_1 ?_
  refine ⟨V.ref s.heap.objs.size, upd H s.heap.objs.size (HO.rng 0 j), ?_, rfl, q _ (I.hok.fresh (Nat.le_refl _))⟩
  exact I.laid (t' := s.toks + 1 + 1) (fun b o z => Heap.get?_push_of_some _ z) (Nat.le_refl _) ⟨s.toks, t, s.toks + 1, Heap.get?_push_size _ rfl⟩
theorem qe_rngV {p : Pos} (hg : Gl X "range") (hm : X.mg "range" = none) (h : QE X Z e r) (he : starEach [e] X.env = (false, eval e X.env) :: starEach [] X.env := by rfl) (hpl : (backTo pos (starEach [] X.env)).any (·.1) = false := by rfl) : QE X Z (.Call (.Name "range" p) [e] [] pos) (dRngV r) := by
  obtain ⟨t, p, s⟩ := h
  refine ⟨_, pe_callTy cr_range1 hg hm (by decide +kernel) (pa_cons p pa_nil he) (by decide) (by decide) he hpl, fun M σ H Δ F Φ c h Q q => ?_⟩
  refine s M σ H Δ F _ c h _ fun v H1 x Δ1 M1 F1 e1 c1 r1 h1 => ?_
  cases x with
  | int k => exact ⟨k, by rw [show v = .int k from r1], fun p hp => q _ _ (.rng 0 k) Δ1 M1 _ (e1.trans (c1.bs.exF hp _)) (c1.new hp _) ⟨p, rfl, upd_same⟩ h1⟩
  | _ => exact h1.elim
/-- a walk over a range that is a value -/
def iRngV (te : TE) : TI := fun σ H R => te σ H fun x H1 => ∃ a lo hi, x = .ref a ∧ H1 a = some (.rng lo hi) ∧ (-(2 ^ 62) ≤ lo ∧ lo < 2 ^ 62 ∧ -(2 ^ 62) ≤ hi ∧ hi < 2 ^ 62) ∧ R (Itr lo (hi - lo).toNat) H1
theorem pi_rngV {te : TE} (he : PE X e te) : PI X tg e (iRngV te) := by
  refine ⟨fun pins s σ H R I h => ?_⟩
  refine thn (he.run pins s σ H _ I h) fun v s1 ⟨x, H1, I1, rx, q1⟩ => ?_
  obtain ⟨a, lo, hi, ex, hH, ⟨h1, h2, h3, h4⟩, q⟩ := q1
  subst ex
  obtain rfl : v = Value.ref a := rx
  obtain ⟨t, u, w, ho⟩ := I1.hok a _ hH
  refine wpAny_pyIter_range (show IsRange s1.heap a lo hi 1 t u w from ho) (small_one h1 h2 h3 h4) ?_
  have sz : ∀ b, b ∈ [s1.heap.objs.size] → b = s1.heap.objs.size := fun b hb => by simpa using hb
  refine ⟨s1.heap.objs.size, [s1.heap.objs.size], _, Itr lo (hi - lo).toNat, H1, rfl, ?_, turn_range _ lo (hi - lo).toNat, ?_, fun b hb => ?_, q⟩
  · exact I1.kept (t' := s1.toks) fun b o z => Heap.get?_push_of_some _ z
  · have e1 : lo + ((0 : Nat) : Int) * 1 = lo := by omega
    have e2 : (((hi - lo).toNat : Nat) : Int) - ((0 : Nat) : Int) = Builtin.Range.rangeSize lo hi 1 := by
      rw [rangeSize_one]
      split <;> omega
    unfold IsRangeIter
    rw [e1, e2]
    exact Heap.get?_push_size _ rfl
  · rw [sz b hb]
    exact I1.fpOk (Nat.le_refl _) (I1.hok.fresh (Nat.le_refl _))
def dRngI (r : RE) : RI := fun Δ M Φ => r Δ M fun x Δ1 M1 => match x with
  | .rng lo hi => (-(2 ^ 62) ≤ lo ∧ lo < 2 ^ 62 ∧ -(2 ^ 62) ≤ hi ∧ hi < 2 ^ 62) ∧ Φ (rangeD lo (hi - lo).toNat) Δ1 M1
  | _ => False
theorem qi_rngV (h : QE X Z e r) : QI X Z tg e (dRngI r) := by
  obtain ⟨t, p, s⟩ := h
  refine ⟨_, pi_rngV p, fun M σ H Δ F Φ c h R q => ?_⟩
  refine s M σ H Δ F _ c h _ fun v H1 y Δ1 M1 F1 e1 c1 r1 h1 => ?_
  cases y with
  | rng lo hi =>
    obtain ⟨a, ev, g⟩ := r1
    exact ⟨a, lo, hi, ev, c1.bs.fH _ _ g, h1.1, q _ H1 _ Δ1 M1 F1 e1 c1 walkD_range h1.2⟩
  | _ => exact h1.elim

/-! ### dicts in memory -/
def D.key : D → Option Key
  | .int i => some (.inl i)
  | .str x => some (.inr x)
  | _ => none
theorem rp_key {F : Hp} {d : D} {v : V} {k : Key} (h : Rp K F d v) (e : d.key = some k) : v = kV k := by
  cases d with
  | int i => cases e; exact h
  | str x => cases e; exact h
  | _ => cases e
def getD (kvs : List (Key × D)) (k : Key) : Option D := (kvs.find? fun kv => decide (kv.1 = k)).map (·.2)
def putKD (kvs : List (Key × D)) (k : Key) (d : D) : List (Key × D) :=
  if (kvs.any fun kv => decide (kv.1 = k)) = true then kvs.map (fun kv => if kv.1 = k then (kv.1, d) else kv) else kvs ++ [(k, d)]
theorem get_rps {F : Hp} {k : Key} : ∀ {kvs : List (Key × D)} {vs : List (Key × V)}, vs.map Prod.fst = kvs.map Prod.fst → Rps K F (kvs.map Prod.snd) (vs.map Prod.snd) →
    (getD kvs k = none ∧ valV vs k = none) ∨ ∃ d v, getD kvs k = some d ∧ valV vs k = some v ∧ Rp K F d v
  | [], [], _, _ => .inl ⟨rfl, rfl⟩
  | [], _ :: _, h, _ => by cases h
  | _ :: _, [], h, _ => by cases h
  | (k1, d) :: kvs, (k2, v) :: vs, h, r => by
    obtain ⟨u, w, e, h1, h2⟩ := r
    simp only [List.map_cons, List.cons.injEq] at h e
    obtain ⟨hk, ht⟩ := h
    obtain ⟨e1, e2⟩ := e
    subst e1
    have e2' : vs.map Prod.snd = w := e2
    rw [← e2'] at h2
    have hk' : k2 = k1 := hk
    subst hk'
    by_cases c : k2 = k
    · right
      refine ⟨d, v, ?_, ?_, h1⟩
      · simp [getD, List.find?_cons, c]
      · simp [valV, List.find?_cons, c]
    · have ih := get_rps (k := k) ht h2
      have a1 : getD ((k2, d) :: kvs) k = getD kvs k := by simp [getD, List.find?_cons, c]
      have a2 : valV ((k2, v) :: vs) k = valV vs k := by simp [valV, List.find?_cons, c]
      rw [a1, a2]
      exact ih
theorem any_fst {k : Key} : ∀ {kvs : List (Key × D)} {vs : List (Key × V)}, vs.map Prod.fst = kvs.map Prod.fst → (vs.any fun kv => decide (kv.1 = k)) = kvs.any fun kv => decide (kv.1 = k)
  | [], [], _ => rfl
  | [], _ :: _, h => by cases h
  | _ :: _, [], h => by cases h
  | (k1, d) :: kvs, (k2, v) :: vs, h => by
    simp only [List.map_cons, List.cons.injEq] at h
    have hk : k2 = k1 := h.1
    subst hk
    rw [List.any_cons, List.any_cons, any_fst h.2]
theorem putK_rps {F : Hp} {k : Key} {d : D} {v : V} (r : Rp K F d v) {kvs : List (Key × D)} {vs : List (Key × V)} (h : vs.map Prod.fst = kvs.map Prod.fst) (g : Rps K F (kvs.map Prod.snd) (vs.map Prod.snd)) :
    (putK vs k v).map Prod.fst = (putKD kvs k d).map Prod.fst ∧ Rps K F ((putKD kvs k d).map Prod.snd) ((putK vs k v).map Prod.snd) := by
  unfold putK putKD
  rw [any_fst h]
  by_cases c : (kvs.any fun kv => decide (kv.1 = k)) = true
  · rw [if_pos c, if_pos c]
    clear c
    revert vs
    induction kvs with
    | nil =>
      intro vs h g
      cases vs with
      | nil => exact ⟨rfl, rfl⟩
      | cons _ _ => cases h
    | cons kd kvs ih =>
      intro vs h g
      cases vs with
      | nil => cases h
      | cons kv vs =>
        obtain ⟨u, w, e, h1, h2⟩ := g
        simp only [List.map_cons, List.cons.injEq] at h e
        obtain ⟨e1, e2⟩ := e
        rw [← e2] at h2
        rw [← e1] at h1
        obtain ⟨i1, i2⟩ := ih h.2 h2
        have hk := h.1
        refine ⟨?_, ?_⟩
        · simp only [List.map_cons, List.cons.injEq]
          refine ⟨?_, i1⟩
          rw [hk]
          by_cases q : kd.1 = k
          · rw [if_pos q, if_pos q]
          · rw [if_neg q, if_neg q]; exact hk
        · simp only [List.map_cons]
          rw [hk]
          by_cases q : kd.1 = k
          · rw [if_pos q, if_pos q]
            exact ⟨v, _, rfl, r, i2⟩
          · rw [if_neg q, if_neg q]
            exact ⟨kv.2, _, rfl, h1, i2⟩
  · rw [if_neg c, if_neg c, List.map_append, List.map_append, List.map_append, List.map_append]
    exact ⟨by rw [h] <;> rfl, rps_app g (rps_one r)⟩
theorem Bs.dctM {Z : Zx} {M : Mem} {H F : Hp} (b : Bs K Z M H F) {p : Addr} {kvs : List (Key × D)} (h : M p = some (.dct kvs)) : ∃ vs, H p = some (.dK vs) ∧ vs.map Prod.fst = kvs.map Prod.fst ∧ Rps K F (kvs.map Prod.snd) (vs.map Prod.snd) := (b.mm p _ h).2.2
/-- {} -/
def dDNew : RE := fun Δ M Φ => ∀ p, M p = none → Φ (.ref p) Δ (updM M p (.dct []))
theorem qe_dnew : QE X Z (.Dict [] [] pos) dDNew := ⟨_, pe_dnewK, fun M σ H Δ F Φ c h Q q p hp => q _ _ (.ref p) Δ _ F (Ex.refl _) (c.newO (o := .dct []) hp ⟨[], rfl, rfl, rfl⟩) rfl (h p (c.bs.freeM hp))⟩
/-- k in d, k not in d -/
def dDIn (neg : Bool) (rk rd : RE) : RE := fun Δ M Φ => rk Δ M fun y Δ1 M1 => rd Δ1 M1 fun x Δ2 M2 => match x with
  | .ref p => ∃ kvs k, M2 p = some (.dct kvs) ∧ y.key = some k ∧ Φ (.bl (if neg then !(getD kvs k).isSome else (getD kvs k).isSome)) Δ2 M2
  | _ => False
theorem dget_of {F H : Hp} {M : Mem} {Z : Zx} (b' : Bs K Z M H F) {p : Addr} {kvs : List (Key × D)} {k : Key} (hM : M p = some (.dct kvs)) : ∃ o, DGet H p (kV k) o ∧ o.isSome = (getD kvs k).isSome := by
  obtain ⟨vs, g1, g2, g3⟩ := b'.dctM hM
  refine ⟨valV vs k, DGet.k g1, ?_⟩
  rcases get_rps (k := k) g2 g3 with ⟨h1, h2⟩ | ⟨d, v, h1, h2, _⟩
  · rw [h1, h2]; rfl
  · rw [h1, h2]; rfl
theorem sim_din {tk td : TE} {rk rd : RE} (sk : Sim K Z tk rk) (sd : Sim K Z td rd) : Sim K Z (tDIn tk td) (dDIn false rk rd) := by
  intro M σ H Δ F Φ c h Q q
  refine sk M σ H Δ F _ c h _ fun v H1 y Δ1 M1 F1 e1 c1 r1 h1 => ?_
  refine sd M1 σ H1 Δ1 F1 _ c1 h1 _ fun w H2 x Δ2 M2 F2 e2 c2 r2 h2 => ?_
  cases x with
  | ref p =>
    obtain ⟨kvs, k, hM, hk, hΦ⟩ := h2
    obtain ⟨o, g, hs⟩ := dget_of (k := k) c2.bs hM
    refine ⟨p, o, r2, ?_, ?_⟩
    · rw [rp_key r1 hk]; exact g
    · rw [hs]
      exact q _ H2 (.bl _) Δ2 M2 F2 (e1.trans e2) c2 rfl hΦ
  | _ => exact h2.elim
theorem sim_dnin {tk td : TE} {rk rd : RE} (sk : Sim K Z tk rk) (sd : Sim K Z td rd) : Sim K Z (tDNotIn tk td) (dDIn true rk rd) := by
  intro M σ H Δ F Φ c h Q q
  refine sk M σ H Δ F _ c h _ fun v H1 y Δ1 M1 F1 e1 c1 r1 h1 => ?_
  refine sd M1 σ H1 Δ1 F1 _ c1 h1 _ fun w H2 x Δ2 M2 F2 e2 c2 r2 h2 => ?_
  cases x with
  | ref p =>
    obtain ⟨kvs, k, hM, hk, hΦ⟩ := h2
    obtain ⟨o, g, hs⟩ := dget_of (k := k) c2.bs hM
    refine ⟨p, o, r2, ?_, ?_⟩
    · rw [rp_key r1 hk]; exact g
    · rw [hs]
      exact q _ H2 (.bl _) Δ2 M2 F2 (e1.trans e2) c2 rfl hΦ
  | _ => exact h2.elim
theorem qe_din {rk rd : RE} (hu : X.A.units + 1 < cLine) (hk : QE X Z a rk) (hd : QE X Z b rd) (hm : behindInMarks .In b = false := by rfl) : QE X Z (.Compare a [.In] [b] pos) (dDIn false rk rd) := by
  obtain ⟨tk, pk, sk⟩ := hk
  obtain ⟨td, pd, sd⟩ := hd
  exact ⟨_, pe_cmp (pc_din hu pk pd) hm, sim_din sk sd⟩
theorem qe_dnin {rk rd : RE} (hu : X.A.units + 1 < cLine) (hk : QE X Z a rk) (hd : QE X Z b rd) (hm : behindInMarks .NotIn b = false := by rfl) : QE X Z (.Compare a [.NotIn] [b] pos) (dDIn true rk rd) := by
  obtain ⟨tk, pk, sk⟩ := hk
  obtain ⟨td, pd, sd⟩ := hd
  exact ⟨_, pe_cmp (pc_dnotin hu pk pd) hm, sim_dnin sk sd⟩
theorem qt_din {rk rd : RE} (hu : X.A.units + 1 < cLine) (hk : QE X Z a rk) (hd : QE X Z b rd) (hm : behindInMarks .In b = false := by rfl) : QT X Z (.Compare a [.In] [b] pos) (dTest (dDIn false rk rd)) := by
  obtain ⟨tk, pk, sk⟩ := hk
  obtain ⟨td, pd, sd⟩ := hd
  exact ⟨_, pt_cmp (pc_din hu pk pd) hm, simT_test (sim_din sk sd)⟩
theorem qt_dnin {rk rd : RE} (hu : X.A.units + 1 < cLine) (hk : QE X Z a rk) (hd : QE X Z b rd) (hm : behindInMarks .NotIn b = false := by rfl) : QT X Z (.Compare a [.NotIn] [b] pos) (dTest (dDIn true rk rd)) := by
  obtain ⟨tk, pk, sk⟩ := hk
  obtain ⟨td, pd, sd⟩ := hd
  exact ⟨_, pt_cmp (pc_dnotin hu pk pd) hm, simT_test (sim_dnin sk sd)⟩
/-- d[k] = v -/
def dDPut (rv rd rk : RE) : RS := fun De Δ M => rv Δ M fun z Δ1 M1 => rd Δ1 M1 fun x Δ2 M2 => rk Δ2 M2 fun y Δ3 M3 => match x with
  | .ref p => ∃ kvs k, M3 p = some (.dct kvs) ∧ y.key = some k ∧ kvs.length < 1000 ∧ De.nx Δ3 (updM M3 p (.dct (putKD kvs k z)))
  | _ => False
theorem qs_dput {rk rd : RE} {i value : Expr} {p' : Pos} (hu : X.A.units + 1 < cLine) (hv : QE X Z value rv) (hd : QE X Z o rd) (hk : QE X Z i rk) (hs : swapsWith value (some (.Subscript o i p')) pos.line X.env = pure false := by rfl) : QS X Z (.Assign [.Subscript o i p'] value pos) (dDPut rv rd rk) := by
  obtain ⟨tv, pv, sv⟩ := hv
  obtain ⟨td, pd, sd⟩ := hd
  obtain ⟨tk, pk, sk⟩ := hk
  refine ⟨_, ps_dput hu pd pk pv hs, fun M σ H Δ F De c h Dv ok => ?_⟩
  refine sv M σ H Δ F _ c h _ fun v H1 z Δ1 M1 F1 e1 c1 r1 h1 => ?_
  refine sd M1 σ H1 Δ1 F1 _ c1 h1 _ fun w H2 x Δ2 M2 F2 e2 c2 r2 h2 => ?_
  refine sk M2 σ H2 Δ2 F2 _ c2 h2 _ fun u H3 y Δ3 M3 F3 e3 c3 r3 h3 => ?_
  cases x with
  | ref p =>
    obtain ⟨kvs, k, hM, hk, hl, hΦ⟩ := h3
    obtain ⟨vs, g1, g2, g3⟩ := c3.bs.dctM hM
    have len : vs.length = kvs.length := by
      have := congrArg List.length g2
      rw [List.length_map, List.length_map] at this
      exact this
    obtain ⟨q1, q2⟩ := putK_rps (k := k) (rp_mono (e2.trans e3) _ _ r1) g2 g3
    refine ⟨p, _, r2, (by rw [rp_key r3 hk]; exact DPut.k g1 (by rw [len, sizeLine_eq]; omega)), ?_⟩
    exact ok.nx _ _ _ _ F3 ((e1.trans e2).trans e3) (c3.setO (o2 := .dct (putKD kvs k z)) hM ⟨_, rfl, q1, q2⟩) hΦ
  | _ => exact h3.elim

/-! ### x not in D, D a dict of the module whose keys are told -/
def dInK (neg : Bool) (keys : List Str) (r : RE) : RE := fun Δ M Φ => r Δ M fun x Δ1 M1 => match x with
  | .str z => z ∈ keys ∧ Φ (.bl (!neg)) Δ1 M1
  | _ => False
theorem qe_ninK {d : Addr} {ds : Array DictEntry} {m : Nat} {x : Str} {p : Pos} {keys : List Str} (Dk : KDict X.K X.w d ds m) (hk : ∀ z ∈ keys, ∃ u, PySem.W.nsIn X.K d z = some (some u)) (hg : Gl X x) (hm : X.mg x = some (.ref d)) (h : QE X Z e r) (hd : (x == ("__debug__" : Str)) = false := by decide)
    (hmk : behindInMarks .NotIn (.Name x p) = false := by rfl) : QE X Z (.Compare e [.NotIn] [.Name x p] pos) (dInK true keys r) := by
  obtain ⟨t, pe, s⟩ := h
  refine ⟨_, pe_cmpR (op_notIn_kd Dk) pe (pe_glob (v := .ref d) hg hm rfl hd) hmk, fun M σ H Δ F Φ c h Q q => ?_⟩
  refine s M σ H Δ F _ c h _ fun v H1 y Δ1 M1 F1 e1 c1 r1 h1 => ?_
  cases y with
  | str z =>
    obtain ⟨u, hu⟩ := hk z h1.1
    exact ⟨z, _, r1, rfl, hu, q _ H1 (.bl false) Δ1 M1 F1 e1 c1 rfl h1.2⟩
  | _ => exact h1.elim
theorem qt_ninK {d : Addr} {ds : Array DictEntry} {m : Nat} {x : Str} {p : Pos} {keys : List Str} (Dk : KDict X.K X.w d ds m) (hk : ∀ z ∈ keys, ∃ u, PySem.W.nsIn X.K d z = some (some u)) (hg : Gl X x) (hm : X.mg x = some (.ref d)) (h : QE X Z e r) (hd : (x == ("__debug__" : Str)) = false := by decide)
    (hmk : behindInMarks .NotIn (.Name x p) = false := by rfl) : QT X Z (.Compare e [.NotIn] [.Name x p] pos) (dTest (dInK true keys r)) := by
  obtain ⟨t, pe, s⟩ := h
  refine ⟨_, pt_cmpR (op_notIn_kd Dk) pe (pe_glob (v := .ref d) hg hm rfl hd) hmk, simT_test fun M σ H Δ F Φ c h Q q => ?_⟩
  refine s M σ H Δ F _ c h _ fun v H1 y Δ1 M1 F1 e1 c1 r1 h1 => ?_
  cases y with
  | str z =>
    obtain ⟨u, hu⟩ := hk z h1.1
    exact ⟨z, _, r1, rfl, hu, q _ H1 (.bl false) Δ1 M1 F1 e1 c1 rfl h1.2⟩
  | _ => exact h1.elim

/-! ### targets: o.f among names -/
abbrev RGs := List D → List Sl → Mem → (List Sl → Mem → Prop) → Prop
def gFld (K : PySem.W.Frag) (f : Str) (to : TE) : TG := fun y σ H Q => to σ H fun x H2 => ∃ a C dx fs, x = .ref a ∧ H2 a = some (.ins C dx fs) ∧ Cls K C ∧ NoAttr K C f ∧ fs.length < 1000 ∧ Q σ (upd H2 a (.ins C dx (putF f y fs)))
theorem pg_fld {f : Str} {to : TE} (ho : PE X o to) : PG X (.Attribute o f pos) (gFld X.K f to) := by
  refine ⟨fun pins s σ H v u Q I r h => ?_⟩
  rw [arm_assign_Attribute]
  refine wpAny_bind (wpAny_holding (thn (ho.run pins s σ H _ I h) fun ov s1 ⟨x, H1, I1, rx, a, C, dx, fs, ex, ea, c, n, l, q⟩ => ?_))
  subst ex
  obtain rfl : ov = Value.ref a := rx
  refine wpAny_bind (wpAny_standAt (wpAny_bind (wpAny_holding (setattr_ok I1 ea c n l r fun s3 I3 => ?_))))
  exact wpAny_release ⟨σ, _, I3, q⟩

/-- a target that may store in memory -/
abbrev RGM := D → List Sl → Mem → (List Sl → Mem → Prop) → Prop
def SimGM (K : PySem.W.Frag) (Z : Zx) (g : TG) (r : RGM) : Prop := ∀ (M : Mem) (σ : L2.St) (H : Hp) (Δ : List Sl) (F : Hp) (d : D) (v : V) (Φ : List Sl → Mem → Prop), Cn K Z M σ H Δ F → Rp K F d v → r d Δ M Φ →
  ∀ Q : L2.St → Hp → Prop, (∀ σ' H' Δ' M' F', Ex F F' → Cn K Z M' σ' H' Δ' F' → Φ Δ' M' → Q σ' H') → g v σ H Q
def QG (X : Cx) (Z : Zx) (tg : Expr) (r : RGM) : Prop := ∃ g, PG X tg g ∧ SimGM X.K Z g r
def gmN (j : Nat) : RGM := fun d Δ M Φ => Φ (Δ.set j (.d d)) M
theorem qg_name {j : Nat} {x : Str} (hN : X.N.Nodup) (hi : X.N[j]? = some x := by rfl) (hx : Loc X.env.scope x := by first | exact Or.inl rfl | exact Or.inr rfl)
    (hf : X.fn x = true ∨ X.env.scope.names.lookup x = some .local := by first | exact .inl rfl | exact .inr rfl) : QG X Z (.Name x pos) (gmN j) :=
  ⟨_, pg_name (i := j) hN hi hx hf, fun M σ H Δ F d v Φ c r h Q q => q _ H _ M F (Ex.refl _) (c.set r j) h⟩
def gmF (C : Addr) (f : Str) (ro : RE) : RGM := fun y Δ M Φ => ro Δ M fun x Δ2 M2 => match x with
  | .ref a => ∃ fs, M2 a = some (.ins C fs) ∧ fs.length < 1000 ∧ Φ Δ2 (updM M2 a (.ins C (putD f y fs)))
  | _ => False
theorem qg_fld {C : Addr} {f : Str} (cl : Cls X.K C) (hn : NoAttr X.K C f) (ho : QE X Z o ro) : QG X Z (.Attribute o f pos) (gmF C f ro) := by
  obtain ⟨t, p, s⟩ := ho
  refine ⟨_, pg_fld p, fun M σ H Δ F d v Φ c r h Q q => ?_⟩
  refine s M σ H Δ F _ c h _ fun w H2 x Δ2 M2 F2 e2 c2 r2 h2 => ?_
  cases x with
  | ref a =>
    obtain ⟨fs, hM, hl, hΦ⟩ := h2
    obtain ⟨dx, vfs, g1, g2, g3⟩ := c2.bs.insM hM
    have len : vfs.length = fs.length := by
      have := congrArg List.length g2
      rw [List.length_map, List.length_map] at this
      exact this
    obtain ⟨q1, q2⟩ := put_rps (f := f) (rp_mono e2 _ _ r) g2 g3
    exact ⟨a, C, dx, vfs, r2, g1, cl, hn, by rw [len]; exact hl, q _ _ _ _ F2 e2 (c2.setO (o2 := .ins C (putD f d fs)) hM ⟨dx, _, rfl, q1, q2⟩) hΦ⟩
  | _ => exact h2.elim
def gChain : List RGM → List D → List Sl → Mem → (List Sl → Mem → Prop) → Prop
  | [], [], Δ, M, Φ => Φ Δ M
  | g :: gs, d :: ds, Δ, M, Φ => g d Δ M fun Δ1 M1 => gChain gs ds Δ1 M1 Φ
  | _, _, _, _, _ => False
def QGs (X : Cx) (Z : Zx) (tgs : List Expr) (rs : List RGM) : Prop := ∃ t, PGs X tgs t ∧ ∀ (M : Mem) (σ : L2.St) (H : Hp) (Δ : List Sl) (F : Hp) (ds : List D) (vs : List V) (Φ : List Sl → Mem → Prop), Cn X.K Z M σ H Δ F → Rps X.K F ds vs → gChain rs ds Δ M Φ →
  ∀ Q : L2.St → Hp → Prop, (∀ σ' H' Δ' M' F', Ex F F' → Cn X.K Z M' σ' H' Δ' F' → Φ Δ' M' → Q σ' H') → t vs σ H Q
theorem qgs_nil : QGs X Z [] [] := ⟨_, pgs_nil, fun M σ H Δ F ds vs Φ c r h Q q => by
  cases ds with
  | nil => exact ⟨r, q σ H Δ M F (Ex.refl _) c h⟩
  | cons _ _ => exact h.elim⟩
theorem qgs_cons {ts : List Expr} {r1 : RGM} {rs : List RGM} (h : QG X Z tg r1) (hs : QGs X Z ts rs) (hst : (assignEach (tg :: ts) X.env).map (·.2) = assign tg X.env :: (assignEach ts X.env).map (·.2) := by rfl) : QGs X Z (tg :: ts) (r1 :: rs) := by
  obtain ⟨g, pg, sg⟩ := h
  obtain ⟨gs, pgs, sgs⟩ := hs
  refine ⟨_, pgs_cons pg pgs hst, fun M σ H Δ F ds vs Φ c r h Q q => ?_⟩
  cases ds with
  | nil => exact h.elim
  | cons d ds =>
    obtain ⟨v, ws, e, h1, h2⟩ := r
    refine ⟨v, ws, e, sg M σ H Δ F d v _ c h1 h _ fun σ1 H1 Δ1 M1 F1 e1 c1 k1 => ?_⟩
    exact sgs M1 σ1 H1 Δ1 F1 ds ws Φ c1 (rps_mono e1 _ _ h2) k1 Q fun σ2 H2 Δ2 M2 F2 e2 => q σ2 H2 Δ2 M2 F2 (e1.trans e2)
/-- x, o.f, y = e -/
def dUnpG (rs : List RGM) (r : RE) : RS := fun De Δ M => r Δ M fun x Δ1 M1 => match x with
  | .tup ds => ds.length = rs.length ∧ gChain rs ds Δ1 M1 fun Δ2 M2 => De.nx Δ2 M2
  | _ => False
theorem qs_unpG {rs : List RGM} {tgs : List Expr} {k : Nat} {tp : Pos} (hc : X.calm = true) (h : QE X Z e r) (hg : QGs X Z tgs rs) (hn : tgs.length = rs.length := by rfl) (hs : swapsWithSole [.Tuple tgs k tp] e pos.line X.env = pure false := by rfl) (hw : swappedStores [.Tuple tgs k tp] e X.env = pure none := by rfl)
    (hpg : ∀ t, PGs X tgs t → PG X (.Tuple tgs k tp) (gTup X.K rs.length t) := by intro t hg; exact pg_tup rfl hg) (h1 : (assignEach [.Tuple tgs k tp] X.env).map (·.2) = [assign (.Tuple tgs k tp) X.env] := by rfl) : QS X Z (.Assign [.Tuple tgs k tp] e pos) (dUnpG rs r) := by
  obtain ⟨t, p, s⟩ := h
  obtain ⟨gs, pgs, sgs⟩ := hg
  refine ⟨_, ps_asg p (hpg gs pgs) hs hw h1, fun M σ H Δ F De c h Dv ok => ?_⟩
  refine s M σ H Δ F _ c h _ fun v H1 x Δ1 M1 F1 e1 c1 r1 h1 => ?_
  cases x with
  | tup ds =>
    obtain ⟨a, vs, ev, g1, g2⟩ := r1
    exact ⟨a, vs, ev, Evl.ex_t c1.bs.fH g1, by rw [rps_len g2]; exact h1.1, sgs M1 σ H1 Δ1 F1 ds vs _ c1 g2 h1.2 _ fun σ2 H2 Δ2 M2 F2 e2 c2 k => ok.nx σ2 H2 Δ2 M2 F2 (e1.trans e2) c2 k⟩
  | _ => exact h1.elim
end
end DL

set_option Elab.async false
set_option linter.all false
set_option maxRecDepth 100000
set_option maxHeartbeats 4000000
/-! extend by a tuple, min and max of a tuple of ints, enumerate of a tuple -/
namespace DL
open PySem PySem.Spec PyProof.Rows L2
open Evl (Ex)
section
variable {X : Cx} {Z : Zx} {e a b o tg : Expr} {ra rb r ro rv : RE} {pos apos : Pos} {K : PySem.W.Frag}
open Builtin AutoSeq1 in
theorem ext_tup (l : Addr) (its : Array Value) (n : Nat) (b : Addr) (its2 : Array Value) (m : Nat) (dd : Option Addr) (sl : Array (Option Value)) (h0 : ¬(!its.isEmpty && Builtin.List.listTooLong (its.size + its2.size)) = true) (h1 : its.size ≤ sizeLine) (h2 : its.size + its2.size ≤ sizeLine + 1) :
    Meets (Builtin.«list.extend» ⟨[.ref l, .ref b], []⟩) (fun _ R s => s.heap.get? l = some { cls := .type "list", dict := none, data := .seq its n, slots := #[] } ∧
      s.heap.get? b = some { cls := .type "tuple", dict := dd, data := .seq its2 m, slots := sl } ∧
      R (.ok (.ret Value.none)) { s with heap := s.heap.update l (Obj.mapSeq fun x => x ++ its2), toks := s.toks }) :=
  .of_wp fun prog w A R s h => by
    obtain ⟨hp, g, d, tk, os⟩ := s
    obtain ⟨hl, hb, h⟩ := h
    have f1 := idx_int
    have f2 := AutoSeq1.sub_tuple_tuple
    have f3 := AutoSeq1.sub_list_list
    have f4 := AutoSeq1.sub_tuple_list
    have f5 := AutoSeq1.sub_list_tuple
    have hz : (its ++ its2).size ≤ sizeLine + 1 := by
      rw [Array.size_append]
      exact h2
    wp_walk using (wpAny_updateSeq hl rfl (hz := h1) (_hz' := hz)), wpAny_loadPart' hl, wpAny_loadPart' hb
    exact ⟨_, rfl, h⟩
def rExtT (K : PySem.W.Frag) : V → List V → Hp → VK → Prop := fun x vs H Q => ∃ l b xs zs, x = .ref l ∧ vs = [.ref b] ∧ H l = some (.lst xs) ∧ SqT K H b zs ∧ xs.length + zs.length ≤ sizeLine ∧ Q .non (upd H l (.lst (xs ++ zs)))
theorem mt_extendT : MtM X "list.extend" (rExtT X.K) := by
  intro pins s σ H x vs v us Q I rx rv h
  obtain ⟨l, b, xs, zs, rfl, rfl, hH, hB, hz, q⟩ := h
  cases rx
  obtain ⟨u, rfl, ru⟩ := rv.one
  cases ru
  obtain ⟨z, its, n, r, hl, e⟩ := I.lstM hH
  obtain ⟨its2, r2, ⟨⟨cls, dd, data, sl⟩, ho, hc, m, hd⟩, hs2⟩ := I.tuple hB
  simp only at hc hd
  subst hc hd
  have hl2 : zs.length = its2.length := r2.length
  have hsz : its.toArray.size + its2.toArray.size ≤ sizeLine := by
    rw [List.size_toArray, List.size_toArray]
    omega
  have hlong : ¬ (!its.toArray.isEmpty && Builtin.List.listTooLong (its.toArray.size + its2.toArray.size)) = true := by
    rw [notLongL hsz, Bool.and_false]
    exact Bool.false_ne_true
  refine call_meets F.slot_list_extend ⟨_, e, rfl⟩ F.entry_list_extend (F.args_list_extend_2 _ _) (ext_tup l its.toArray n b its2.toArray m dd sl hlong ?_ ?_) ⟨e, ho, ?_⟩
  · rw [List.size_toArray] at hsz ⊢
    omega
  · omega
  · refine ⟨.non, _, I.lset (its' := its ++ its2) hH e (by simp) (r.append r2) ?_, rfl, q⟩
    rw [List.length_append]
    omega
/-- xs.extend(t), xs a list in memory, t a tuple -/
def dExtM (ra r : RE) : RS := fun De Δ M => ra Δ M fun x Δ1 M1 => match x with
  | .ref p => (∃ ds, M1 p = some (.lst ds)) ∧ r Δ1 M1 fun y Δ2 M2 => match y with
    | .tup es => ∃ ds, M2 p = some (.lst ds) ∧ ds.length + es.length ≤ sizeLine ∧ De.nx Δ2 (updM M2 p (.lst (ds ++ es)))
    | _ => False
  | _ => False
theorem qs_extM {p2 pos' : Pos} (ho : QE X Z o ra) (h : QE X Z e r)
    (hpe : ∀ t u, PE X o t → PE X e u → PE X (.Call (.Attribute o "extend" p2) [e] [] pos) (tBM X.K "list" (rExtT X.K) t (tCons u tNil)) := by intro t u ht hu; exact pe_bm PySem.F.plainAttrs_list PySem.F.slot_list_extend PySem.F.type_list_extend mt_extendT ht (pa_cons hu pa_nil))
    (hs : swapsWith (.Call (.Attribute o "extend" p2) [e] [] pos) none pos'.line X.env = pure false := by rfl) : QS X Z (.Expr (.Call (.Attribute o "extend" p2) [e] [] pos) pos') (dExtM ra r) := by
  obtain ⟨t0, p0, s0⟩ := ho
  obtain ⟨t, p, s⟩ := h
  refine ⟨_, ps_expr (hpe t0 t p0 p) hs, fun M σ H Δ F De c h Dv ok => ?_⟩
  refine s0 M σ H Δ F _ c h _ fun v H1 x Δ1 M1 F1 e1 c1 r1 h1 => ?_
  cases x with
  | ref p =>
    obtain ⟨⟨ds0, hM0⟩, h1⟩ := h1
    obtain ⟨vs0, g0, _⟩ := c1.bs.lstM hM0
    rw [show v = .ref p from r1]
    refine ⟨.inl ⟨rfl, _, SqL.of g0⟩, ?_⟩
    refine s M1 σ H1 Δ1 F1 _ c1 h1 _ fun w H2 y Δ2 M2 F2 e2 c2 r2 h2 => ?_
    cases y with
    | tup es =>
      obtain ⟨ds, hM, hl, k⟩ := h2
      obtain ⟨vs, g1, g2⟩ := c2.bs.lstM hM
      obtain ⟨b, ws, ew, g3, g4⟩ := r2
      refine ⟨p, b, vs, ws, rfl, by rw [ew], g1, Evl.ex_t c2.bs.fH g3, by rw [rps_len g2, rps_len g4]; exact hl, ?_⟩
      exact ok.nx σ _ _ _ F2 (e1.trans e2) (c2.setM hM (rps_app g2 g4)) k
    | _ => exact h2.elim
  | _ => exact h1.elim

/-! ### min(t), max(t), t a tuple of ints -/
theorem alike_all_ints (ns : List Int) : PySem.W.AlikeAll (ns.map PyData.int) := by
  refine ⟨fun x hx y hy => ?_, fun x hx => ?_⟩
  · obtain ⟨i, _, rfl⟩ := List.mem_map.mp hx
    obtain ⟨j, _, rfl⟩ := List.mem_map.mp hy
    rfl
  · obtain ⟨i, _, rfl⟩ := List.mem_map.mp hx
    intro z
    cases z
theorem depth0 : ∀ ns : List Int, PyData.depthAll (ns.map PyData.int) = 0
  | [] => by simp [PyData.depthAll]
  | n :: ns => by
    have := depth0 ns
    simp only [List.map_cons, PyData.depthAll, PyData.depth, this]
    first | rfl | omega
theorem readsAll_ints {h : Heap} : ∀ {ns : List Int} {vs : List Value}, Vals (ns.map V.int) vs → ReadsAll h vs (ns.map PyData.int) []
  | [], vs, r => by
    cases r
    exact .nil
  | n :: ns, vs, r => by
    cases r with
    | cons r1 r2 =>
      obtain ⟨t, rfl⟩ := r1
      exact ReadsAll.cons (as := []) (bs := []) (.int n t) (readsAll_ints r2)
def foldI (f : Int → Int → Int) : List Int → Int
  | [] => 0
  | n :: ns => ns.foldl f n
def rFold (K : PySem.W.Frag) (f : Int → Int → Int) : List V → Hp → VK → Prop := fun vs H Q => ∃ (a : Addr) (ns : List Int), vs = [V.ref a] ∧ SqT K H a (ns.map V.int) ∧ ns ≠ [] ∧ Q (.int (foldI f ns)) H
theorem cr_minT (hc : X.calm = true) (hu : X.A.units + 64 < cLine) : CallR X (.builtin "min") (rFold X.K min) := by
  intro pins s σ H vs us Q I r h
  obtain ⟨a, ns, rfl, hs, hne, q⟩ := h
  obtain ⟨its, rv, ⟨o, h1, h2, n, h3⟩, _⟩ := I.tuple hs
  rw [Vals.ref1 r]
  cases ns with
  | nil => exact absurd rfl hne
  | cons m ms =>
    refine PySem.W.min_tuple_data (I.ok.hd hc) ⟨o, h1, h2, n, h3⟩ (by rw [List.toList_toArray]; exact readsAll_ints rv) (alike_all_ints (m :: ms)) (by
      have := depth0 (m :: ms)
      simp only [List.map_cons] at this
      rw [this]
      omega) fun i v h' tk bs _ rd kk => ?_
    rw [PySem.W.minD_ints] at rd
    cases rd with
    | int _ t => exact ⟨.int _, H, I.kept kk, ⟨t, rfl⟩, q⟩
theorem cr_maxT (hc : X.calm = true) (hu : X.A.units + 64 < cLine) : CallR X (.builtin "max") (rFold X.K max) := by
  intro pins s σ H vs us Q I r h
  obtain ⟨a, ns, rfl, hs, hne, q⟩ := h
  obtain ⟨its, rv, ⟨o, h1, h2, n, h3⟩, _⟩ := I.tuple hs
  rw [Vals.ref1 r]
  cases ns with
  | nil => exact absurd rfl hne
  | cons m ms =>
    refine PySem.W.max_tuple_data (I.ok.hd hc) ⟨o, h1, h2, n, h3⟩ (by rw [List.toList_toArray]; exact readsAll_ints rv) (alike_all_ints (m :: ms)) (by
      have := depth0 (m :: ms)
      simp only [List.map_cons] at this
      rw [this]
      omega) fun i v h' tk bs _ rd kk => ?_
    rw [PySem.W.maxD_ints] at rd
    cases rd with
    | int _ t => exact ⟨.int _, H, I.kept kk, ⟨t, rfl⟩, q⟩
def intsOf : List D → Option (List Int)
  | [] => some []
  | .int n :: ds => (intsOf ds).map (n :: ·)
  | _ => none
theorem intsOf_map : ∀ ns : List Int, intsOf (ns.map .int) = some ns
  | [] => rfl
  | n :: ns => by
    show (intsOf (ns.map .int)).map (n :: ·) = _
    rw [intsOf_map ns] <;> rfl
theorem rps_of_ints {F : Hp} : ∀ {ds : List D} {ns : List Int} {vs : List V}, intsOf ds = some ns → Rps K F ds vs → vs = ns.map V.int
  | [], ns, vs, h, r => by
    cases h
    exact r
  | d :: ds, ns, vs, h, r => by
    obtain ⟨v, w, e, h1, h2⟩ := r
    cases d with
    | int n =>
      have h' : (intsOf ds).map (n :: ·) = some ns := h
      cases hi : intsOf ds with
      | none => rw [hi] at h'; cases h'
      | some ms =>
        rw [hi] at h'
        cases h'
        rw [e, show v = V.int n from h1, rps_of_ints hi h2] <;> rfl
    | _ => cases h
/-- min(t), max(t) -/
def dFold (f : Int → Int → Int) : List D → (D → Prop) → Prop := fun xs Φ => match xs with
  | [.tup ds] => ∃ ns, intsOf ds = some ns ∧ ns ≠ [] ∧ Φ (.int (foldI f ns))
  | _ => False
theorem cd_fold {f : Int → Int → Int} : CallD K (rFold K f) (dFold f) := by
  intro Z M σ H Δ F xs vs Φ c r k Q q
  unfold dFold at k
  split at k
  · obtain ⟨ns, hi, hne, k⟩ := k
    obtain ⟨v, ev, r1⟩ := DL.vals1 r
    obtain ⟨a, ws, ea, g1, g2⟩ := r1
    have e2 := rps_of_ints hi g2
    subst e2
    exact ⟨a, ns, by rw [ev, ea], Evl.ex_t c.bs.fH g1, hne, q _ H (.int _) F (Ex.refl _) c rfl k⟩
  · exact k.elim
theorem qe_minT {p : Pos} (hc : X.calm = true) (hu : X.A.units + 64 < cLine) (hg : Gl X "min") (hm : X.mg "min" = none) (ha : QA X Z 1 [e] (dCons r dNil)) (he : starEach [e] X.env = (false, eval e X.env) :: starEach [] X.env := by rfl) (hpl : (backTo pos (starEach [] X.env)).any (·.1) = false := by rfl) : QE X Z (.Call (.Name "min" p) [e] [] pos) (dCB (dFold min) (dCons r dNil)) :=
  qe_cb (cr_minT hc hu) cd_fold hg hm (by decide +kernel) ha (by decide) (by decide) he hpl
theorem qe_maxT {p : Pos} (hc : X.calm = true) (hu : X.A.units + 64 < cLine) (hg : Gl X "max") (hm : X.mg "max" = none) (ha : QA X Z 1 [e] (dCons r dNil)) (he : starEach [e] X.env = (false, eval e X.env) :: starEach [] X.env := by rfl) (hpl : (backTo pos (starEach [] X.env)).any (·.1) = false := by rfl) : QE X Z (.Call (.Name "max" p) [e] [] pos) (dCB (dFold max) (dCons r dNil)) :=
  qe_cb (cr_maxT hc hu) cd_fold hg hm (by decide +kernel) ha (by decide) (by decide) he hpl
end
end DL

set_option Elab.async false
set_option linter.all false
set_option maxRecDepth 100000
set_option maxHeartbeats 4000000
/-! enumerate of a list or a tuple -/
namespace DL
open PySem PySem.Spec PyProof.Rows L2
open PySem (wpAny_stack_any)
open Evl (Ex)
section
variable {prog : Program} {w : World} {A : Around} {E : Value → Shared → Prop} {s : Shared}
abbrev enObj (it : Addr) : Obj :=
  { cls := .type "enumerate"
    data := .fields #[.none, .bool false, .ref it, rawInt 0, .none, .none] }
theorem new_enum {v : Value} {ob : Obj} {Hh : Heap → Prop} (B : Begins v ob Hh) :
    Meets (Builtin.«enumerate.__new__» ⟨[.type "enumerate", v], []⟩) (fun _ R s => Hh s.heap ∧
      R (.ok (.ret (.ref (s.heap.push ob).objs.size))) { s with heap := (s.heap.push ob).push (enObj s.heap.objs.size) }) :=
  .of_wp fun prog w A R s h => by
    obtain ⟨hp, g, d, tk, os⟩ := s
    obtain ⟨b1, h⟩ := h
    have sb := sub_enumerate
    have itq : ∀ {A1 : Around} {E : Value → Shared → Prop} {Q : Value → Shared → Prop},
        Q (.ref hp.objs.size) ⟨hp.push ob, g, d, tk, os⟩ →
        wpAny (model prog w) A1 (pyIter v) Q E ⟨hp, g, d, tk, os⟩ :=
      fun q => B.iter prog w _ _ ⟨hp, g, d, tk, os⟩ _ b1 q
    wp_walk using itq
    refine wpAny_stack_any fun _ => (wpAny_pure ?_)
    split
    · rename_i c1 _ _ _ _ _
      cases (c1 == Value.type "enumerate")
      · wp_walk using itq
        exact ⟨_, rfl, h⟩
      · wp_walk using itq
        exact ⟨_, rfl, h⟩
    · wp_walk using itq
      exact ⟨_, rfl, h⟩
theorem call_enum {v : Value} {ob : Obj} {Hh : Heap → Prop} {Q : Value → Shared → Prop} (B : Begins v ob Hh) (b1 : Hh s.heap)
    (k : ∀ h1, IsEnum h1 (s.heap.objs.size + 1) s.heap.objs.size 0 .none → h1.get? s.heap.objs.size = some ob → h1.objs.size = s.heap.objs.size + 2 →
      (∀ b o, s.heap.get? b = some o → h1.get? b = some o) → Q (.ref (s.heap.objs.size + 1)) { s with heap := h1 }) :
    wpAny (model prog w) A (call (.type "enumerate") [v]) Q E s := by
  refine callType_new F.called_enumerate (by decide) (F.typeCall_enumerate_1 _) (F.newCall_enumerate_1 _)
    (fun obj => F.args_object_init_2 obj _) F.entry_enumerate_new (new_enum B) ⟨b1, ?_⟩
  have z1 : (s.heap.push ob).objs.size = s.heap.objs.size + 1 := Heap.size_push ..
  show _ ∧ _
  rw [z1]
  have g1 := Heap.get?_push_size (s.heap.push ob) (o := enObj s.heap.objs.size) rfl
  rw [z1] at g1
  refine ⟨⟨_, g1, rfl⟩, k _ g1 (Heap.get?_push_of_some _ (Heap.get?_push_size _ B.free)) ?_ ?_⟩
  · rw [Heap.size_push, z1]
  · exact fun b o x => Heap.get?_push_of_some _ (Heap.get?_push_of_some _ x)
theorem draws_tup {it a : Addr} {its : Array Value} (hh : A.handled = none) (hne : a ≠ it) : Draws prog w A it [it, a] its.size (fun i x => its[i]? = some x)
    (fun i h => h.IsTupleIter it a i ∧ h.IsTuple a its) where
  live := fun i h st => let ⟨⟨o, ho, _⟩, _⟩ := st; ⟨o, ho⟩
  frame := fun i h h1 st k => ⟨st.1.at fun o x => k it (by simp) o x, st.2.at fun o x => k a (by simp) o x⟩
  item := fun i s Q E hi st hQ => by
    obtain ⟨s1, s2⟩ := st
    have hx : its[i]? = some its[i] := Array.getElem?_eq_getElem hi
    exact RZ.nextOf_tuple_item s1 s2 hx fun h1 n1 sb => hQ _ h1 s.toks hx ⟨n1, s2.at fun o x => (sb.2 a hne).trans x⟩ sb
  done := fun s Q E st hE => by
    obtain ⟨s1, s2⟩ := st
    exact RZ.nextOf_tuple_end hh s1 s2 (Array.getElem?_eq_none (Nat.le_refl _)) fun h1 x sb q => hE h1 x sb q
end
/-- the tuple at a as it stands at each turn, each item in a new pair -/
def ItE (K : PySem.W.Frag) (a : Addr) (n : Nat) : It :=
  ⟨fun i H => ∃ (xs : List V) (x : V), SqT K H a xs ∧ xs[i]? = some x ∧ xs.length = n,
   fun i H v H1 => ∃ T x, v = .ref T ∧ H T = none ∧ H1 = upd H T (.tup [.int (i : Nat), x]) ∧ ∀ xs, SqT K H a xs → xs[i]? = some x,
   fun i H => ∃ xs : List V, SqT K H a xs ∧ xs.length ≤ i ∧ xs.length = n⟩
theorem turn_enT {P : Program} {w : World} {K : PySem.W.Frag} {elts : List Expr} {kk : Nat} {tpos : Pos} (a e it : Addr) (n : Nat) :
    Turn P w K (.Tuple elts kk tpos) (ItE K a n) [e, it] e
      (fun i h => (∃ old, IsEnum h e it ((i : Nat) : Int) old) ∧ h.IsTupleIter it a i ∧ e ≠ it ∧ i ≤ n) where
  mem := by simp
  obj := fun i h st b hb => by
    obtain ⟨⟨old, he⟩, ⟨o, ho, hc, hd⟩, _⟩ := st
    rcases (show b = e ∨ b = it by simpa using hb) with z | z
    · subst z
      exact ⟨_, he, fun v q => nomatch q⟩
    · subst z
      exact ⟨o, ho, fun v q => by rw [hd] at q; cases q⟩
  keep := fun i h h1 st k => by
    obtain ⟨⟨old, he⟩, hi, hne⟩ := st
    exact ⟨⟨old, k e (by simp) _ he⟩, hi.at fun o q => k it (by simp) o q, hne⟩
  item := by
    intro X hP hw hK hc i pins s σ H E I hf st hg
    subst hP hw hK
    obtain ⟨⟨old, he⟩, hit, hne, hin⟩ := st
    obtain ⟨xs, x, hq, hx, hn⟩ := hg
    obtain ⟨its, rv, p, hz⟩ := I.tuple hq
    have pt : s.heap.IsTuple a its.toArray := p
    have hat : ∀ c, c ∈ [e, it] → a ≠ c := fun c hc z => by
      subst z
      obtain ⟨o1, ho1, hc1, _⟩ := pt
      rcases (show a = e ∨ a = it by simpa using hc) with z | z
      · subst z
        have he' : s.heap.get? a = some _ := he
        rw [he'] at ho1
        cases ho1
        exact absurd (Value.type.inj hc1) (by decide)
      · subst z
        obtain ⟨o2, ho2, hc2, _⟩ := hit
        rw [ho2] at ho1
        cases ho1
        rw [hc2] at hc1
        exact absurd (Value.type.inj hc1) (by decide)
    have hae := hat e (by simp)
    have hai := hat it (by simp)
    have hil : i < its.toArray.size := by
      have := (List.getElem?_eq_some_iff.mp hx).1
      have := rv.length
      rw [List.size_toArray]
      omega
    have e1 : e < s.heap.objs.size := Heap.lt_size he
    have e2 : it < s.heap.objs.size := by
      obtain ⟨_, q, _⟩ := hit
      exact Heap.lt_size q
    refine wpAny_pyNext_enum_itemD (draws_tup (A := X.A.in1) (a := a) (its := its.toArray) (I.ok.hd hc) hai) he ⟨hit, pt⟩ hil hne ?_ ?_
    · intro z
      rcases (show e = it ∨ e = a by simpa using z) with z | z
      · exact hne z
      · exact hae z.symm
    intro u h1 tk hu ho hst hT hsz hk
    obtain ⟨hit1, _⟩ := hst
    obtain ⟨u', hu', ru⟩ := rv.get hx
    have euu : u = u' := by
      have hu2 : its[i]? = some u := by simpa using hu
      rw [hu'] at hu2
      exact (Option.some.inj hu2).symm
    subst euu
    refine ⟨_, rfl, wpAny_letOwnedTupleGo_enum (s := { s with heap := h1, toks := tk + 1 }) ho fun h2 he2 sb => ?_⟩
    have hT2 : h2.get? s.heap.objs.size = some { cls := .type "tuple", data := .seq #[.int i tk, u] } := (sb.2 _ (Nat.ne_of_gt e1)).trans hT
    have new : ObjOk X.prog X.w (upd H s.heap.objs.size (.tup [.int (i : Nat), x])) h2 s.heap.objs.size (.tup [.int (i : Nat), x]) :=
      ⟨(by show 2 ≤ sizeLine; decide), [.int i tk, u], .cons ⟨tk, rfl⟩ (.cons ru .nil), ⟨_, hT2, rfl, _, rfl⟩⟩
    have I1 : Inv X pins σ (upd H s.heap.objs.size (.tup [.int (i : Nat), x])) { s with heap := h2, toks := tk + 1 } := by
      refine I.turnedNew (ch := [e, it]) (fun b ob hb q => ?_) hf (Nat.le_refl _) new
      have n1 : b ≠ e := fun z => hb (by simp [z])
      have n2 : b ≠ it := fun z => hb (by simp [z])
      exact (sb.2 b n1).trans (hk b ob n1 n2 q)
    refine ⟨.ref s.heap.objs.size, _, I1, rfl, ⟨_, x, rfl, I.hok.fresh (Nat.le_refl _), rfl, fun ys hy => ?_⟩, ⟨⟨u, ?_⟩, ?_, hne, ?_⟩, fun b hb => ?_⟩
    · rw [I.tuple_inj hy hq]
      exact hx
    · have c1 : ((i + 1 : Nat) : Int) = (i : Int) + 1 := by omega
      rw [c1]
      exact he2
    · exact hit1.at fun o q => (sb.2 it (Ne.symm hne)).trans q
    · have := (List.getElem?_eq_some_iff.mp hx).1
      omega
    · have hb1 : b < s.heap.objs.size := by
        rcases (show b = e ∨ b = it by simpa using hb) with z | z <;> subst z <;> assumption
      rw [upd_ne (Nat.ne_of_lt hb1)]
      exact (hf b hb).1
  done := by
    intro X hP hw hK hc i pins s σ H E I hf st hg
    subst hP hw hK
    obtain ⟨⟨old, he⟩, hit, hne, hin⟩ := st
    obtain ⟨xs, hq, hx, hn⟩ := hg
    obtain ⟨its, rv, p, hz⟩ := I.tuple hq
    have pt : s.heap.IsTuple a its.toArray := p
    have hai : a ≠ it := fun z => by
      subst z
      obtain ⟨o1, ho1, hc1, _⟩ := pt
      obtain ⟨o2, ho2, hc2, _⟩ := hit
      rw [ho2] at ho1
      cases ho1
      rw [hc2] at hc1
      exact absurd (Value.type.inj hc1) (by decide)
    have hi : i = its.toArray.size := by
      have := rv.length
      rw [List.size_toArray]
      omega
    obtain ⟨f0, f1, f2, f3, f4, f5⟩ := hf it (by simp)
    rw [hi] at hit
    exact wpAny_pyNext_enum_endD (draws_tup (A := X.A.in1) (a := a) (its := its.toArray) (I.ok.hd hc) hai) he ⟨hit, pt⟩ fun h1 eb => ⟨rfl, I.turned (t' := s.toks) (fun b o hb z => eb b o hb z) f0 f1 f3 f4 f5⟩
  self := fun A i s Q E st h => by
    obtain ⟨⟨old, he⟩, _⟩ := st
    exact wpAny_pyIter_enum he h
/-! ### for i, x in enumerate(t) -/
def wEnT (K : PySem.W.Frag) (R : It → Hp → Prop) : V → Hp → Prop := fun v H1 => ∃ a xs, v = .ref a ∧ ((SqT K H1 a xs ∧ R (ItE K a xs.length) H1) ∨ (SqL K H1 a xs ∧ R (Ite K a) H1))
def oneV (f : V → Hp → Prop) : List V → Hp → Prop := fun vs H1 => match vs with
  | [v] => f v H1
  | _ => False
def iEnT (K : PySem.W.Frag) (te : TE) : TI := fun σ H R => te σ H (wEnT K R)
section
variable {X : Cx} {Z : Zx} {e : Expr} {r : RE} {p pos tpos : Pos} {elts : List Expr} {kk : Nat}
theorem pi_enT {te : TE} (hg : Gl X "enumerate") (hm : X.mg "enumerate" = none) (ha : PE X e te) (hs : starEach [e] X.env = (false, eval e X.env) :: starEach [] X.env := by rfl) :
    PI X (.Tuple elts kk tpos) (.Call (.Name "enumerate" p) [e] [] pos) (iEnT X.K te) := by
  refine ⟨fun pins s σ H R I h => ?_⟩
  refine Call_ (ld_blt I hg hm boot_enumerate (PyProof.Rows.callWith_type1
    (thn ((pa_cons ha pa_nil hs).run pos pins s σ H (oneV (wEnT X.K R)) I h) fun us s1 ⟨vs, H1, I1, r1, q1⟩ => ?_) hs rfl))
  match vs, q1 with
  | [v], ⟨a, xs, ev, q⟩ =>
    subst ev
    obtain ⟨u, rfl, ru⟩ := L2.vals1 r1
    obtain rfl : u = Value.ref a := ru
    have fresh2 : ∀ b, b ∈ [s1.heap.objs.size + 1, s1.heap.objs.size] → s1.heap.objs.size ≤ b := fun b hb => by
      rcases (show b = s1.heap.objs.size + 1 ∨ b = s1.heap.objs.size by simpa using hb) with z | z
      · rw [z]; exact Nat.le_add_right _ _
      · rw [z]; exact Nat.le_refl _
    rcases q with ⟨hq, q⟩ | ⟨hq, q⟩
    · obtain ⟨its, rv, pt, _⟩ := I1.tuple hq
      refine call_enum (begins_tuple a its.toArray) (show s1.heap.IsTuple a its.toArray from pt) fun h1 he hit hsz hk => wpAny_pyIter_enum he ?_
      refine ⟨s1.heap.objs.size + 1, [s1.heap.objs.size + 1, s1.heap.objs.size], _, _, H1, rfl, I1.kept (t' := s1.toks) hk,
        turn_enT a (s1.heap.objs.size + 1) s1.heap.objs.size xs.length, ⟨⟨.none, he⟩, ⟨_, hit, rfl, rfl⟩, Nat.succ_ne_self _, Nat.zero_le _⟩, fun b hb => ?_, q⟩
      exact I1.fpOk (fresh2 b hb) (I1.hok.fresh (fresh2 b hb))
    · obtain ⟨its, rv, pt, _⟩ := I1.list hq
      refine call_enum (begins_list a its.toArray) pt.isList fun h1 he hit hsz hk => wpAny_pyIter_enum he ?_
      refine ⟨s1.heap.objs.size + 1, [s1.heap.objs.size + 1, s1.heap.objs.size], _, _, H1, rfl, I1.kept (t' := s1.toks) hk,
        turn_enum a (s1.heap.objs.size + 1) s1.heap.objs.size, ⟨⟨.none, he⟩, ⟨_, hit, rfl, rfl⟩, Nat.succ_ne_self _⟩, fun b hb => ?_, q⟩
      exact I1.fpOk (fresh2 b hb) (I1.hok.fresh (fresh2 b hb))
/-- the items of enumerate -/
def enumD (k : Nat) : List D → List D
  | [] => []
  | d :: ds => .tup [.int (k : Nat), d] :: enumD (k + 1) ds
theorem enumD_len : ∀ (k : Nat) (ds : List D), (enumD k ds).length = ds.length
  | _, [] => rfl
  | k, d :: ds => by
    unfold enumD
    rw [List.length_cons, List.length_cons, enumD_len]
theorem enumD_get : ∀ (k i : Nat) (ds : List D) (x : D), (enumD k ds)[i]? = some x → ∃ d, ds[i]? = some d ∧ x = .tup [.int ((k + i : Nat) : Int), d]
  | _, _, [], _, h => by cases h
  | k, 0, d :: ds, x, h => by
    cases h
    exact ⟨d, rfl, rfl⟩
  | k, i + 1, d :: ds, x, h => by
    obtain ⟨d', h1, h2⟩ := enumD_get (k + 1) i ds x h
    refine ⟨d', h1, ?_⟩
    rw [h2]
    congr 4
    omega
/-- the items of what is frozen, with their numbers -/
def dEnum (r : RE) : RI := dItems r |> fun ri Δ M Φ => ri Δ M fun ds Δ1 M1 => Φ (enumD 0 ds) Δ1 M1
theorem walkD_en {K : PySem.W.Frag} {F : Hp} {a : Addr} {xs : List V} {ds : List D} {J : It} {Sq : Hp → Prop} (hw : Walk J xs.length Sq (YPair (fun i => some (.int (i : Nat))) (fun i => xs[i]?))) (hx : ∀ H, Ex F H → Sq H) (hr : Rps K F ds xs) : WalkD K J (enumD 0 ds) F := by
  refine ⟨Sq, _, by rw [enumD_len, ← rps_len hr]; exact hw, hx, fun i H x H1 d hd e y => .inr ?_⟩
  obtain ⟨T, x1, x2, e1, e2, e3, e4, e5⟩ := y
  obtain ⟨d', h1, h2⟩ := enumD_get 0 i ds d hd
  obtain ⟨v, h3, h4⟩ := rps_get hr h1
  have e5' : xs[i]? = some x2 := e5
  rw [e5'] at h3
  cases h3
  have e4' : some (V.int (i : Nat)) = some x1 := e4
  cases e4'
  exact ⟨T, _, [.int ((0 + i : Nat) : Int), d'], e1, e2, e3, h2, ⟨_, _, rfl, (by show V.int _ = V.int _; congr 1; omega), x2, _, rfl, h4, rfl⟩⟩
theorem walk_enT {K : PySem.W.Frag} {a : Addr} {xs : List V} : Walk (ItE K a xs.length) xs.length (fun H => SqT K H a xs) (YPair (fun i => some (.int (i : Nat))) (fun i => xs[i]?)) := by
  refine ⟨fun i H hi q => ⟨xs, xs[i], q, by simp [hi], rfl⟩, fun H q => ⟨xs, q, Nat.le_refl _, rfl⟩, fun i H v H1 _ q y => ?_⟩
  obtain ⟨T, x, h1, h2, h3, h4⟩ := y
  exact ⟨T, .int (i : Nat), x, h1, h2, h3, rfl, h4 xs q⟩
theorem qi_enum (hg : Gl X "enumerate") (hm : X.mg "enumerate" = none) (h : QE X Z e r) (hs : starEach [e] X.env = (false, eval e X.env) :: starEach [] X.env := by rfl) : QI X Z (.Tuple elts kk tpos) (.Call (.Name "enumerate" p) [e] [] pos) (dEnum r) := by
  obtain ⟨t, pe, s⟩ := h
  refine ⟨_, pi_enT hg hm pe hs, fun M σ H Δ F Φ c h R q => ?_⟩
  refine s M σ H Δ F _ c h _ fun v H1 y Δ1 M1 F1 e1 c1 r1 h1 => ?_
  cases y with
  | lst ds =>
    obtain ⟨a, vs, e2, g1, g2⟩ := r1
    exact ⟨a, vs, e2, .inr ⟨SqL.of (c1.bs.fH _ _ g1), q _ H1 _ Δ1 M1 F1 e1 c1 (walkD_en (a := a) walk_enum (fun H e => SqL.of (e _ _ g1)) g2) h1⟩⟩
  | scr ns =>
    obtain ⟨a, e2, g1⟩ := r1
    exact ⟨a, _, e2, .inr ⟨Evl.ex_l c1.bs.fH g1, q _ H1 _ Δ1 M1 F1 e1 c1 (walkD_en (a := a) walk_enum (fun H e => Evl.ex_l e g1) (ints_rps ns)) h1⟩⟩
  | tup ds =>
    obtain ⟨a, vs, e2, g1, g2⟩ := r1
    exact ⟨a, vs, e2, .inl ⟨Evl.ex_t c1.bs.fH g1, q _ H1 _ Δ1 M1 F1 e1 c1 (walkD_en (a := a) walk_enT (fun H e => Evl.ex_t e g1) g2) h1⟩⟩
  | _ => exact h1.elim
end
end DL

set_option Elab.async false
set_option linter.all false
set_option maxRecDepth 100000
set_option maxHeartbeats 4000000
/-! sums, comprehensions frozen at once, exceptions of one field, written tuples -/
namespace DL
open PySem PySem.Spec PyProof.Rows L2
open Evl (Ex)
section
variable {X : Cx} {Z : Zx} {e a b o : Expr} {ra rb r : RE} {pos : Pos} {K : PySem.W.Frag}
theorem op_addT : OpR X (binaryOp .Add) (fun x y H Q => rAddAll X.K x y H Q ∨ rCatA X.K x y H Q) := OpR.or op_addAll op_catA
theorem opD_addT : OpD K (fun x y H Q => rAddAll K x y H Q ∨ rCatA K x y H Q) dAddT := OpD.or opD_add od_catA fun x y Φ k => by
  unfold dAddT at k
  split at k
  · exact .inr k
  · exact .inl k
theorem qe_addT (ha : QE X Z a ra) (hb : QE X Z b rb) : QE X Z (.BinOp a .Add b pos) (dOp dAddT ra rb) := qe_bin op_addT opD_addT ha hb
end
section
variable {X : Cx} {Z : Zx} {elt tge iter tge1 iter1 : Expr} {ifs ifs1 : List Expr} {scope : Scope} {own : List (Str × Nat)} {us vs : List Nat} {pos : Pos} {g g1 : TG} {tg tg1 : RG} {ri ri1 : RI} {rt rt1 : RT} {r : RE}
theorem qs_setLcD {i : Nat} {y : Str} {py spos : Pos} (hc : X.calm = true) (hN : X.N.Nodup) (hy : X.N[i]? = some y) (hyl : X.env.scope.names.lookup y = some .local)
    (hsw : swapsWith (.ListComp elt [⟨tge, iter, ifs, 0⟩] scope pos) (some (.Name y py)) spos.line X.env = pure true) (hi : QI X Z tge iter ri) (ok : BlkOk X.N X.env.scope scope own) (sg : SimGw X.K vs g tg)
    (hg : ∀ (s : Shared) (H : Hp) (C : Addr) (cl : List (Str × Addr)) (fp : List Addr), PG (X.blk s H scope (compEnvC scope cl C X.env) fp) tge g)
    (ht : ∀ (s : Shared) (H : Hp) (C : Addr) (cl : List (Str × Addr)) (fp : List Addr), PTs (X.blk s H scope (compEnvC scope cl C X.env) fp) ifs (ttOf X.K rt))
    (he : ∀ (s : Shared) (H : Hp) (C : Addr) (cl : List (Str × Addr)) (fp : List Addr) (Z : Zx), QE (X.blk s H scope (compEnvC scope cl C X.env) fp) Z elt r)
    (hs : ∀ x, foldedSetIterable iter X.env x = pure x := by intro _; rfl) (hv : own.map (·.2) = vs := by rfl) : QS X Z (.Assign [.Name y py] (.ListComp elt [⟨tge, iter, ifs, 0⟩] scope pos) spos) (dSet i (dFz (dLc vs ri tg rt r))) := by
  subst hv
  obtain ⟨w, p, s⟩ := hi
  refine ⟨_, ps_setLc (i := i) (te := tOf X.K r) (tt := ttOf X.K rt) hc hN hy hyl hsw p ok hg ht (fun s H C cl fp => pe_of (X := X.blk s H scope (compEnvC scope cl C X.env) fp) (he s H C cl fp)) hs, fun M σ H Δ F De c h Dv ok => ?_⟩
  have h : dLc (own.map (·.2)) ri tg rt r Δ M (fun ds Δ1 M1 => De.nx (Δ1.set i (.d (.lst ds))) M1) := h
  refine simL_lc s sg M σ H Δ F _ c h _ fun p H1 vs ds Δ1 M1 F1 e1 c1 hp r1 h1 => ?_
  exact ok.nx _ _ _ M1 _ (e1.trans (c1.bs.exF hp _)) ((c1.new hp _).set (d := .lst ds) ⟨p, vs, rfl, upd_same, rps_mono (c1.bs.exF hp _) _ _ r1⟩ i) h1
theorem qs_setLc2D {i : Nat} {y : Str} {py spos : Pos} (hc : X.calm = true) (hN : X.N.Nodup) (hy : X.N[i]? = some y) (hyl : X.env.scope.names.lookup y = some .local)
    (hsw : swapsWith (.ListComp elt [⟨tge, iter, ifs, 0⟩, ⟨tge1, iter1, ifs1, 0⟩] scope pos) (some (.Name y py)) spos.line X.env = pure true) (hi : QI X Z tge iter ri) (ok : BlkOk X.N X.env.scope scope own) (hu : ∀ i ∈ us, i ∈ vs) (sg : SimGw X.K vs g tg) (sg1 : SimGw X.K us g1 tg1)
    (hg : ∀ (s : Shared) (H : Hp) (C : Addr) (cl : List (Str × Addr)) (fp : List Addr), PG (X.blk s H scope (compEnvC scope cl C X.env) fp) tge g)
    (ht : ∀ (s : Shared) (H : Hp) (C : Addr) (cl : List (Str × Addr)) (fp : List Addr), PTs (X.blk s H scope (compEnvC scope cl C X.env) fp) ifs (ttOf X.K rt))
    (hi1 : ∀ (s : Shared) (H : Hp) (C : Addr) (cl : List (Str × Addr)) (fp : List Addr) (Z : Zx), QI (X.blk s H scope (compEnvC scope cl C X.env) fp) Z tge1 iter1 ri1)
    (hg1 : ∀ (s : Shared) (H : Hp) (C : Addr) (cl : List (Str × Addr)) (fp : List Addr), PG (X.blk s H scope (compEnvC scope cl C X.env) fp) tge1 g1)
    (ht1 : ∀ (s : Shared) (H : Hp) (C : Addr) (cl : List (Str × Addr)) (fp : List Addr), PTs (X.blk s H scope (compEnvC scope cl C X.env) fp) ifs1 (ttOf X.K rt1))
    (he : ∀ (s : Shared) (H : Hp) (C : Addr) (cl : List (Str × Addr)) (fp : List Addr) (Z : Zx), QE (X.blk s H scope (compEnvC scope cl C X.env) fp) Z elt r)
    (hs : ∀ x, foldedSetIterable iter X.env x = pure x := by intro _; rfl) (hs1 : ∀ env x, foldedSetIterable iter1 env x = pure x := by intro _ _; rfl) (hv : own.map (·.2) = vs := by rfl) :
    QS X Z (.Assign [.Name y py] (.ListComp elt [⟨tge, iter, ifs, 0⟩, ⟨tge1, iter1, ifs1, 0⟩] scope pos) spos) (dSet i (dFz (dLc2 vs us ri tg rt ri1 tg1 rt1 r))) := by
  subst hv
  obtain ⟨w, p, s⟩ := hi
  refine ⟨_, ps_setLc2 (i := i) (te := tOf X.K r) (tt := ttOf X.K rt) (tt1 := ttOf X.K rt1) (wi1 := iOf X.K ri1) hc hN hy hyl hsw p ok hu hg ht (fun s H C cl fp => pi_of (X := X.blk s H scope (compEnvC scope cl C X.env) fp) (hi1 s H C cl fp)) hg1 ht1 (fun s H C cl fp => pe_of (X := X.blk s H scope (compEnvC scope cl C X.env) fp) (he s H C cl fp)) hs hs1, fun M σ H Δ F De c h Dv ok => ?_⟩
  have h : dLc2 (own.map (·.2)) us ri tg rt ri1 tg1 rt1 r Δ M (fun ds Δ1 M1 => De.nx (Δ1.set i (.d (.lst ds))) M1) := h
  refine simL_lc2 s sg sg1 hu M σ H Δ F _ c h _ fun p H1 vs ds Δ1 M1 F1 e1 c1 hp r1 h1 => ?_
  exact ok.nx _ _ _ M1 _ (e1.trans (c1.bs.exF hp _)) ((c1.new hp _).set (d := .lst ds) ⟨p, vs, rfl, upd_same, rps_mono (c1.bs.exF hp _) _ _ r1⟩ i) h1
end
/-- an own exception's __init__ of one field -/
theorem init1 {K : PySem.W.Frag} {C : Addr} {f1 a b : Str} {vs : List V} {H : Hp} {Q : VK} {E : XK} (T : OexC K C) (n1 : PySem.W.findIn K (.ref C) f1 = some none) (h : spInit C [f1] vs H Q E) :
    tOst K f1 (tVar 0) (tVar 1) { nx := fun _ H' => Q .non H', rt := Q } (L2.start [a, b] vs) H := by
  obtain ⟨e, ws, rfl, hl, he, k⟩ := h
  match ws, hl with
  | [x], _ =>
    refine ⟨x, rfl, .ref e, rfl, e, C, rfl, T, n1, .inl ⟨he, fun dx hdx hne => ?_⟩⟩
    refine k dx _ hdx hne ?_ ?_ fun u h1 h2 => ?_
    · rw [upd_same]
    · rw [upd_ne hne, upd_same] <;> rfl
    · rw [upd_ne h1, upd_ne h2]
/-- a tuple of texts of the module -/
def strsD (xs : List Str) : D := .tup (xs.map .str)
theorem rp_strs {K : PySem.W.Frag} {F : Hp} {c : Addr} {o : Obj} {its : Array Value} {n : Nat} {xs : List Str} (hk : K.lookup c = some o) (hc : o.cls = .type "tuple") (hd : o.data = .seq its n) (hz : its.size ≤ sizeLine) (hv : Vals (xs.map V.str) its.toList) : Rp K F (strsD xs) (.ref c) := by
  refine ⟨c, xs.map V.str, rfl, .inr ⟨o, its, n, hk, hc, hd, hz, hv⟩, ?_⟩
  clear hv
  induction xs with
  | nil => rfl
  | cons x xs ih => exact ⟨_, _, rfl, rfl, ih⟩
end DL

set_option Elab.async false
set_option linter.all false
set_option maxRecDepth 100000
set_option maxHeartbeats 4000000
/-! a, b, *c = xs -/
namespace L2
open PySem PySem.Spec PyProof.Rows
section
variable {prog : Program} {w : World} {A : Around} {E : Value → Shared → Prop} {s : Shared}
theorem new_list {us : List Value} {Q : Value → Shared → Prop} (hz : us.length ≤ sizeLine) (h : Q (.ref s.heap.objs.size) { s with heap := s.heap.push { cls := .type "list", data := .seq us.toArray } }) : wpAny (model prog w) A (newList us) Q E s := by
  unfold newList
  exact wpAny_newObj_type h (by size_fits)
theorem unp_starL {l : Addr} {items : Array Value} {n : Nat} {Q : List Value → Shared → Prop} (hl : s.heap.IsList l items) (hh : A.handled = none) (hn : n ≤ items.size) (hz : items.size ≤ 16384)
    (h : ∀ (h' : Heap) (tk : Nat), (∀ b o, s.heap.get? b = some o → h'.get? b = some o) → Q (items.toList.take n ++ [.ref h'.objs.size]) { s with heap := h'.push { cls := .type "list", data := .seq (items.toList.drop n).toArray }, toks := tk }) :
    wpAny (model prog w) A (unpackItems (.ref l) (n + 1) (some n)) Q E s := by
  have hlt : l ≠ s.heap.objs.size := by obtain ⟨o, ho, _⟩ := hl; exact Nat.ne_of_lt (Heap.lt_size ho)
  have hll : l < s.heap.objs.size := by obtain ⟨o, ho, _⟩ := hl; exact Heap.lt_size ho
  unfold unpackItems
  refine wpAny_bind ?_
  unfold notIterableAtAll
  refine wpAny_bind (wpAny_specialOf hl.typeIs slot_list_iter.lookup ?_)
  refine wpAny_pure ?_
  simp only [Bool.false_eq_true, if_false]
  refine wpAny_bind (wpAny_holding (wpAny_pyIter_list hl ?_))
  refine wpAny_bind (wpAny_holding (PySem.W.kun_draw hlt n 0 _ _ ⟨_, Heap.get?_push_size _ rfl, rfl, rfl⟩ (hl.push _) (by omega) fun h₁ hit₁ hs₁ => ?_))
  have hl₁ : h₁.IsList l items := (hl.push _).extBut hs₁.extBut hlt
  rw [Nat.zero_add] at hit₁
  have hit₁' := hit₁
  obtain ⟨oi, hoi, _⟩ := hit₁'
  have hl₁' := hl₁
  obtain ⟨ol, hol, _⟩ := hl₁'
  rw [List.drop_zero]
  have hfl : (items.toList.take n).length = n := by rw [List.length_take, Array.length_toList]; omega
  rw [if_neg (show ¬ ((items.toList.take n).length < n) by rw [hfl]; omega)]
  refine wpAny_bind (wpAny_holding (PySem.W.kun_collect (s := { s with heap := h₁ }) (T := "list_iterator") (.inr (.inr (.inl rfl))) (Walks.list (A := A.in1) hh s.heap.objs.size l hlt items) (fun j u st => st.1.typeIs) (k := n) (by omega) ⟨hit₁, hl₁⟩ (Heap.lt_size hoi) (Heap.lt_size hol) (fun h₂ tk hk => ?_) (by rw [sizeLine_eq]; omega)))
  have hrl : (items.toList.drop n).length = items.size - n := by rw [List.length_drop, Array.length_toList]
  show wpAny _ _ (if (items.toList.drop n).length < n + 1 - 1 - n then _ else _) _ _ _
  rw [if_neg (by omega)]
  show wpAny _ _ (newList ((items.toList.drop n).take ((items.toList.drop n).length - (n + 1 - 1 - n))) >>= fun d => pure (items.toList.take n ++ [d] ++ (items.toList.drop n).drop ((items.toList.drop n).length - (n + 1 - 1 - n)))) _ _ _
  rw [show (items.toList.drop n).length - (n + 1 - 1 - n) = (items.toList.drop n).length by omega, List.take_length, List.drop_length]
  refine wpAny_bind (new_list (by rw [hrl, sizeLine_eq]; omega) (wpAny_pure ?_))
  rw [List.append_nil]
  exact h h₂ tk fun b o e => hk b o (Nat.ne_of_lt (Heap.lt_size e)) (hs₁.extBut b o (Nat.ne_of_lt (Heap.lt_size e)) (Heap.get?_push_of_some _ e))
theorem unp_starT {l : Addr} {items : Array Value} {n : Nat} {Q : List Value → Shared → Prop} (hl : IsTup s.heap l items) (hh : A.handled = none) (hn : n ≤ items.size) (hz : items.size ≤ 16384)
    (h : ∀ (h' : Heap) (tk : Nat), (∀ b o, s.heap.get? b = some o → h'.get? b = some o) → Q (items.toList.take n ++ [.ref h'.objs.size]) { s with heap := h'.push { cls := .type "list", data := .seq (items.toList.drop n).toArray }, toks := tk }) :
    wpAny (model prog w) A (unpackItems (.ref l) (n + 1) (some n)) Q E s := by
  have hlt : l ≠ s.heap.objs.size := by obtain ⟨o, ho, _⟩ := hl; exact Nat.ne_of_lt (Heap.lt_size ho)
  have hll : l < s.heap.objs.size := by obtain ⟨o, ho, _⟩ := hl; exact Heap.lt_size ho
  unfold unpackItems
  refine wpAny_bind ?_
  unfold notIterableAtAll
  refine wpAny_bind (wpAny_specialOf hl.typeIs slot_tuple_iter.lookup ?_)
  refine wpAny_pure ?_
  simp only [Bool.false_eq_true, if_false]
  refine wpAny_bind (wpAny_holding (iter_tuple hl ?_))
  refine wpAny_bind (wpAny_holding (draw_tuple hlt n 0 _ _ ⟨_, Heap.get?_push_size _ rfl, rfl, rfl⟩ (hl.push _) (by omega) fun h₁ hit₁ hs₁ => ?_))
  have hl₁ : IsTup h₁ l items := (hl.push _).extBut hs₁.extBut hlt
  rw [Nat.zero_add] at hit₁
  have hit₁' := hit₁
  obtain ⟨oi, hoi, _⟩ := hit₁'
  have hl₁' := hl₁
  obtain ⟨ol, hol, _⟩ := hl₁'
  rw [List.drop_zero]
  have hfl : (items.toList.take n).length = n := by rw [List.length_take, Array.length_toList]; omega
  rw [if_neg (show ¬ ((items.toList.take n).length < n) by rw [hfl]; omega)]
  refine wpAny_bind (wpAny_holding (PySem.W.kun_collect (s := { s with heap := h₁ }) (T := "tuple_iterator") (.inr (.inr (.inr rfl))) (Walks.tuple (A := A.in1) hh s.heap.objs.size l hlt items) (fun j u st => st.1.typeIs) (k := n) (by omega) ⟨hit₁, hl₁⟩ (Heap.lt_size hoi) (Heap.lt_size hol) (fun h₂ tk hk => ?_) (by rw [sizeLine_eq]; omega)))
  have hrl : (items.toList.drop n).length = items.size - n := by rw [List.length_drop, Array.length_toList]
  show wpAny _ _ (if (items.toList.drop n).length < n + 1 - 1 - n then _ else _) _ _ _
  rw [if_neg (by omega)]
  show wpAny _ _ (newList ((items.toList.drop n).take ((items.toList.drop n).length - (n + 1 - 1 - n))) >>= fun d => pure (items.toList.take n ++ [d] ++ (items.toList.drop n).drop ((items.toList.drop n).length - (n + 1 - 1 - n)))) _ _ _
  rw [show (items.toList.drop n).length - (n + 1 - 1 - n) = (items.toList.drop n).length by omega, List.take_length, List.drop_length]
  refine wpAny_bind (new_list (by rw [hrl, sizeLine_eq]; omega) (wpAny_pure ?_))
  rw [List.append_nil]
  exact h h₂ tk fun b o e => hk b o (Nat.ne_of_lt (Heap.lt_size e)) (hs₁.extBut b o (Nat.ne_of_lt (Heap.lt_size e)) (Heap.get?_push_of_some _ e))
end
section
variable {X : Cx} {pos : Pos}
def gStar (K : PySem.W.Frag) (n : Nat) (t : TGs) : TG := fun v σ H Q => ∃ a xs, v = .ref a ∧ (SqL K H a xs ∨ SqT K H a xs) ∧ n ≤ xs.length ∧ xs.length ≤ 16384 ∧ ∀ p, H p = none → t (xs.take n ++ [.ref p]) σ (upd H p (.lst (xs.drop n))) Q
theorem pg_star {es : List Expr} {k : Nat} {t : TGs} {n : Nat} (hc : X.calm = true) (h : PGs X es t)
    (hn : (assignEach es X.env).length = n + 1 := by rfl) (hst : (assignEach es X.env).findIdx? (·.1) = some n := by rfl) : PG X (.Tuple es k pos) (gStar X.K n t) := by
  refine ⟨fun pins s σ H v u Q I r hw => ?_⟩
  obtain ⟨a, xs, e1, hq, hl, hz, hw⟩ := hw
  subst e1
  cases r
  rw [PyProof.Rows.assign_Tuple]
  refine wpAny_bind (wpAny_standAt ?_)
  unfold unpack
  rw [hn, hst]
  have fin : ∀ (its : List Value), Vals xs its → ∀ (h' : Heap) (tk : Nat), (∀ b o, s.heap.get? b = some o → h'.get? b = some o) →
      wpAny (model X.prog X.w) X.A (assignInOrder ((assignEach es X.env).map (·.2)) (its.toArray.toList.take n ++ [.ref h'.objs.size])) (fun _ s' => ∃ σ' H', Inv X pins σ' H' s' ∧ Q σ' H') X.xe { s with heap := h'.push { cls := .type "list", data := .seq (its.toArray.toList.drop n).toArray }, toks := tk } := by
    intro its rv h' tk hx
    have I1 : Inv X pins σ H { s with heap := h', toks := tk } := I.kept hx
    have hf : H h'.objs.size = none := I1.hok.fresh (Nat.le_refl _)
    have hlen : (xs.drop n).length ≤ sizeLine := by rw [List.length_drop, sizeLine_eq]; omega
    have I2 : Inv X pins σ (upd H h'.objs.size (.lst (xs.drop n))) { s with heap := h'.push { cls := .type "list", data := .seq (its.drop n).toArray }, toks := tk } :=
      I1.laid (t' := tk) (fun b u e => Heap.get?_push_of_some _ e) (Nat.le_refl _) ⟨hlen, its.drop n, 0, rv.drop n, Heap.get?_push_size _ rfl⟩
    exact h.run pins _ σ _ _ _ Q I2 (Vals.append (rv.take n) (Paired.cons (show RelV (.ref h'.objs.size) (.ref h'.objs.size) from rfl) .nil)) (hw _ hf)
  rcases hq with hq | hq
  · obtain ⟨its, rv, pl, hsz⟩ := I.list hq
    have hl' : s.heap.IsList a its.toArray := pl.isList
    exact wpAny_bind (wpAny_holding (unp_starL hl' (I.ok.hd hc) (by rw [List.size_toArray, ← rv.length]; exact hl) (by rw [List.size_toArray, ← rv.length]; exact hz) fun h' tk hx => fin its rv h' tk hx))
  · obtain ⟨its, rv, ht, hsz⟩ := I.tuple hq
    exact wpAny_bind (wpAny_holding (unp_starT ht (I.ok.hd hc) (by rw [List.size_toArray, ← rv.length]; exact hl) (by rw [List.size_toArray, ← rv.length]; exact hz) fun h' tk hx => fin its rv h' tk hx))
theorem pgs_star {e : Expr} {p : Pos} {t : TG} (h1 : PG X e t) (hs : (assignEach [.Starred e p] X.env).map (·.2) = [assign e X.env] := by rfl) : PGs X [.Starred e p] (gCons t gNil) := by
  refine ⟨fun pins s σ H vs us Q I r h => ?_⟩
  obtain ⟨v, vr, e1, h⟩ := h
  subst e1
  cases r with
  | cons r rr =>
    rw [hs]
    refine assignInOrder_cons (thn (h1.run pins s σ H _ _ _ I r h) fun _ s1 ⟨σ1, H1, I1, q1⟩ => ?_)
    obtain ⟨e2, q2⟩ := q1
    subst e2
    cases rr
    exact assignInOrder_nil ⟨σ1, H1, I1, q2⟩
end
end L2
namespace DL
open PySem PySem.Spec PyProof.Rows L2
open Evl (Ex)
/-- targets that are names, a starred name last -/
def gNamesS : List Nat → Nat → TGs
  | [], j => gCons (gName j) gNil
  | i :: is, j => gCons (gName i) (gNamesS is j)
section
variable {K : PySem.W.Frag} {Z : Zx}
theorem simG_namesS {M : Mem} {H F : Hp} {Q : L2.St → Hp → Prop} {j : Nat} : ∀ (is : List Nat) (ds : List D) (vs : List V) (σ : L2.St) (Δ : List Sl), Cn K Z M σ H Δ F → Rps K F ds vs → ds.length = is.length + 1 →
    (∀ σ', Cn K Z M σ' H (((is ++ [j]).zip ds).foldl (fun Δ p => Δ.set p.1 (.d p.2)) Δ) F → Q σ' H) → gNamesS is j vs σ H Q
  | [], [d], vs, σ, Δ, c, r, hl, q => by
    obtain ⟨v, ws, e, h1, h2⟩ := r
    exact ⟨v, ws, e, h2, q _ (c.set h1 j)⟩
  | [], [], vs, σ, Δ, c, r, hl, q => by cases hl
  | [], _ :: _ :: _, vs, σ, Δ, c, r, hl, q => by simp at hl
  | i :: is, [], vs, σ, Δ, c, r, hl, q => by cases hl
  | i :: is, d :: ds, vs, σ, Δ, c, r, hl, q => by
    obtain ⟨v, ws, e, h1, h2⟩ := r
    exact ⟨v, ws, e, simG_namesS is ds ws _ _ (c.set h1 i) h2 (by simpa using hl) q⟩
/-- x, y, *z = xs: the rest becomes data -/
def dUnpS (is : List Nat) (j : Nat) (r : RE) : RS := fun De Δ M => r Δ M fun x Δ1 M1 => dSq M1 x fun ds => is.length ≤ ds.length ∧ ds.length ≤ 16384 ∧
  De.nx (((is ++ [j]).zip (ds.take is.length ++ [.lst (ds.drop is.length)])).foldl (fun Δ p => Δ.set p.1 (.d p.2)) Δ1) M1
theorem qs_unpS {X : Cx} {e : Expr} {r : RE} {pos : Pos} {is : List Nat} {j : Nat} {tgs : List Expr} {k : Nat} {tp : Pos} (hc : X.calm = true) (h : QE X Z e r) (hg : PGs X tgs (gNamesS is j)) (hs : swapsWithSole [.Tuple tgs k tp] e pos.line X.env = pure false := by rfl) (hw : swappedStores [.Tuple tgs k tp] e X.env = pure none := by rfl)
    (hpg : PGs X tgs (gNamesS is j) → PG X (.Tuple tgs k tp) (gStar X.K is.length (gNamesS is j)) := by intro hg; exact pg_star rfl hg) : QS X Z (.Assign [.Tuple tgs k tp] e pos) (dUnpS is j r) := by
  obtain ⟨t, p, s⟩ := h
  refine ⟨_, ps_asg p (hpg hg) hs hw, fun M σ H Δ F De c h Dv ok => ?_⟩
  refine s M σ H Δ F _ c h _ fun v H1 x Δ1 M1 F1 e1 c1 r1 h1 => ?_
  obtain ⟨a, vs, ds, ev, hq, g, h2, _⟩ := c1.sq r1 h1
  obtain ⟨h3, h4, h5⟩ := h2
  refine ⟨a, vs, ev, hq, by rw [rps_len g]; exact h3, by rw [rps_len g]; exact h4, fun p hp => ?_⟩
  have c2 := c1.new hp (.lst (vs.drop is.length))
  have eF := c1.bs.exF hp (.lst (vs.drop is.length))
  have rr : Rps X.K (upd F1 p (.lst (vs.drop is.length))) (ds.take is.length ++ [.lst (ds.drop is.length)]) (vs.take is.length ++ [.ref p]) :=
    rps_app (rps_mono eF _ _ (rps_take _ g)) (rps_one ⟨p, _, rfl, upd_same, rps_mono eF _ _ (rps_drop _ g)⟩)
  refine simG_namesS is _ _ σ Δ1 c2 rr (by rw [List.length_append, List.length_take]; simp only [List.length_cons, List.length_nil]; omega) fun σ' c' => ?_
  exact ok.nx σ' _ _ M1 _ (e1.trans eF) c' h5
end
end DL

set_option Elab.async false
set_option linter.all false
set_option maxRecDepth 100000
set_option maxHeartbeats 4000000
/-! tuple(map(f, xs)), sep.join(map(f, xs)): xs a list, a tuple, a text -/
namespace MpR
open PySem PySem.Spec PyProof.Rows
open AutoSeq1 (wpAny_loadPart')
section
variable {prog : Program} {w : World} {A : Around} {E : Value → Shared → Prop} {s : Shared}
variable {I : Addr} {fp wr : List Addr} {G : Array GenState → Array GenState → Prop} {n : Nat} {P : Nat → Value → Prop} {St : Nat → Shared → Prop}
theorem code_tuple_new_map {Q₁ : Value → Shared → Prop} (W : WalksS prog w A.in1.in1 I fp wr G n P St) (hT : ∀ i s, St i s → s.TypeIs (.ref I) "map") (hst : St 0 s) (hfp : ∀ b ∈ fp, b < s.heap.objs.size) (hI : I ∈ fp)
    (h : ∀ s' acc, Moved wr G s s' → ItemsOf P acc n → Q₁ (.ref s'.heap.objs.size) { s' with heap := s'.heap.push { cls := .type "tuple", data := .seq acc } }) (hsz : n ≤ sizeLine) :
    codeAny (model prog w) A (.call (.builtin "tuple.__new__") ⟨[.type "tuple", .ref I], []⟩) (wants Q₁ E) s := by
  refine codeAny_of_tree ?_
  show wpAny _ A.in1 (do checkBuiltinCall "tuple.__new__" ⟨[.type "tuple", .ref I], []⟩; again (.builtin "tuple.__new__" ⟨[.type "tuple", .ref I], []⟩)) _ _ s
  refine wpAny_bind (wpAny_of_eq (F.newCall_tuple_1 _) (wpAny_pure ⟨plainId_quiet F.plain_tuple_new _, codeAny_builtin F.entry_tuple_new ?_⟩))
  rw [Around.under_plainId F.plain_tuple_new _]
  have hsub := sub_tuple_self
  have hinit := init_tuple_lookup
  have hmh := madeHere_tuple
  have hTI := hT 0 s hst
  wp_walk using wpAny_typeOf hTI, collect_it nolen_mp nohint_mp (by decide) (by decide) W hT hst hfp hI (hn := hsz)
  intro s' acc hm hacc
  show wpAny _ _ (Builtin.Tuple.tupleExact acc.toList.toArray >>= fun v => ret v) _ _ _
  unfold Builtin.Tuple.tupleExact
  refine wpAny_bind (wpAny_newObj_type ?_ (by show acc.toList.toArray.size ≤ sizeLine; simp only [Array.toArray_toList]; rw [hacc.1]; exact hsz))
  refine wpAny_pure ?_
  have e : acc.toList.toArray = acc := by simp
  rw [e]
  exact h s' acc hm hacc
theorem call_tuple_map {Q : Value → Shared → Prop} (W : WalksS prog w A.in1.in1.in1 I fp wr G n P St) (hT : ∀ i s, St i s → s.TypeIs (.ref I) "map") (hst : St 0 s) (hfp : ∀ b ∈ fp, b < s.heap.objs.size) (hI : I ∈ fp)
    (hQ : ∀ s' acc, Moved wr G s s' → ItemsOf P acc n → Q (.ref s'.heap.objs.size) { s' with heap := s'.heap.push { cls := .type "tuple", data := .seq acc } }) (hsz : n ≤ sizeLine) :
    wpAny (model prog w) A (call (.type "tuple") [.ref I]) Q E s := by
  refine callType_codes (Q₁ := fun obj s₁ => s₁.TypeIs obj "tuple" ∧ Q obj s₁) F.called_tuple (F.typeCall_tuple_1 _) F.entry_object_init
    (code_tuple_new_map (hsz := hsz) W hT hst hfp hI fun s' acc hm hacc => ⟨⟨_, Heap.get?_push_size _ rfl, rfl⟩, hQ s' acc hm hacc⟩) fun obj s₁ h₁ => ?_
  exact ⟨h₁.1, F.args_object_init_2 obj _, object_init_meets F.called_tuple.init.lookup F.called_tuple.made (by decide) prog w A.in1 _ s₁ ⟨h₁.1, rfl, h₁.2⟩⟩
end
section
variable {prog : Program} {w : World} {A : Around} {E : Value → Shared → Prop} {s : Shared}
/-- a value that is walked: its iterator stands, nothing else is changed; R: what is due behind a walk -/
def Src (prog : Program) (w : World) (A B : Around) (E : Value → Shared → Prop) (s : Shared) (src : Value) (n : Nat) (P : Nat → Value → Prop) : Prop :=
  ∀ R : Heap → Shared → Prop, (∀ h' s1, (∀ b o, s.heap.get? b = some o → h'.get? b = some o) → (∀ (g : Heap) (k : Nat), { s1 with heap := g, toks := k } = { s with heap := g, toks := k }) → R h' s1) →
    wpAny (model prog w) A (pyIter src) (fun itv s1 => ∃ it fp St, itv = .ref it ∧ Draws prog w B it fp n P St ∧ it ∈ fp ∧ (∀ b ∈ fp, b < s1.heap.objs.size) ∧ St 0 s1.heap ∧
      (∀ h', (∀ b o, b ≠ it → s1.heap.get? b = some o → h'.get? b = some o) → R h' s1)) E s
theorem src_list {B : Around} {l : Addr} {its : Array Value} (hh : B.handled = none) (hl : s.heap.IsList l its) : Src prog w A B E s (.ref l) its.size (fun i u => its[i]? = some u) := by
  intro R hR
  have ll : l < s.heap.objs.size := by obtain ⟨o, ho, _⟩ := hl; exact Heap.lt_size ho
  refine wpAny_pyIter_list hl ?_
  have hsz : (s.heap.push { cls := .type "list_iterator", data := .fields #[.ref l, .int 0 0] }).objs.size = s.heap.objs.size + 1 := Heap.size_push ..
  refine ⟨s.heap.objs.size, [s.heap.objs.size, l], _, rfl, Draws.list hh s.heap.objs.size l (Nat.ne_of_lt ll) its, by simp, fun b hb => ?_, ⟨⟨_, Heap.get?_push_size _ rfl, rfl, rfl⟩, hl.push _⟩, fun h' hk => ?_⟩
  · show b < (s.heap.push { cls := .type "list_iterator", data := .fields #[.ref l, .int 0 0] }).objs.size
    rw [hsz]
    rcases List.mem_cons.mp hb with rfl | hb
    · exact Nat.lt_succ_self _
    · rw [List.mem_singleton.mp hb]; exact Nat.lt_succ_of_lt ll
  · exact hR h' _ (fun b o e => hk b o (Nat.ne_of_lt (Heap.lt_size e)) (Heap.get?_push_of_some _ e)) fun g k => rfl
theorem src_tuple {B : Around} {l : Addr} {its : Array Value} (hh : B.handled = none) (hl : s.heap.IsTuple l its) : Src prog w A B E s (.ref l) its.size (fun i u => its[i]? = some u) := by
  intro R hR
  have ll : l < s.heap.objs.size := by obtain ⟨o, ho, _⟩ := hl; exact Heap.lt_size ho
  refine iter_tuple hl ?_
  have hsz : (s.heap.push { cls := .type "tuple_iterator", data := .fields #[.ref l, .int 0 0] }).objs.size = s.heap.objs.size + 1 := Heap.size_push ..
  refine ⟨s.heap.objs.size, [s.heap.objs.size, l], _, rfl, Draws.tuple hh s.heap.objs.size l (Nat.ne_of_lt ll) its, by simp, fun b hb => ?_, ⟨⟨_, Heap.get?_push_size _ rfl, rfl, rfl⟩, hl.push _⟩, fun h' hk => ?_⟩
  · show b < (s.heap.push { cls := .type "tuple_iterator", data := .fields #[.ref l, .int 0 0] }).objs.size
    rw [hsz]
    rcases List.mem_cons.mp hb with rfl | hb
    · exact Nat.lt_succ_self _
    · rw [List.mem_singleton.mp hb]; exact Nat.lt_succ_of_lt ll
  · exact hR h' _ (fun b o e => hk b o (Nat.ne_of_lt (Heap.lt_size e)) (Heap.get?_push_of_some _ e)) fun g k => rfl
theorem src_text {B : Around} {x : Str} {t : Tok} (hh : B.handled = none) : Src prog w A B E s (.str x t) x.cps.size (fun i v => ∃ c u, x.cps[i]? = some c ∧ v = .str ⟨#[c]⟩ u) := by
  intro R hR
  refine wpAny_pyIter_strU ?_
  have hsz : (s.heap.push { cls := .type (strIterType x), data := .fields #[.str x t, .int 0 0] }).objs.size = s.heap.objs.size + 1 := Heap.size_push ..
  refine ⟨s.heap.objs.size, [s.heap.objs.size], _, rfl, Draws.text hh s.heap.objs.size x t, by simp, fun b hb => ?_, ⟨_, Heap.get?_push_size _ rfl, rfl, rfl⟩, fun h' hk => ?_⟩
  · show b < (s.heap.push { cls := .type (strIterType x), data := .fields #[.str x t, .int 0 0] }).objs.size
    rw [hsz, List.mem_singleton.mp hb]
    exact Nat.lt_succ_self _
  · exact hR h' _ (fun b o e => hk b o (Nat.ne_of_lt (Heap.lt_size e)) (Heap.get?_push_of_some _ e)) fun g k => rfl
theorem tuple_map_src {f src : Value} {n : Nat} {P : Nat → Value → Prop} {C : Value → Prop} {R : Value → Value → Prop} {Q : Value → Shared → Prop} (hh : A.handled = none) (hF : MapF prog w f C R)
    (hC : ∀ i u, P i u → C u) (hn : n ≤ sizeLine) (hs : Src prog w A.in1.in1 A.in1.in1.in1.in1 E s src n P)
    (hq : ∀ (h' : Heap) (k : Nat) (acc : Array Value), (∀ b o, s.heap.get? b = some o → h'.get? b = some o) → ItemsOf (fun i v => ∃ u, P i u ∧ R u v) acc n → Q (.ref h'.objs.size) { s with heap := h'.push { cls := .type "tuple", data := .seq acc }, toks := k }) :
    wpAny (model prog w) A (call (.type "map") [f, src]) (fun v s1 => wpAny (model prog w) A (call (.type "tuple") [v]) Q E s1) E s := by
  refine call_map (wpAny_mono (hs (fun h' s1 => ∀ (k : Nat) (acc : Array Value), ItemsOf (fun i v => ∃ u, P i u ∧ R u v) acc n → Q (.ref h'.objs.size) { s1 with heap := h'.push { cls := .type "tuple", data := .seq acc }, toks := k }) fun h' s1 hk he k acc hacc => ?_) (fun itv s1 hs => ?_) fun _ _ z => z)
  · rw [he]
    exact hq h' k acc hk hacc
  obtain ⟨it, fp, St, rfl, D, hif, hfp, hst, hq⟩ := hs
  intro h' hO hM hsz hk
  have hlt : it < s1.heap.objs.size := hfp it hif
  have hh1 : A.in1.in1.in1.handled = none := hh
  have W := walks_map (A := A.in1.in1.in1) hh1 D hF (m := s1.heap.objs.size + 1) (T := s1.heap.objs.size) (Nat.ne_of_gt (Nat.lt_succ_of_lt hlt)) (Nat.ne_of_gt hlt) hif hC
  refine call_tuple_map (s := { s1 with heap := h' }) W (fun i s' st => ⟨_, st.1, rfl⟩) ⟨hM, hO, D.frame _ _ _ hst fun b _ o e => hk b o e⟩ (fun b hb => ?_) (by simp) (fun s' acc hm hacc => ?_) hn
  · rcases List.mem_cons.mp hb with rfl | hb
    · exact Heap.lt_size hM
    · rcases List.mem_cons.mp hb with rfl | hb
      · exact Heap.lt_size hO
      · exact Nat.lt_of_lt_of_le (hfp b hb) (by show s1.heap.objs.size ≤ h'.objs.size; rw [hsz]; exact Nat.le_add_right _ _)
  · have e : { s' with heap := s'.heap.push { cls := .type "tuple", data := .seq acc } } = ({ s1 with heap := s'.heap.push { cls := .type "tuple", data := .seq acc }, toks := s'.toks } : Shared) := by
      have e0 := Moved.eq_with hm
      rw [e0]
    rw [e]
    exact hq s'.heap (fun b o hb e => hm.heap b o (fun hmem => hb (List.mem_singleton.mp hmem)) (hk b o e)) s'.toks acc hacc
theorem join_map_src {x : Str} {t : Tok} {f src : Value} {ys : List Str} {n : Nat} {P : Nat → Value → Prop} {C : Value → Prop} {R : Value → Value → Prop} {Q : Value → Shared → Prop} (hh : A.handled = none) (hF : MapF prog w f C R)
    (hC : ∀ i u, P i u → C u) (hn : n ≤ sizeLine) (hP : ∀ acc : Array Value, ItemsOf (fun i v => ∃ u, P i u ∧ R u v) acc n → StrsAre acc.toList ys) (hok : (ys.map (·.length)).sum + ys.length * x.length ≤ 16777216)
    (hs : Src prog w A.in1.in1 A.in1.in1.in1 E s src n P)
    (hq : ∀ (h' : Heap) (t' : Tok) (k : Nat), (∀ b o, s.heap.get? b = some o → h'.get? b = some o) → Q (.str (Txt.join x ys) t') { s with heap := h', toks := k }) :
    wpAny (model prog w) A (call (.type "map") [f, src]) (fun v s1 => wpAny (model prog w) A (call (.builtin "str.join") [.str x t, v]) Q E s1) E s := by
  refine join_map_by hh hF hC hn hP hok (wpAny_mono (hs (fun h' s1 => ∀ (k : Nat) (t' : Tok), Q (.str (Txt.join x ys) t') { s1 with heap := h', toks := k }) fun h' s1 hk he k t' => ?_) (fun itv s1 hs => ?_) fun _ _ z => z)
  · rw [he]
    exact hq h' t' k hk
  obtain ⟨it, fp, St, rfl, D, hif, hfp, hst, hq⟩ := hs
  exact ⟨it, fp, St, rfl, D, hif, hfp, hst, fun h' k hk t' => hq h' hk k t'⟩
end
end MpR

namespace L2
open PySem PySem.Spec PyProof.Rows
/-- values one by one -/
theorem vals_get : ∀ {ys : List V} {L : List Value}, L.length = ys.length → (∀ (i : Nat) (v : Value), L[i]? = some v → ∃ y, ys[i]? = some y ∧ RelV y v) → Vals ys L
  | [], [], _, _ => .nil
  | [], _ :: _, h, _ => by simp at h
  | _ :: _, [], h, _ => by simp at h
  | y :: ys, v :: L, h, k => by
    obtain ⟨y', e, r⟩ := k 0 v rfl
    cases e
    exact Paired.cons r (vals_get (by simpa using h) fun i v hv => k (i + 1) v (by simpa using hv))
theorem map_vals {xs : List V} {us : List Value} {g : V → V} {C : V → Prop} (r : Vals xs us) {acc : Array Value} {P : Nat → Value → Prop} (hP : ∀ i u, P i u → us[i]? = some u)
    (h : ItemsOf (fun i v => ∃ u, P i u ∧ ∃ x, C x ∧ RelV x u ∧ RelV (g x) v) acc us.length) : Vals (xs.map g) acc.toList := by
  obtain ⟨h1, h2⟩ := h
  refine vals_get (by rw [List.length_map, r.length, ← h1, Array.length_toList]) fun i v hv => ?_
  obtain ⟨u, hu, x, _, rx, rv⟩ := h2 i v (by simpa using hv)
  replace hu := hP i u hu
  have hi : i < xs.length := by
    have := (List.getElem?_eq_some_iff.mp hu).1
    rw [r.length]
    exact this
  obtain ⟨u2, hu2, rx2⟩ := r.get (i := i) (x := xs[i]) (List.getElem?_eq_getElem hi)
  have eu : u2 = u := Option.some.inj (hu2.symm.trans hu)
  subst eu
  have ex : x = xs[i] := RelV.inj rx rx2
  subst ex
  exact ⟨g xs[i], by rw [List.getElem?_map, List.getElem?_eq_getElem hi]; rfl, rv⟩
def intV : V → V
  | .str a => .int ((PySem.intText? a).getD 0)
  | y => y
def strV : V → V
  | .int i => .str (toString i)
  | y => y
theorem mapV_int {prog : Program} {w : World} : MapV prog w (.type "int") (fun x => ∃ (a : Str) (n : Int), x = .str a ∧ PySem.intText? a = some n ∧ a.length ≤ 640) intV := by
  refine mapV_of fun A E Q s x u _ hc rx h => ?_
  obtain ⟨a, n, rfl, hn, hz⟩ := hc
  obtain ⟨t, rfl⟩ := rx
  exact PySem.W.KIN.call_text hn hz (h _ _ (by show RelV (.int ((PySem.intText? a).getD 0)) _; rw [hn]; exact ⟨_, rfl⟩))
theorem mapV_str {prog : Program} {w : World} : MapV prog w (.type "str") (fun x => ∃ i : Int, x = .int i ∧ i.natAbs.log2 < 1920) strV := by
  refine mapV_of fun A E Q s x u _ hc rx h => ?_
  obtain ⟨i, rfl, hz⟩ := hc
  obtain ⟨t, rfl⟩ := rx
  exact PySem.P.str_of_int hz (h _ _ ⟨_, rfl⟩)
/-- what a source holds: a list's or a tuple's items, a text's signs -/
def SrcV (K : PySem.W.Frag) (H : Hp) (x : V) (xs : List V) : Prop := (∃ q, x = .ref q ∧ (SqL K H q xs ∨ SqT K H q xs)) ∨ ∃ z : Str, x = .str z ∧ z.cps.size ≤ sizeLine ∧ xs = z.cps.toList.map fun c => .str ⟨#[c]⟩
theorem src_of {X : Cx} {pins : List (Addr × Obj)} {s : Shared} {σ : St} {H : Hp} {x : V} {u : Value} {xs : List V} {A B : Around} {E : Value → Shared → Prop} (I : Inv X pins σ H s) (r : RelV x u) (h : SrcV X.K H x xs) (hB : B.handled = none) :
    ∃ (us : List Value) (P : Nat → Value → Prop), us.length ≤ sizeLine ∧ (∀ us', us' = us → Vals xs us' → True) ∧ MpR.Src X.prog X.w A B E s u us.length P ∧
      ∀ (g : V → V) (C : V → Prop) (acc : Array Value), (∀ z ∈ xs, C z) → (∀ i u, P i u → ∃ x, C x ∧ RelV x u) ∧
        (ItemsOf (fun i v => ∃ u, P i u ∧ ∃ x, C x ∧ RelV x u ∧ RelV (g x) v) acc us.length → Vals (xs.map g) acc.toList) := by
  have mem : ∀ {us : List Value} {C : V → Prop}, Vals xs us → (∀ z ∈ xs, C z) → ∀ (i : Nat) (u : Value), us[i]? = some u → ∃ x, C x ∧ RelV x u := by
    intro us C rv hC i u hu
    have hi : i < xs.length := by
      have := (List.getElem?_eq_some_iff.mp hu).1
      rw [rv.length]
      exact this
    obtain ⟨u2, hu2, rx2⟩ := rv.get (i := i) (x := xs[i]) (List.getElem?_eq_getElem hi)
    have eu : u2 = u := Option.some.inj (hu2.symm.trans hu)
    subst eu
    exact ⟨xs[i], hC _ (List.getElem_mem hi), rx2⟩
  rcases h with ⟨q, e, h⟩ | ⟨z, e, hz, e2⟩
  · subst e
    cases r
    rcases h with h | h
    · obtain ⟨us, rv, pl, hsz⟩ := I.list h
      refine ⟨us, fun i u => us.toArray[i]? = some u, by rw [← rv.length]; exact hsz, fun _ _ _ => trivial, by have := MpR.src_list (prog := X.prog) (w := X.w) (A := A) (E := E) hB pl.isList; rwa [List.size_toArray] at this, fun g C acc hC => ⟨fun i u hu => mem rv hC i u (by simpa using hu), fun h => map_vals rv (fun i u hu => by simpa using hu) h⟩⟩
    · obtain ⟨us, rv, pl, hsz⟩ := I.tuple h
      refine ⟨us, fun i u => us.toArray[i]? = some u, by rw [← rv.length]; exact hsz, fun _ _ _ => trivial, by have := MpR.src_tuple (prog := X.prog) (w := X.w) (A := A) (E := E) hB pl; rwa [List.size_toArray] at this, fun g C acc hC => ⟨fun i u hu => mem rv hC i u (by simpa using hu), fun h => map_vals rv (fun i u hu => by simpa using hu) h⟩⟩
  · subst e e2
    obtain ⟨t, rfl⟩ := r
    have rv : Vals (z.cps.toList.map fun c => V.str ⟨#[c]⟩) (z.cps.toList.map fun c => Value.str ⟨#[c]⟩ t) := vals_get (by simp) fun i v hv => by
      rw [List.getElem?_map] at hv
      obtain ⟨c, hc, e⟩ := Option.map_eq_some_iff.mp hv
      exact ⟨.str ⟨#[c]⟩, by rw [List.getElem?_map, hc]; rfl, ⟨t, e.symm⟩⟩
    have hlen : (z.cps.toList.map fun c => Value.str ⟨#[c]⟩ t).length = z.cps.size := by simp
    refine ⟨z.cps.toList.map fun c => Value.str ⟨#[c]⟩ t, fun i v => ∃ c u, z.cps[i]? = some c ∧ v = .str ⟨#[c]⟩ u, by rw [hlen]; exact hz, fun _ _ _ => trivial, by rw [hlen]; exact MpR.src_text hB, fun g C acc hC => ⟨?_, ?_⟩⟩
    · rintro i u ⟨c, u', hc, rfl⟩
      exact ⟨.str ⟨#[c]⟩, hC _ (List.mem_map.mpr ⟨c, by rw [Array.mem_toList_iff]; exact Array.mem_of_getElem? hc, rfl⟩), u', rfl⟩
    · rintro ⟨h1, h2⟩
      refine vals_get (by rw [Array.length_toList, h1, hlen]; simp) fun i v hv => ?_
      obtain ⟨u, ⟨c, u', hc, rfl⟩, x, _, rx, rv'⟩ := h2 i v (by simpa using hv)
      have ex : x = .str ⟨#[c]⟩ := RelV.inj rx ⟨u', rfl⟩
      subst ex
      exact ⟨g (.str ⟨#[c]⟩), by rw [List.getElem?_map, List.getElem?_map, Array.getElem?_toList, hc]; rfl, rv'⟩
section
variable {X : Cx}
/-- tuple(map(f, xs)) -/
def tTupMap (K : PySem.W.Frag) (C : V → Prop) (g : V → V) (ta : TA) : TE := fun σ H Q => ta σ H fun vs H2 => ∃ (x : V) (xs : List V), vs = [x] ∧ SrcV K H2 x xs ∧ (∀ z ∈ xs, C z) ∧ ∀ p, H2 p = none → Q (.ref p) (upd H2 p (.tup (xs.map g)))
theorem pe_tupMap {fe e : Expr} {ta : TA} {f : Value} {C : V → Prop} {g : V → V} {pos p pos2 p0 : Pos} (hc : X.calm = true) (hg0 : Gl X "tuple") (hm0 : X.mg "tuple" = none) (hg : Gl X "map") (hm : X.mg "map" = none) (hf : PF X fe f) (ha : PA X [e] ta)
    (hF : MapV X.prog X.w f C g) (hs1 : starEach [.Call (.Name "map" p) [fe, e] [] pos2] X.env = [(false, eval (.Call (.Name "map" p) [fe, e] [] pos2) X.env)] := by rfl)
    (hs : starEach [fe, e] X.env = (false, eval fe X.env) :: starEach [e] X.env := by rfl) (hpl : (backTo pos2 (starEach [e] X.env)).any (·.1) = false := by rfl) (hpl0 : (backTo pos (starEach [] X.env)).any (·.1) = false := by rfl) :
    PE X (.Call (.Name "tuple" p0) [.Call (.Name "map" p) [fe, e] [] pos2] [] pos) (tTupMap X.K C g ta) := by
  refine ⟨fun pins s σ H Q I h => ?_⟩
  refine wpAny_Call_Name_kw (ld_blt I hg0 hm0 (show bootBuiltins "tuple" = some (.type "tuple") by decide +kernel) ?_)
  refine PyProof.Rows.callWith_type1 ?_ hs1 hpl0
  rw [hs1]
  refine Calls.spliced_cons ?_
  refine wpAny_Call_Name_kw (ld_blt I hg hm boot_map ?_)
  refine PyProof.Rows.callWith_type1 ?_ hs hpl
  rw [hs]
  show wpAny _ _ (spliced ((false, eval fe X.env) :: backTo pos2 (starEach [e] X.env))) _ _ s
  refine Calls.spliced_cons (hf.run pins s σ H _ I fun s2 I2 => ?_)
  refine thn (ha.run pos2 pins s2 σ H _ I2 h) fun us s3 ⟨vs, H2, I3, r3, q3⟩ => ?_
  obtain ⟨x, xs, rfl, hq, hC, q3⟩ := q3
  cases r3 with
  | cons r rr =>
    cases rr
    obtain ⟨us, P, hz, _, hS, hK⟩ := src_of (E := X.xe) (A := X.A.in1.in1) (B := X.A.in1.in1.in1.in1) I3 r hq (I3.ok.hd hc)
    refine wpAny_mono (MpR.tuple_map_src (E := X.xe) (Q := EP X pins σ Q) (I3.ok.hd hc) hF (fun i u hu => (hK g C #[] hC).1 i u hu) hz hS fun h' k acc hk hacc => ?_) (fun v s4 h4 => Calls.spliced_nil h4) fun _ _ z => z
    have I4 : Inv X pins σ H2 { s3 with heap := h', toks := k } := I3.kept hk
    have hf' : H2 h'.objs.size = none := I4.hok.fresh (Nat.le_refl _)
    have rv := (hK g C acc hC).2 hacc
    have hz' : (xs.map g).length ≤ sizeLine := by rw [rv.length, Array.length_toList, hacc.1]; exact hz
    refine ⟨.ref h'.objs.size, upd H2 h'.objs.size (.tup (xs.map g)), I4.laid (t' := k) (fun b u e => Heap.get?_push_of_some _ e) (Nat.le_refl _) ?_, rfl, q3 _ hf'⟩
    exact ⟨hz', acc.toList, rv, _, Heap.get?_push_size _ rfl, rfl, 0, by simp⟩
/-- sep.join(map(f, xs)), xs a list, a tuple or a text -/
def tJoinMapA (K : PySem.W.Frag) (C : V → Prop) (g : V → V) (to : TE) (ta : TA) : TE := fun σ H Q => to σ H fun x H1 => (∃ a, x = .str a) ∧ ta σ H1 fun vs H2 => ∃ (a : Str) (y : V) (xs : List V) (ys : List Str),
  x = .str a ∧ vs = [y] ∧ SrcV K H2 y xs ∧ (∀ z ∈ xs, C z) ∧ xs.map g = ys.map V.str ∧ (ys.map (·.length)).sum + ys.length * a.length ≤ 16777216 ∧ Q (.str (Txt.join a ys)) H2
theorem strs_of : ∀ {ys : List Str} {L : List Value}, Vals (ys.map V.str) L → StrsAre L ys
  | [], _, r => by cases r; exact .nil
  | y :: ys, _, r => by
    cases r with
    | cons r rr =>
      obtain ⟨t, rfl⟩ := r
      exact .cons y t (strs_of rr)
theorem pe_joinMapA {o fe e : Expr} {to : TE} {ta : TA} {f : Value} {C : V → Prop} {g : V → V} {apos pos p pos2 : Pos} (hc : X.calm = true) (ho : PE X o to) (hg : Gl X "map") (hm : X.mg "map" = none) (hf : PF X fe f) (ha : PA X [e] ta)
    (hF : MapV X.prog X.w f C g) (hs1 : starEach [.Call (.Name "map" p) [fe, e] [] pos2] X.env = [(false, eval (.Call (.Name "map" p) [fe, e] [] pos2) X.env)] := by rfl)
    (hs : starEach [fe, e] X.env = (false, eval fe X.env) :: starEach [e] X.env := by rfl) (hpl : (backTo pos2 (starEach [e] X.env)).any (·.1) = false := by rfl)
    (hbase : attributeBase o "join" X.env (eval o X.env) = eval o X.env := by rfl) (hline : (apos.endLine == pos.line) = true := by rfl) :
    PE X (.Call (.Attribute o "join" apos) [.Call (.Name "map" p) [fe, e] [] pos2] [] pos) (tJoinMapA X.K C g to ta) := by
  refine ⟨fun pins s σ H Q I h => ?_⟩
  refine PySem.Call_method1 hbase hs1 hline (thn (ho.run pins s σ H _ I h) fun v s1 ⟨x, H1, I1, r1, q1⟩ => ?_)
  obtain ⟨⟨a, rfl⟩, q1⟩ := q1
  obtain ⟨t, rfl⟩ := _root_.id r1
  refine ⟨"str", _, F.plainAttrs_str, F.slot_str_join, F.type_str_join, typeIs_str _ _ _, (fun _ e => nomatch e), Calls.callWith_builtin rfl (Calls.evalArgs_plain (Calls.spliced_cons ?_))⟩
  refine wpAny_Call_Name_kw (ld_blt I1 hg hm boot_map ?_)
  refine PyProof.Rows.callWith_type1 ?_ hs hpl
  rw [hs]
  show wpAny _ _ (spliced ((false, eval fe X.env) :: backTo pos2 (starEach [e] X.env))) _ _ s1
  refine Calls.spliced_cons (hf.run pins s1 σ H1 _ I1 fun s2 I2 => ?_)
  refine thn (ha.run pos2 pins s2 σ H1 _ I2 q1) fun us s3 ⟨vs, H2, I3, r3, q3⟩ => ?_
  obtain ⟨a', y, xs, ys, ea, rfl, hq, hC, hmp, hz, q3⟩ := q3
  cases ea
  cases r3 with
  | cons r rr =>
    cases rr
    obtain ⟨us, P, hsz, _, hS, hK⟩ := src_of (E := X.xe) (A := X.A.in1.in1) (B := X.A.in1.in1.in1) I3 r hq (I3.ok.hd hc)
    refine wpAny_mono (MpR.join_map_src (x := a) (t := t) (ys := ys) (E := X.xe) (Q := EP X pins σ Q) (I3.ok.hd hc) hF (fun i u hu => (hK g C #[] hC).1 i u hu) hsz (fun acc hacc => strs_of (by rw [← hmp]; exact (hK g C acc hC).2 hacc)) hz hS
      fun h' t' k hk => ⟨.str _, H2, I3.kept (t' := k) hk, ⟨t', rfl⟩, q3⟩) (fun v s4 h4 => Calls.spliced_nil h4) fun _ _ z => z
end
end L2

set_option Elab.async false
set_option linter.all false
set_option maxRecDepth 100000
set_option maxHeartbeats 4000000
/-! try with several clauses, named or not -/
namespace L2
open PySem PySem.Spec PyProof.Rows
abbrev Cl2 := Value × Option Nat × (Addr → Value → Option Addr → TS)
def gone (i : Nat) (D : Ends) : Ends := { nx := fun σ' H' => D.nx (σ'.set i none) H', rt := D.rt, bk := fun σ' H' => D.bk (σ'.set i none) H', ct := fun σ' H' => D.ct (σ'.set i none) H' }
def wMix (K : PySem.W.Frag) (Wout : WX) (D : Ends) : List Cl2 → WX
  | [] => Wout
  | (c, o, ts) :: r => fun cls d σ H => ∃ b, PySem.W.exmOne K cls c = some b ∧ (b = true → ∀ a, H a = none → match o with
    | none => ts a cls d D σ H
    | some i => ts a cls d (gone i D) (σ.set i (some (.ref a))) H) ∧ (b = false → wMix K Wout D r cls d σ H)
inductive MixOk (X : Cx) : List ExceptHandler → List Cl2 → Prop
  | nil : MixOk X [] []
  | cons {x : Str} {c : Value} {ts : Addr → Value → Option Addr → TS} {b₀ : Stmt} {suite : List Stmt} {np pos' : Pos} {hds : List ExceptHandler} {l : List Cl2} (hc : Names X x c)
      (hsu : ∀ (a : Addr) (oe : Obj) (cls : Value) (d : Option Addr) (pn : List (Addr × Obj)), Zc cls d oe → (∃ vs, oe.data = .fields vs) → PSs (X.suite a ((a, oe) :: pn)) (b₀ :: suite) (ts a cls d)) (r : MixOk X hds l) :
      MixOk X (.ExceptHandler (some (.Name x np)) none (b₀ :: suite) pos' :: hds) ((c, none, ts) :: l)
  | as {x n : Str} {i : Nat} {c : Value} {ts : Addr → Value → Option Addr → TS} {b₀ : Stmt} {suite : List Stmt} {np pos' : Pos} {hds : List ExceptHandler} {l : List Cl2} (hc : Names X x c) (hi : X.N[i]? = some n) (hln : X.env.kindOf n = some .local)
      (hsu : ∀ (a : Addr) (oe : Obj) (cls : Value) (d : Option Addr) (pn : List (Addr × Obj)), Zc cls d oe → (∃ vs, oe.data = .fields vs) → PSs (X.suite a ((a, oe) :: pn)) (b₀ :: suite) (ts a cls d)) (r : MixOk X hds l) :
      MixOk X (.ExceptHandler (some (.Name x np)) (some n) (b₀ :: suite) pos' :: hds) ((c, some i, ts) :: l)
section
variable {X : Cx} {body : List Stmt} {h₀ : ExceptHandler} {hds : List ExceptHandler} {l : List Cl2} {pos : Pos} {tb : WX → TS} {Wout : WX}
theorem ps_try_mix (hs : X.stack = X.env :: X.outer) (hf : X.env.frame = some X.env.locals) (hN : X.N.Nodup) (tk : Takes X Wout)
    (hb : ∀ (W : WX) (pn : List (Addr × Obj)) (xe : Value → Shared → Prop), Takes (X.tr pn xe) W → PassesOwn (model X.prog X.w) X.A X.env xe → PSs (X.tr pn xe) body (tb W))
    (hh : MixOk X (h₀ :: hds) l) : PS X (.Try body (h₀ :: hds) [] [] pos) (fun D σ H => tb (wMix X.K Wout D l) D σ H) := by
  refine ⟨fun pins s σ H D I h => ?_⟩
  have ok := I.ok
  have hfr : X.A.frames = some (X.env :: X.outer) := by rw [ok.frames, hs]
  refine wpAny_Try_except ?_
  refine wpAny_mono ((hb (wMix X.K Wout D l) (X.pn ++ pins) (fun e s₁ => wpAny (model X.prog X.w) X.A (noteFrame e X.env) (fun _ s₂ => wpAny (model X.prog X.w) X.A (setFlight e none) (fun _ s₃ =>
    wpAny (model X.prog X.w) X.A (handleBy e X.env (h₀ :: hds)) (SP X pins D) X.xe s₃) X.xe s₂) X.xe s₁) (fun u s' xx => ?_) PassesOwn.looking).run [] s σ H D (I.toTry _) h) (fun f s1 hsp => ?_) (fun e s1 he => he)
  · obtain ⟨a, B, sI, pins', σ', H', cls, d, rfl, J', nb, up, sky, na, os, ag, w⟩ := xx
    have J : Inv X pins σ' H' sI := J'.ofTry ok
    have sky' : Sky B (X.env :: X.outer) a (Zc cls d) X.env.locals s'.heap := by rw [← hs]; exact sky
    show wpAny (model X.prog X.w) X.A (noteFrame (.ref a) X.env) _ _ _
    refine Sky.land Zc.steady hfr hf sky' fun h3 fl3 up3 => ?_
    have J3 : Inv X pins σ' H' { s' with heap := h3 } := J.landed nb fl3.1 (up.trans up3) os ag
    obtain ⟨oe3, vs3, he3, hz3, hd3⟩ := fl3.there
    have notFr : ∀ {h : Heap} {o : Obj} {vs : Array Value}, h.FunFrames B (X.env :: X.outer) → h.get? a = some o → o.data = .fields vs → a ∉ frs (X.env :: X.outer) := fun {h o vs} ff e dd hm => by
      obtain ⟨_, o', e', hnf⟩ := ff.mem hm
      rw [e] at e'; cases e'
      exact hnf _ dd
    have nfr := notFr fl3.2.2.1 he3 hd3
    have nL : a ≠ X.env.locals := fun z => nfr (List.mem_filterMap.mpr ⟨X.env, List.mem_cons_self, by rw [hf, z]⟩)
    have nF : a ∉ X.fs := fun hm => by
      obtain ⟨e, he, q⟩ := List.mem_filterMap.mp hm
      exact nfr (List.mem_filterMap.mpr ⟨e, List.mem_cons_of_mem _ he, q⟩)
    have S3 := J3.suite he3 hd3 na nL nF
    have LT : PySem.W.Looks (model X.prog X.w) h3 (typeOf (.ref a)) cls := fun A Q E s k q => wpAny_typeOf_ref (k _ _ he3) (by rw [hz3.1]; exact q)
    have tests : ∀ {x : Str} {c : Value} {np : Pos}, Names X x c → ∀ {Q : Value → Shared → Prop} {E : Value → Shared → Prop}, Q c { s' with heap := h3 } → wpAny (model X.prog X.w) (X.A.mark (some (.ref a))) (eval (.Name x np) X.env) Q E { s' with heap := h3 } := fun {x c np} hc {Q E} q => by
      obtain ⟨hg, hdbg, hm | ⟨hm, hv, hnn⟩⟩ := hc
      · exact ld_glob (X := X.suite a ((a, oe3) :: (X.pn ++ pins))) S3 hg hm q hdbg
      · exact ld_blt (X := X.suite a ((a, oe3) :: (X.pn ++ pins))) S3 hg hm hv q hnn hdbg
    have go : ∀ {hds' : List ExceptHandler} {l' : List Cl2}, MixOk X hds' l' → wMix X.K Wout D l' cls d σ' H' →
        wpAny (model X.prog X.w) X.A (handleBy (.ref a) X.env hds') (SP X pins D) X.xe { s' with heap := h3 } := by
      intro hds' l' hk
      induction hk with
      | nil =>
        intro w
        refine wpAny_handleBy_nil ?_
        obtain ⟨k1, k2, k3, oe, vs, T, oT, ts', he, hz, hd, h1, hr⟩ := id fl3
        unfold PySem.passOn
        refine wpAny_bind (wpAny_field he hd h1 ?_)
        rw [if_neg (show ¬ ((Value.ref T == Value.none) = true) from by simp)]
        have fin : wpAny (model X.prog X.w) X.A (setFlight (.ref a) X.env.frame) (fun _ s4 => wpAny (model X.prog X.w) X.A (throw (.ref a) : Sem Flow) (SP X pins D) X.xe s4) X.xe { s' with heap := h3 } := by
          rw [hf]
          refine HandSPX.setFlight_upZ fl3 fun h4 hh4 up4 => wpAny_throw (tk _ _ ?_)
          exact ⟨a, B, sI, pins, σ', H', cls, d, rfl, J, nb, (up.trans up3).trans up4, .inr (.inr (by rw [hs]; exact hh4)), na, os, ag, w⟩
        first
          | exact wpAny_bind (wpAny_pure (wpAny_bind fin))
          | exact wpAny_bind fin
      | @cons x c ts b₀ suite np pos' hds2 l2 hc hsu r ih =>
        intro w
        obtain ⟨b, hb1, hyes, hno⟩ := w
        refine wpAny_handleBy_cons (codeAny_handlers_test ?_) (by intro q; cases q)
        have LM := PySem.W.exm_one (M := model X.prog X.w) (J3.kIn) LT hb1
        refine tests hc (LM.here ?_)
        cases b with
        | true =>
          refine codeAny_handlers_suite ?_
          refine HandSPX.lands_againZ fl3 fun h4 fl4 up4 => ?_
          have J4 : Inv X pins σ' H' { s' with heap := h4 } := J.landed nb fl4.1 ((up.trans up3).trans up4) os ag
          obtain ⟨oe4, vs4, he4, hz4, hd4⟩ := fl4.there
          have S4 := J4.suite he4 hd4 na nL nF
          refine wpAny_mono ((hsu a oe4 cls d (X.pn ++ pins) hz4 ⟨_, hd4⟩).run [] _ _ H' _ S4 (hyes rfl a na)) (fun f s6 hsp => ?_) (fun _ _ z => False.elim z)
          cases f with
          | next =>
            obtain ⟨σ6, H6, S6, q6⟩ := hsp
            exact ⟨_, _, S6.unsuite ok, q6⟩
          | brk =>
            obtain ⟨σ6, H6, S6, q6⟩ := hsp
            exact ⟨_, _, S6.unsuite ok, q6⟩
          | cont =>
            obtain ⟨σ6, H6, S6, q6⟩ := hsp
            exact ⟨_, _, S6.unsuite ok, q6⟩
          | ret u =>
            obtain ⟨v6, σ6, H6, S6, r6, q6⟩ := hsp
            exact ⟨_, _, _, S6.unsuite ok, r6, q6⟩
        | false =>
          show wpAny _ X.A (handleBy (.ref a) X.env hds2) _ _ _
          exact ih (hno rfl)
      | @as x n i c ts b₀ suite np pos' hds2 l2 hc hi hln hsu r ih =>
        intro w
        obtain ⟨b, hb1, hyes, hno⟩ := w
        have hloc : Loc X.env.scope n := .inl hln
        refine wpAny_handleBy_cons (codeAny_handlers_test ?_) (by intro q; cases q)
        have LM := PySem.W.exm_one (M := model X.prog X.w) (J3.kIn) LT hb1
        refine tests hc (LM.here ?_)
        cases b with
        | true =>
          refine codeAny_handlers_suite_as ?_
          refine HandSPX.lands_againZ fl3 fun h4 fl4 up4 => ?_
          have J4 : Inv X pins σ' H' { s' with heap := h4 } := J.landed nb fl4.1 ((up.trans up3).trans up4) os ag
          obtain ⟨oe4, vs4, he4, hz4, hd4⟩ := fl4.there
          have S4 := J4.suite he4 hd4 na nL nF
          refine store_ok (X := X.suite a ((a, oe4) :: (X.pn ++ pins))) (v := .ref a) S4 hN hi hloc rfl (fun s5 S5 => ?_) (.inr hln)
          refine wpAny_mono ((hsu a oe4 cls d (X.pn ++ pins) hz4 ⟨_, hd4⟩).run [] s5 _ H' (gone i D) S5 (hyes rfl a na)) (fun f s6 hsp => ?_) (fun _ _ z => False.elim z)
          have end_ : ∀ {σ6 : St} {H6 : Hp} {Q : Shared → Prop}, Inv (X.suite a ((a, oe4) :: (X.pn ++ pins))) [] σ6 H6 s6 → (∀ s7, Inv X pins (σ6.set i none) H6 s7 → Q s7) →
              wpAny (model X.prog X.w) X.A (do bindName X.env n .none; unbindBehindTheSuite X.env n pos') (fun _ s7 => Q s7) X.xe s6 := fun {σ6 H6 Q} S6 hq => gone_ok (S6.unsuite ok) hN hi hln hq
          cases f with
          | next =>
            obtain ⟨σ6, H6, S6, q6⟩ := hsp
            exact end_ S6 fun s7 J7 => ⟨_, _, J7, q6⟩
          | brk =>
            obtain ⟨σ6, H6, S6, q6⟩ := hsp
            exact end_ S6 fun s7 J7 => ⟨_, _, J7, q6⟩
          | cont =>
            obtain ⟨σ6, H6, S6, q6⟩ := hsp
            exact end_ S6 fun s7 J7 => ⟨_, _, J7, q6⟩
          | ret u =>
            obtain ⟨v6, σ6, H6, S6, r6, q6⟩ := hsp
            exact end_ S6 fun s7 J7 => ⟨_, _, _, J7, r6, q6⟩
        | false =>
          show wpAny _ X.A (handleBy (.ref a) X.env hds2) _ _ _
          exact ih (hno rfl)
    exact go hh w
  · cases f with
    | next =>
      obtain ⟨σ', H', J', q⟩ := hsp
      exact wpAny_execs_nil ⟨σ', H', J'.ofTry ok, q⟩
    | brk =>
      obtain ⟨σ', H', J', q⟩ := hsp
      exact ⟨σ', H', J'.ofTry ok, q⟩
    | cont =>
      obtain ⟨σ', H', J', q⟩ := hsp
      exact ⟨σ', H', J'.ofTry ok, q⟩
    | ret u =>
      obtain ⟨v, σ', H', J', r, q⟩ := hsp
      exact ⟨v, σ', H', J'.ofTry ok, r, q⟩
end
end L2
namespace DL
open PySem PySem.Spec PyProof.Rows L2
open Evl (Ex)
abbrev ClD := List (Addr × Bool) × Option Nat × (Addr → Addr → List (Str × D) → RS)
def mixX (Ψ : DXS) (De : DE) : List ClD → DXS
  | [] => Ψ
  | (cat, o, rs) :: r => fun C fs Δ1 M1 => ∃ b, (C, b) ∈ cat ∧ (b = true → ∀ a, match o with
    | none => rs a C fs De Δ1 M1
    | some i => rs a C fs (asEnds i De) (Δ1.set i (.d (.ref a))) M1) ∧ (b = false → mixX Ψ De r C fs Δ1 M1)
def dTryMix (cl : List ClD) (rb : DXS → RS) (Ψ : DXS) : RS := fun De Δ M => rb (mixX Ψ De cl) De Δ M
inductive MixD (X : Cx) : List ExceptHandler → List ClD → Prop
  | nil : MixD X [] []
  | cons {x : Str} {c : Value} {cat : List (Addr × Bool)} {rs : Addr → Addr → List (Str × D) → RS} {b₀ : Stmt} {suite : List Stmt} {np pos' : Pos} {hds : List ExceptHandler} {l : List ClD} (hc : Names X x c) (hcat : ∀ C b, (C, b) ∈ cat → PySem.W.exmOne X.K (.ref C) c = some b)
      (hsu : ∀ (a : Addr) (oe : Obj) (C : Addr) (d : Option Addr) (fs : List (Str × D)) (pn : List (Addr × Obj)) (Z' : Zx), (C, true) ∈ cat → Zc (.ref C) d oe → (∃ vs, oe.data = .fields vs) → XRep X.K Z'.F0 fs d → QSs (X.suite a ((a, oe) :: pn)) Z' (b₀ :: suite) (rs a C fs)) (r : MixD X hds l) :
      MixD X (.ExceptHandler (some (.Name x np)) none (b₀ :: suite) pos' :: hds) ((cat, none, rs) :: l)
  | as {x n : Str} {i : Nat} {c : Value} {cat : List (Addr × Bool)} {rs : Addr → Addr → List (Str × D) → RS} {b₀ : Stmt} {suite : List Stmt} {np pos' : Pos} {hds : List ExceptHandler} {l : List ClD} (hc : Names X x c) (hi : X.N[i]? = some n) (hln : X.env.kindOf n = some .local) (hcat : ∀ C b, (C, b) ∈ cat → PySem.W.exmOne X.K (.ref C) c = some b)
      (hsu : ∀ (a : Addr) (oe : Obj) (C : Addr) (d : Option Addr) (fs : List (Str × D)) (pn : List (Addr × Obj)) (Z' : Zx), (C, true) ∈ cat → Zc (.ref C) d oe → (∃ vs, oe.data = .fields vs) → XRep X.K Z'.F0 fs d → QSs (X.suite a ((a, oe) :: pn)) Z' (b₀ :: suite) (rs a C fs)) (r : MixD X hds l) :
      MixD X (.ExceptHandler (some (.Name x np)) (some n) (b₀ :: suite) pos' :: hds) ((cat, some i, rs) :: l)
section
variable {X : Cx} {Z : Zx} {pos : Pos} {W : WX} {Ψ : DXS} {rb : DXS → RS} {body : List Stmt}
theorem MixD.to {hds : List ExceptHandler} {l : List ClD} (h : MixD X hds l) : ∃ l' : List Cl2, MixOk X hds l' ∧ ∀ {Z : Zx} {M : Mem} {σ : L2.St} {H F : Hp} {Δ : List Sl} {De : DE} {Dv : Ends} {W : WX} {Ψ : DXS}, Cn X.K Z M σ H Δ F → EndsOk X.K Z F De Dv → XOk X.K Z W Ψ → XOk X.K ⟨Z.R, F⟩ (wMix X.K W Dv l') (mixX Ψ De l) := by
  induction h with
  | nil =>
    refine ⟨[], .nil, fun cn ok xo => ?_⟩
    intro C fs Δ1 M1 dd σ1 H1 F1 c1 xr hx
    exact xo C fs Δ1 M1 dd σ1 H1 F1 (c1.ofAt cn.bs.f0) xr hx
  | @cons x c cat rs b₀ suite np pos' hds l hc hcat hsu r ih =>
    obtain ⟨l', m, k⟩ := ih
    refine ⟨(c, none, tSuite X cat rs) :: l', .cons hc (fun a oe cls d pn hz hf => pss_suite hsu a oe cls d pn hz hf) m, fun {Z M σ H F Δ De Dv W Ψ} cn ok xo => ?_⟩
    have f0 := cn.bs.f0
    intro C fs Δ1 M1 dd σ1 H1 F1 c1 xr hx
    obtain ⟨b, e, hy, hn⟩ := hx
    have eF : Ex F F1 := c1.bs.f0
    refine ⟨b, hcat C b e, fun hb a na => ?_, fun hb => k cn ok xo C fs Δ1 M1 dd σ1 H1 F1 c1 xr (hn hb)⟩
    exact ⟨⟨Z.R, F1⟩, C, fs, rfl, by rw [← hb]; exact e, xr, M1, Δ1, F1, De, (c1.ofAt f0).toAt, hy hb a, EndsOk.toAt (F := F) f0 eF ok⟩
  | @as x n i c cat rs b₀ suite np pos' hds l hc hi hln hcat hsu r ih =>
    obtain ⟨l', m, k⟩ := ih
    refine ⟨(c, some i, tSuite X cat rs) :: l', .as hc hi hln (fun a oe cls d pn hz hf => pss_suite hsu a oe cls d pn hz hf) m, fun {Z M σ H F Δ De Dv W Ψ} cn ok xo => ?_⟩
    have f0 := cn.bs.f0
    intro C fs Δ1 M1 dd σ1 H1 F1 c1 xr hx
    obtain ⟨b, e, hy, hn⟩ := hx
    have eF : Ex F F1 := c1.bs.f0
    refine ⟨b, hcat C b e, fun hb a na => ?_, fun hb => k cn ok xo C fs Δ1 M1 dd σ1 H1 F1 c1 xr (hn hb)⟩
    refine ⟨⟨Z.R, F1⟩, C, fs, rfl, by rw [← hb]; exact e, xr, M1, Δ1.set i (.d (.ref a)), F1, asEnds i De, ?_, hy hb a, ?_⟩
    · exact ((c1.ofAt f0).toAt).set (d := .ref a) rfl i
    · refine EndsOk.toAt (F := F) f0 eF ⟨?_, ok.rt, ?_, ?_⟩
      · exact fun σ' H' Δ' M' F' e1 c' z => ok.nx _ _ _ _ _ e1 (c'.emptied i) z
      · exact fun σ' H' Δ' M' F' e1 c' z => ok.bk _ _ _ _ _ e1 (c'.emptied i) z
      · exact fun σ' H' Δ' M' F' e1 c' z => ok.ct _ _ _ _ _ e1 (c'.emptied i) z
theorem qs_try_mix {h₀ : ExceptHandler} {hds : List ExceptHandler} {cl : List ClD} (hs : X.stack = X.env :: X.outer) (hf : X.env.frame = some X.env.locals) (hN : X.N.Nodup) (tk : Takes X W) (xo : XOk X.K Z W Ψ)
    (hb : ∀ (W : WX) (pn : List (Addr × Obj)) (xe : Value → Shared → Prop) (Z' : Zx) (Ψ' : DXS), Takes (X.tr pn xe) W → PassesOwn (model X.prog X.w) X.A X.env xe → XOk X.K Z' W Ψ' → QSs (X.tr pn xe) Z' body (rb Ψ'))
    (hm : MixD X (h₀ :: hds) cl) : QS X Z (.Try body (h₀ :: hds) [] [] pos) (dTryMix cl rb Ψ) := by
  obtain ⟨l', m, k⟩ := hm.to
  refine ⟨_, ps_try_mix (tb := tBody X body rb) hs hf hN tk (fun W pn xe tk po => pss_body hb W pn xe tk po) m, ?_⟩
  intro M σ H Δ F De cn h Dv ok
  exact ⟨⟨Z.R, F⟩, mixX Ψ De cl, k cn ok xo, M, Δ, F, De, cn.toAt, h, ok.toAt cn.bs.f0 (Ex.refl _)⟩
end
end DL

set_option Elab.async false
set_option linter.all false
set_option maxRecDepth 100000
set_option maxHeartbeats 4000000
namespace L2
open PySem PySem.Spec PyProof.Rows
section
variable {X : Cx} {CX : CXT} {k : Nat} {f C : Addr} {fd : FuncData} {ps : List Str} {sp : Sp} {E : L2.St → XK} {x : Str} {p pos : Pos} {e : Expr} {es : List Expr} {t : TA} {ds : List Value} {dvs : List V}
theorem run_makeS {pins : List (Addr × Obj)} {σ : L2.St} {H : Hp} {s : Shared} {Q : VK} {us : List Value} {vs : List V} (M : Mk X.K C f) (F : FnOk X.prog X.w X.K X.mg X.base CX k f fd ps sp) (hr : Room (k + 1) X.A) (hb : Binds X.K fd ps ds) (hd : Vals dvs ds)
    (hx : PassesAt CX X σ (E σ)) (I : Inv X pins σ H s) (r : Vals vs us)
    (h : ∀ x dx, H x = none → H dx = none → dx ≠ x → sp (.ref x :: (vs ++ dvs)) (upd (upd H dx (.own x)) x (.ins C dx [])) (fun v H2 => v = .non ∧ Q (.ref x) H2) (E σ)) :
    wpAny (model X.prog X.w) X.A (call (.ref C) us) (EP X pins σ Q) X.xe s := by
  have hq := h (s.heap.objs.size + 1) s.heap.objs.size (I.hok.fresh (Nat.le_succ _)) (I.hok.fresh (Nat.le_refl _)) (Nat.ne_of_lt (Nat.lt_succ_self _))
  have I2 := Inv.made (C := C) I
  have r2 : Vals (V.ref (s.heap.objs.size + 1) :: (vs ++ dvs)) (Value.ref (s.heap.objs.size + 1) :: (us ++ ds)) := .cons rfl (r.append hd)
  have hl : (Value.ref (s.heap.objs.size + 1)   :: us ++ ds).length = ps.length := by
    have e := r2.length
    rw [F.len _ _ _ _ hq] at e
    exact e.symm
  refine wpAny_call (make_map (f := f) I.kIn M.makes M.init (beq_iff_eq.mp M.fn) (codeAny_mono (F.run _ X.stack _ _ ⟨Value.ref (s.heap.objs.size + 1) :: us, []⟩ (Value.ref (s.heap.objs.size + 1) :: (us ++ ds)) _ _ (E σ) (hr.make C us [])
    (I2.env0.make C us []) (hb _ (Value.ref (s.heap.objs.size + 1) :: us) I2.kIn hl) r2 hq) fun r s' hq' => ?_))
  cases r with
  | error e => exact hx pins _ _ e s' I2 hq'
  | ok fl =>
    cases fl with
    | ret u =>
      obtain ⟨v, H', I3, rv, ev, q3⟩ := I2.after hq'
      subst ev
      exact ⟨rv, ⟨V.ref (s.heap.objs.size + 1), H', I3, rfl, q3⟩⟩
    | next => exact False.elim hq'
    | brk => exact False.elim hq'
    | cont => exact False.elim hq'
def tMakeS (C : Addr) (sp : Sp) (E : L2.St → XK) (t : TA) : TE := fun σ H Q => t σ H fun vs H1 => ∀ x dx, H1 x = none → H1 dx = none → dx ≠ x →
  sp (.ref x :: (vs ++ [])) (upd (upd H1 dx (.own x)) x (.ins C dx [])) (fun v H2 => v = .non ∧ Q (.ref x) H2) (E σ)
theorem pe_makeS (M : Mk X.K C f) (F : FnOk X.prog X.w X.K X.mg X.base CX k f fd ps sp) (hr : Room (k + 1) X.A) (hg : Gl X x) (hm : X.mg x = some (.ref C)) (hb : Binds X.K fd ps []) (hx : ∀ σ, PassesAt CX X σ (E σ))
    (ha : PA X (e :: es) t) (hdb : (x == ("__debug__" : Str)) = false := by decide) (he : starEach (e :: es) X.env = (false, eval e X.env) :: starEach es X.env := by rfl) (hpl : (backTo pos (starEach es X.env)).any (·.1) = false := by rfl) :
    PE X (.Call (.Name x p) (e :: es) [] pos) (tMakeS C sp E t) := by
  refine ⟨fun pins s σ H Q I h => ?_⟩
  refine wpAny_Call_Name_kw (ld_glob I hg hm ?_ hdb)
  refine PySem.W.callWith_K (h₀ := X.base) I.ok.mod.kin M.kp (thn (ha.run pos pins s σ H _ I h) fun us s1 ⟨vs, H1, I1, r, q⟩ => ⟨I1.kIn, ?_⟩) he hpl
  exact run_makeS (dvs := []) M F hr hb .nil (hx σ) I1 r q
end
theorem ix_kd {X : Cx} {d : Addr} {es : Array DictEntry} {n : Nat} (D : KDict X.K X.w d es n) : IxR X (fun x y H Q => ∃ (z : Str) (u0 : Value) (v0 : V), x = .ref d ∧ y = .str z ∧ PySem.W.nsIn X.K d z = some (some u0) ∧ RelV v0 u0 ∧ Q v0 H) := by
  intro value slice pins s σ H x y v u Q I rx ry h hs
  obtain ⟨z, u0, v0, rfl, rfl, e, r, q⟩ := h
  cases rx
  obtain ⟨t, rfl⟩ := ry
  exact subscriptTail_builtinR (x := u0) (kd_type D I) PySem.F.slot_dict_getitem.lookup
    (wpAny_getItem_of (Q := fun r s' => r = u0 ∧ EP X pins σ Q r s') (PySem.strKind_is X.prog X.w z t) (PySem.W.mapOf_K (prog := X.prog) I.kIn D.at_ D.lit) (PySem.W.find_K D.at_ e) ⟨rfl, v0, H, I.tok _, r, q⟩) hs
end L2

namespace DL
open PySem PySem.Spec PyProof.Rows L2
open Evl (Ex)
section
variable {X : Cx} {Z : Zx} {e a b o : Expr} {ra rb rk rd rf r : RE} {pos apos cpos p : Pos} {es : List Expr} {rl : RA} {n k : Nat} {f C : Addr} {fd : FuncData} {ps : List Str} {S : DSp} {W : WX} {Ψ : DXS} {x : Str} {K : PySem.W.Frag}
/-! ### C(..) that may raise, in a try -/
def dMakeS (C : Addr) (S : DSp) (Ψ : DXS) (rl : RA) : RE := fun Δ M Φ => rl Δ M fun ds Δ1 M1 => ∀ x, M1 x = none → S (.ref x :: ds) (updM M1 x (.ins C [])) (fun d M2 => d.isNon = true ∧ Φ (.ref x) Δ1 M2) fun C' fs M2 => Ψ C' fs Δ1 M2
theorem sim_makeS {ta : TA} (xo : XOk K Z W Ψ) (h : SimA K Z n ta rl) : Sim K Z (tMakeS C (spOf K S) (WE W) ta) (dMakeS C S Ψ rl) := by
  intro M σ H Δ F Φ c k Q q
  refine h M σ H Δ F _ c k _ fun vs H1 ds Δ1 M1 F1 e1 c1 r1 hn h1 => fun x dx hx hdx hne => ?_
  show spOf K S (.ref x :: (vs ++ [])) _ _ (WE W σ)
  rw [List.append_nil]
  have c2 := c1.newH hdx (.own x)
  have hx2 : upd H1 dx (.own x) x = none := by rw [upd_ne (fun z => hne z.symm)]; exact hx
  have c3 := c2.newO (o := .ins C []) (u := .ins C dx []) hx2 ⟨dx, [], rfl, rfl, rfl⟩
  refine ⟨restAt Z σ Δ1 (upd (upd H1 dx (.own x)) x (.ins C dx [])), F1, _, .ref x :: ds, _, _, call_in c3, ⟨.ref x, vs, rfl, rfl, r1⟩, h1 x (c1.bs.freeM hx), fun u H' d M' F' b rr hΦ => ?_, fun C fs M' dd H' F' b rr hΨ => ?_⟩
  · refine ⟨?_, q (.ref x) H' (.ref x) Δ1 M' F' (e1.trans b.f0) (call_out c3 b) rfl hΦ.2⟩
    have := rp_isNon rr
    rw [hΦ.1] at this
    exact of_decide_eq_true this
  · exact xo C fs Δ1 M' dd σ H' F' (call_out c3 b) rr hΨ
theorem qe_makeS (Mc : Mk X.K C f) (Fn : FnOk X.prog X.w X.K X.mg X.base (L2.CX X.prog X.w) k f fd ps (spOf X.K S)) (hr : Room (k + 1) X.A) (tk : Takes X W) (xo : XOk X.K Z W Ψ) (hg : Gl X x) (hm : X.mg x = some (.ref C)) (hb : Binds X.K fd ps []) (ha : QA X Z n (e :: es) rl)
    (hdb : (x == ("__debug__" : Str)) = false := by decide) (he : starEach (e :: es) X.env = (false, eval e X.env) :: starEach es X.env := by rfl) (hpl : (backTo pos (starEach es X.env)).any (·.1) = false := by rfl) : QE X Z (.Call (.Name x p) (e :: es) [] pos) (dMakeS C S Ψ rl) := by
  obtain ⟨ta, pa, sa⟩ := ha
  exact ⟨_, pe_makeS Mc Fn hr hg hm hb (fun σ => passAt tk σ) pa hdb he hpl, sim_makeS xo sa⟩
/-! ### dicts -/
/-- d.get(k, v) -/
def dGet2 (rd rk rf : RE) : RE := fun Δ M Φ => rd Δ M fun x Δ1 M1 => (match x with | .ref p => ∃ kvs, M1 p = some (.dct kvs) | _ => False) ∧ rk Δ1 M1 fun y Δ2 M2 => rf Δ2 M2 fun z Δ3 M3 => match x with
  | .ref p => ∃ kvs k, M3 p = some (.dct kvs) ∧ y.key = some k ∧ Φ ((getD kvs k).getD z) Δ3 M3
  | _ => False
theorem qe_get2 {g : Expr} (hu : X.A.units + 1 < cLine) (hd : QE X Z o rd) (hk : QE X Z e rk) (hf : QE X Z g rf) (m : M2 X o "get" apos e g cpos := by exact ⟨rfl, rfl, rfl, rfl⟩) : QE X Z (.Call (.Attribute o "get" apos) [e, g] [] cpos) (dGet2 rd rk rf) := by
  obtain ⟨td, pd, sd⟩ := hd
  obtain ⟨tk, pk, sk⟩ := hk
  obtain ⟨tf, pf, sf⟩ := hf
  refine ⟨_, pe_dget2 hu pd pk pf m, fun M σ H Δ F Φ c h Q q => ?_⟩
  refine sd M σ H Δ F _ c h _ fun v H1 x Δ1 M1 F1 e1 c1 r1 h1 => ?_
  obtain ⟨h0, h1⟩ := h1
  cases x with
  | ref p =>
    obtain ⟨kvs0, hM0⟩ := h0
    obtain ⟨vs0, g0, _⟩ := c1.bs.dctM hM0
    refine ⟨p, r1, .inl ⟨_, Rd.of g0⟩, ?_⟩
    refine sk M1 σ H1 Δ1 F1 _ c1 h1 _ fun w H2 y Δ2 M2 F2 e2 c2 r2 h2 => ?_
    refine sf M2 σ H2 Δ2 F2 _ c2 h2 _ fun u H3 z Δ3 M3 F3 e3 c3 r3 h3 => ?_
    obtain ⟨kvs, k, hM, hk, hΦ⟩ := h3
    obtain ⟨vs, g1, g2, g3⟩ := c3.bs.dctM hM
    refine ⟨valV vs k, ?_, ?_⟩
    · rw [rp_key r2 hk]
      exact DGet.k g1
    · rcases get_rps (k := k) g2 g3 with ⟨k1, k2⟩ | ⟨d, v', k1, k2, k3⟩
      · rw [k2]
        rw [k1] at hΦ
        exact q _ H3 z Δ3 M3 F3 ((e1.trans e2).trans e3) c3 r3 hΦ
      · rw [k2]
        rw [k1] at hΦ
        exact q _ H3 d Δ3 M3 F3 ((e1.trans e2).trans e3) c3 k3 hΦ
  | _ => exact h0.elim
/-- x in D, x not in D, D a dict of the module: keys that are there, keys that are not -/
def dInB (neg : Bool) (yes no : List Str) (r : RE) : RE := fun Δ M Φ => r Δ M fun x Δ1 M1 => match x with
  | .str z => (z ∈ yes ∧ Φ (.bl (!neg)) Δ1 M1) ∨ (z ∈ no ∧ Φ (.bl neg) Δ1 M1)
  | _ => False
theorem sim_inB {d : Addr} {yes no : List Str} {t : TE} {neg : Bool} {op : R2} (hk : ∀ z ∈ yes, ∃ u, PySem.W.nsIn K d z = some (some u)) (hn : ∀ z ∈ no, PySem.W.nsIn K d z = some none) (s : Sim K Z t r)
    (hop : ∀ z (o : Option Value) H Q, PySem.W.nsIn K d z = some o → Q (.bl (if neg then !o.isSome else o.isSome)) H → op (.str z) (.ref d) H Q) : Sim K Z (tOp op t (tC (.ref d))) (dInB neg yes no r) := by
  intro M σ H Δ F Φ c h Q q
  refine s M σ H Δ F _ c h _ fun v H1 y Δ1 M1 F1 e1 c1 r1 h1 => ?_
  cases y with
  | str z =>
    rw [show v = .str z from r1]
    rcases h1 with ⟨hz, h1⟩ | ⟨hz, h1⟩
    · obtain ⟨u, hu⟩ := hk z hz
      refine hop z _ H1 Q hu ?_
      have e : (if neg then !(some u).isSome else (some u).isSome) = !neg := by cases neg <;> rfl
      rw [e]
      exact q _ H1 (.bl (!neg)) Δ1 M1 F1 e1 c1 rfl h1
    · refine hop z _ H1 Q (hn z hz) ?_
      have e : (if neg then !(none : Option Value).isSome else (none : Option Value).isSome) = neg := by cases neg <;> rfl
      rw [e]
      exact q _ H1 (.bl neg) Δ1 M1 F1 e1 c1 rfl h1
  | _ => exact h1.elim
theorem qe_ninB {d : Addr} {ds : Array DictEntry} {m : Nat} {yes no : List Str} (Dk : KDict X.K X.w d ds m) (hk : ∀ z ∈ yes, ∃ u, PySem.W.nsIn X.K d z = some (some u)) (hn : ∀ z ∈ no, PySem.W.nsIn X.K d z = some none) (hg : Gl X x) (hm : X.mg x = some (.ref d)) (h : QE X Z e r) (hd : (x == ("__debug__" : Str)) = false := by decide)
    (hmk : behindInMarks .NotIn (.Name x p) = false := by rfl) : QE X Z (.Compare e [.NotIn] [.Name x p] pos) (dInB true yes no r) := by
  obtain ⟨t, pe, s⟩ := h
  exact ⟨_, pe_cmpR (op_notIn_kd Dk) pe (pe_glob (v := .ref d) hg hm rfl hd) hmk, sim_inB hk hn s fun z o H Q h q => ⟨z, o, rfl, rfl, h, q⟩⟩
theorem qt_ninB {d : Addr} {ds : Array DictEntry} {m : Nat} {yes no : List Str} (Dk : KDict X.K X.w d ds m) (hk : ∀ z ∈ yes, ∃ u, PySem.W.nsIn X.K d z = some (some u)) (hn : ∀ z ∈ no, PySem.W.nsIn X.K d z = some none) (hg : Gl X x) (hm : X.mg x = some (.ref d)) (h : QE X Z e r) (hd : (x == ("__debug__" : Str)) = false := by decide)
    (hmk : behindInMarks .NotIn (.Name x p) = false := by rfl) : QT X Z (.Compare e [.NotIn] [.Name x p] pos) (dTest (dInB true yes no r)) := by
  obtain ⟨t, pe, s⟩ := h
  exact ⟨_, pt_cmpR (op_notIn_kd Dk) pe (pe_glob (v := .ref d) hg hm rfl hd) hmk, simT_test (sim_inB hk hn s fun z o H Q h q => ⟨z, o, rfl, rfl, h, q⟩)⟩
/-- D[k], D a dict of the module -/
def dItemK (tab : List (Str × D)) (r : RE) : RE := fun Δ M Φ => r Δ M fun x Δ1 M1 => match x with
  | .str z => ∃ d, tab.lookup z = some d ∧ Φ d Δ1 M1
  | _ => False
theorem qe_itemK {d : Addr} {ds : Array DictEntry} {m : Nat} {tab : List (Str × D)} (Dk : KDict X.K X.w d ds m) (hk : ∀ z dd, tab.lookup z = some dd → ∃ (u : Value) (v : V), PySem.W.nsIn X.K d z = some (some u) ∧ RelV v u ∧ ∀ F, Rp X.K F dd v) (hg : Gl X x) (hm : X.mg x = some (.ref d)) (h : QE X Z e r)
    (hd : (x == ("__debug__" : Str)) = false := by decide) (hs : PlainIx e := by intro _ _; rfl) : QE X Z (.Subscript (.Name x p) e pos) (dItemK tab r) := by
  obtain ⟨t, pe, s⟩ := h
  refine ⟨_, pe_ix (ix_kd Dk) (pe_glob (v := .ref d) hg hm rfl hd) pe hs, fun M σ H Δ F Φ c h Q q => ?_⟩
  refine s M σ H Δ F _ c h _ fun v H1 y Δ1 M1 F1 e1 c1 r1 h1 => ?_
  cases y with
  | str z =>
    obtain ⟨dd, hl, hΦ⟩ := h1
    obtain ⟨u, v', g1, g2, g3⟩ := hk z dd hl
    exact ⟨z, u, v', rfl, r1, g1, g2, q _ H1 dd Δ1 M1 F1 e1 c1 (g3 _) hΦ⟩
  | _ => exact h1.elim
/-- d[k], d in memory -/
def dItem (rd rk : RE) : RE := fun Δ M Φ => rd Δ M fun x Δ1 M1 => rk Δ1 M1 fun y Δ2 M2 => match x with
  | .ref p => ∃ kvs k d, M2 p = some (.dct kvs) ∧ y.key = some k ∧ getD kvs k = some d ∧ Φ d Δ2 M2
  | _ => False
theorem qe_item (hu : X.A.units + 1 < cLine) (hd : QE X Z o rd) (hk : QE X Z e rk) (hs : NoSl e := by intro _ _; rfl) : QE X Z (.Subscript o e pos) (dItem rd rk) := by
  obtain ⟨td, pd, sd⟩ := hd
  obtain ⟨tk, pk, sk⟩ := hk
  refine ⟨_, pe_dget hu pd pk hs, fun M σ H Δ F Φ c h Q q => ?_⟩
  refine sd M σ H Δ F _ c h _ fun v H1 x Δ1 M1 F1 e1 c1 r1 h1 => ?_
  refine sk M1 σ H1 Δ1 F1 _ c1 h1 _ fun w H2 y Δ2 M2 F2 e2 c2 r2 h2 => ?_
  cases x with
  | ref p =>
    obtain ⟨kvs, k, d, hM, hk, hd, hΦ⟩ := h2
    obtain ⟨vs, g1, g2, g3⟩ := c2.bs.dctM hM
    rcases get_rps (k := k) g2 g3 with ⟨k1, k2⟩ | ⟨d', v', k1, k2, k3⟩
    · rw [hd] at k1; cases k1
    · rw [hd] at k1
      cases k1
      refine ⟨p, v', r1, ?_, q _ H2 d Δ2 M2 F2 (e1.trans e2) c2 k3 hΦ⟩
      rw [rp_key r2 hk, ← k2]
      exact DGet.k g1
  | _ => exact h2.elim
/-- {k: v, ..} of constants -/
def QPs (X : Cx) (pos : Pos) (keys : List (Option Expr)) (values : List Expr) (kvs : List (Key × D)) : Prop := ∃ trs, PPs X pos keys values trs ∧ ∃ kvv : List (Key × V), kvv.map Prod.fst = kvs.map Prod.fst ∧ (∀ F, Rps X.K F (kvs.map Prod.snd) (kvv.map Prod.snd)) ∧
  ∀ σ H Q, Q (kvv.map fun kv => (kV kv.1, kv.2)) H → tPairs trs σ H Q
theorem qps_nil {pos : Pos} : QPs X pos [] [] [] := ⟨_, pps_nil, [], rfl, fun _ => rfl, fun σ H Q q => q⟩
theorem qps_cons {pos kp vp : Pos} {kx : Str} {vi : Int} {j1 j2 : _} {ks : List (Option Expr)} {vs : List Expr} {kvs : List (Key × D)} (h : QPs X pos ks vs kvs) : QPs X pos (some (.Constant (.str kx) j1 kp) :: ks) (.Constant (.int vi) j2 vp :: vs) ((.inr kx, .int vi) :: kvs) := by
  obtain ⟨trs, p, kvv, h1, h2, h3⟩ := h
  refine ⟨_, pps_cons pe_str pe_int p, (.inr kx, .int vi) :: kvv, by rw [List.map_cons, List.map_cons, h1], fun F => ⟨_, _, rfl, rfl, h2 F⟩, fun σ H Q q => ?_⟩
  exact h3 σ H _ q
def dDispC (kvs : List (Key × D)) : RE := fun Δ M Φ => ∀ p, M p = none → Φ (.ref p) Δ (updM M p (.dct (kvs.foldl (fun acc kv => putKD acc kv.1 kv.2) [])))
theorem merge_rps {F : Hp} : ∀ {kvs : List (Key × D)} {vs : List (Key × V)} {acc : List (Key × D)} {av : List (Key × V)}, vs.map Prod.fst = kvs.map Prod.fst → Rps K F (kvs.map Prod.snd) (vs.map Prod.snd) → av.map Prod.fst = acc.map Prod.fst → Rps K F (acc.map Prod.snd) (av.map Prod.snd) →
    (mergeK av vs).map Prod.fst = (kvs.foldl (fun acc kv => putKD acc kv.1 kv.2) acc).map Prod.fst ∧ Rps K F ((kvs.foldl (fun acc kv => putKD acc kv.1 kv.2) acc).map Prod.snd) ((mergeK av vs).map Prod.snd)
  | [], [], acc, av, _, _, h1, h2 => ⟨h1, h2⟩
  | [], _ :: _, _, _, h, _, _, _ => by cases h
  | _ :: _, [], _, _, h, _, _, _ => by cases h
  | (k1, d) :: kvs, (k2, v) :: vs, acc, av, h, r, h1, h2 => by
    obtain ⟨u, w, e, g1, g2⟩ := r
    simp only [List.map_cons, List.cons.injEq] at h e
    obtain ⟨hk, ht⟩ := h
    obtain ⟨e1, e2⟩ := e
    subst hk
    rw [← e2] at g2
    rw [← e1] at g1
    obtain ⟨q1, q2⟩ := putK_rps (k := k2) g1 h1 h2
    exact merge_rps (kvs := kvs) (vs := vs) ht g2 q1 q2
theorem qe_dispC {keys : List (Option Expr)} {values : List Expr} {kvs : List (Key × D)} (h : QPs X pos keys values kvs) (hall : keys.all (·.isSome) = true := by rfl) (hl : keys.length = values.length := by rfl) (h0 : keys ≠ [] := by intro z; cases z) (h15 : keys.length ≤ 15 := by decide) (h15' : kvs.length ≤ 15 := by decide) :
    QE X Z (.Dict keys values pos) (dDispC kvs) := by
  obtain ⟨trs, p, kvv, h1, h2, h3⟩ := h
  refine ⟨_, pe_disp p hall hl h0 h15, fun M σ H Δ F Φ c h Q q => fun a ha => ?_⟩
  refine h3 σ _ _ ⟨upd_same, kvv, rfl, ?_, ?_⟩
  · have := congrArg List.length h1
    rw [List.length_map, List.length_map] at this
    omega
  · have e : upd (upd H a (.dK [])) a (.dK (mergeK [] kvv)) = upd H a (.dK (mergeK [] kvv)) := by
      funext b; unfold upd; split <;> rfl
    rw [e]
    obtain ⟨q1, q2⟩ := merge_rps (K := X.K) (F := F) (acc := []) (av := []) h1 (h2 F) rfl rfl
    exact q _ _ (.ref a) Δ _ F (Ex.refl _) (c.newO (o := .dct (kvs.foldl (fun acc kv => putKD acc kv.1 kv.2) [])) ha ⟨_, rfl, q1, q2⟩) rfl (h a (c.bs.freeM ha))
end
end DL

set_option Elab.async false
set_option linter.all false
set_option maxRecDepth 100000
set_option maxHeartbeats 4000000
/-! split, join, join(map(str, ..)), tuple(map(int, ..)), isinstance(e, T) of a built-in T -/
namespace DL
open PySem PySem.Spec PyProof.Rows L2
open Evl (Ex)
theorem rps_strs {K : PySem.W.Frag} {F : Hp} : ∀ (ys : List Str) {vs : List V}, Rps K F (ys.map D.str) vs → vs = ys.map V.str
  | [], _, h => h
  | y :: ys, vs, h => by
    obtain ⟨v, r, e1, h1, h2⟩ := h
    rw [e1, show v = V.str y from h1, rps_strs ys h2] <;> rfl
theorem strs_rps {K : PySem.W.Frag} {F : Hp} : ∀ (ys : List Str), Rps K F (ys.map D.str) (ys.map V.str)
  | [] => rfl
  | y :: ys => ⟨.str y, ys.map V.str, rfl, rfl, strs_rps ys⟩
section
variable {X : Cx} {Z : Zx} {e o : Expr} {ro re r : RE} {pos apos pos2 p p0 : Pos} {K : PySem.W.Frag}
def dSplit (ro re : RE) : RA := fun Δ M Φ => ro Δ M fun x Δ1 M1 => (match x with | .str _ => True | _ => False) ∧ re Δ1 M1 fun y Δ2 M2 => match x, y with
  | .str a, .str b => (b.length == 0) = false ∧ a.length + 2 ≤ sizeLine ∧ Φ ((Txt.split a b).map D.str) Δ2 M2
  | _, _ => False
theorem ql_split (ho : QE X Z o ro) (he : QE X Z e re) (hs : starEach [e] X.env = [(false, eval e X.env)] := by rfl) (hbase : attributeBase o "split" X.env (eval o X.env) = eval o X.env := by rfl) (hline : (apos.endLine == pos.line) = true := by rfl) :
    QL X Z (.Call (.Attribute o "split" apos) [e] [] pos) (dSplit ro re) := by
  obtain ⟨to, po, so⟩ := ho
  obtain ⟨te, pe, se⟩ := he
  refine ⟨_, pe_split po pe hs hbase hline, fun M σ H Δ F Φ c h Q q => ?_⟩
  refine so M σ H Δ F _ c h _ fun v H1 x Δ1 M1 F1 e1 c1 r1 h1 => ?_
  obtain ⟨h0, h1⟩ := h1
  cases x with
  | str a =>
    rw [show v = .str a from r1]
    refine ⟨⟨a, rfl⟩, ?_⟩
    refine se M1 σ H1 Δ1 F1 _ c1 h1 _ fun w H2 y Δ2 M2 F2 e2 c2 r2 h2 => ?_
    cases y with
    | str b =>
      rw [show w = .str b from r2]
      exact ⟨a, b, rfl, rfl, h2.1, h2.2.1, fun l hl => q l H2 _ _ Δ2 M2 F2 (e1.trans e2) c2 hl (strs_rps _) h2.2.2⟩
    | _ => exact h2.elim
  | _ => exact h0.elim
/-- sep.join(xs) -/
def dJoinL (ro re : RE) : RE := fun Δ M Φ => ro Δ M fun x Δ1 M1 => (match x with | .str _ => True | _ => False) ∧ re Δ1 M1 fun y Δ2 M2 => match x with
  | .str a => dSq M2 y fun ds => ∃ ys : List Str, ds = ys.map D.str ∧ (ys.map (·.length)).sum + ys.length * a.length ≤ 16777216 ∧ Φ (.str (Txt.join a ys)) Δ2 M2
  | _ => False
theorem qe_joinL (ho : QE X Z o ro) (he : QE X Z e re) (hs : starEach [e] X.env = [(false, eval e X.env)] := by rfl) (hbase : attributeBase o "join" X.env (eval o X.env) = eval o X.env := by rfl) (hline : (apos.endLine == pos.line) = true := by rfl) :
    QE X Z (.Call (.Attribute o "join" apos) [e] [] pos) (dJoinL ro re) := by
  obtain ⟨to, po, so⟩ := ho
  obtain ⟨te, pe, se⟩ := he
  refine ⟨_, pe_join po pe hs hbase hline, fun M σ H Δ F Φ c h Q q => ?_⟩
  refine so M σ H Δ F _ c h _ fun v H1 x Δ1 M1 F1 e1 c1 r1 h1 => ?_
  obtain ⟨h0, h1⟩ := h1
  cases x with
  | str a =>
    rw [show v = .str a from r1]
    refine ⟨⟨a, rfl⟩, ?_⟩
    refine se M1 σ H1 Δ1 F1 _ c1 h1 _ fun w H2 y Δ2 M2 F2 e2 c2 r2 h2 => ?_
    obtain ⟨p, vs, ds, ev, hq, g, hh, _⟩ := c2.sq r2 h2
    obtain ⟨ys, rfl, hz, hΦ⟩ := hh
    rw [rps_strs ys g] at hq
    exact ⟨a, p, ys, rfl, by rw [ev], hq, hz, q _ H2 (.str _) Δ2 M2 F2 (e1.trans e2) c2 rfl hΦ⟩
  | _ => exact h0.elim
/-- what map walks -/
def dSrc (M : Mem) (x : D) (Φ : List D → Prop) : Prop := match x with
  | .str z => z.cps.size ≤ sizeLine ∧ Φ (signsD z)
  | _ => dSq M x Φ
theorem signs_rps {F : Hp} {z : Str} : ∀ (l : List Nat), Rps K F (l.map fun c => D.str ⟨#[c]⟩) (l.map fun c => V.str ⟨#[c]⟩)
  | [] => rfl
  | c :: l => ⟨_, _, rfl, rfl, signs_rps (z := z) l⟩
theorem Cn.src {M : Mem} {σ : L2.St} {H F : Hp} {Δ : List Sl} (c : Cn K Z M σ H Δ F) {x : D} {v : V} {Φ : List D → Prop} (r : Rp K F x v) (h : dSrc M x Φ) : ∃ vs ds, SrcV K H v vs ∧ Rps K F ds vs ∧ Φ ds := by
  have gen : dSq M x Φ → ∃ vs ds, SrcV K H v vs ∧ Rps K F ds vs ∧ Φ ds := fun h => by
    obtain ⟨p, vs, ds, ev, hq, g, hh, _⟩ := c.sq r h
    exact ⟨vs, ds, .inl ⟨p, ev, hq⟩, g, hh⟩
  cases x with
  | str z =>
    exact ⟨_, _, .inr ⟨z, r, h.1, rfl⟩, signs_rps (z := z) _, h.2⟩
  | _ => exact gen h
/-- sep.join(map(str, xs)), xs ints -/
def dJoinMapI (ro re : RE) : RE := fun Δ M Φ => ro Δ M fun x Δ1 M1 => (match x with | .str _ => True | _ => False) ∧ re Δ1 M1 fun y Δ2 M2 => match x with
  | .str a => dSrc M2 y fun ds => ∃ ns : List Int, ds = ns.map D.int ∧ (∀ n ∈ ns, n.natAbs.log2 < 1920) ∧ ((ns.map fun n => (toString n : Str)).map (·.length)).sum + ns.length * a.length ≤ 16777216 ∧ Φ (.str (Txt.join a (ns.map fun n => (toString n : Str)))) Δ2 M2
  | _ => False
theorem qe_joinMapI (hc : X.calm = true) (ho : QE X Z o ro) (he : QE X Z e re) (hg : Gl X "map") (hm : X.mg "map" = none) (hg2 : Gl X "str") (hm2 : X.mg "str" = none)
    (hs1 : starEach [.Call (.Name "map" p) [.Name "str" p0, e] [] pos2] X.env = [(false, eval (.Call (.Name "map" p) [.Name "str" p0, e] [] pos2) X.env)] := by rfl)
    (hs : starEach [.Name "str" p0, e] X.env = (false, eval (.Name "str" p0) X.env) :: starEach [e] X.env := by rfl) (he1 : starEach [e] X.env = (false, eval e X.env) :: starEach [] X.env := by rfl) (hpl : (backTo pos2 (starEach [e] X.env)).any (·.1) = false := by rfl)
    (hbase : attributeBase o "join" X.env (eval o X.env) = eval o X.env := by rfl) (hline : (apos.endLine == pos.line) = true := by rfl) :
    QE X Z (.Call (.Attribute o "join" apos) [.Call (.Name "map" p) [.Name "str" p0, e] [] pos2] [] pos) (dJoinMapI ro re) := by
  obtain ⟨to, po, so⟩ := ho
  obtain ⟨te, pe, se⟩ := he
  refine ⟨_, pe_joinMapA hc po hg hm (pf_bltn hg2 hm2 (u := .type "str") (by decide +kernel)) (pa_cons pe pa_nil he1) mapV_str hs1 hs hpl hbase hline, fun M σ H Δ F Φ c h Q q => ?_⟩
  refine so M σ H Δ F _ c h _ fun v H1 x Δ1 M1 F1 e1 c1 r1 h1 => ?_
  obtain ⟨h0, h1⟩ := h1
  cases x with
  | str a =>
    rw [show v = .str a from r1]
    refine ⟨⟨a, rfl⟩, ?_⟩
    refine se M1 σ H1 Δ1 F1 _ c1 h1 _ fun w H2 y Δ2 M2 F2 e2 c2 r2 h2 => ?_
    obtain ⟨vs, ds, hv, g, hh⟩ := c2.src r2 h2
    obtain ⟨ns, rfl, hl, hz, hΦ⟩ := hh
    have ev := rps_ints ns vs g
    subst ev
    refine ⟨a, w, _, ns.map fun n => (toString n : Str), rfl, rfl, hv, ?_, ?_, by rw [List.length_map]; exact hz, q _ H2 (.str _) Δ2 M2 F2 (e1.trans e2) c2 rfl hΦ⟩
    · intro z hz
      obtain ⟨n, hn, rfl⟩ := List.mem_map.mp hz
      exact ⟨n, rfl, hl n hn⟩
    · rw [List.map_map, List.map_map]
      rfl
  | _ => exact h0.elim
/-- tuple(map(int, xs)), xs texts, or a text -/
def dTupMapI (re : RE) : RE := fun Δ M Φ => re Δ M fun y Δ2 M2 => dSrc M2 y fun ds => ∃ zs : List Str, ds = zs.map D.str ∧ (∀ z ∈ zs, (PySem.intText? z).isSome = true ∧ z.length ≤ 640) ∧ Φ (.tup (zs.map fun z => .int ((PySem.intText? z).getD 0))) Δ2 M2
theorem qe_tupMapI {pos p0 pI : Pos} (hc : X.calm = true) (he : QE X Z e re) (hg0 : Gl X "tuple") (hm0 : X.mg "tuple" = none) (hg : Gl X "map") (hm : X.mg "map" = none) (hg2 : Gl X "int") (hm2 : X.mg "int" = none)
    (hs1 : starEach [.Call (.Name "map" p) [.Name "int" pI, e] [] pos2] X.env = [(false, eval (.Call (.Name "map" p) [.Name "int" pI, e] [] pos2) X.env)] := by rfl)
    (hs : starEach [.Name "int" pI, e] X.env = (false, eval (.Name "int" pI) X.env) :: starEach [e] X.env := by rfl) (he1 : starEach [e] X.env = (false, eval e X.env) :: starEach [] X.env := by rfl) (hpl : (backTo pos2 (starEach [e] X.env)).any (·.1) = false := by rfl) (hpl0 : (backTo pos (starEach [] X.env)).any (·.1) = false := by rfl) :
    QE X Z (.Call (.Name "tuple" p0) [.Call (.Name "map" p) [.Name "int" pI, e] [] pos2] [] pos) (dTupMapI re) := by
  obtain ⟨te, pe, se⟩ := he
  refine ⟨_, pe_tupMap hc hg0 hm0 hg hm (pf_bltn hg2 hm2 (u := .type "int") (by decide +kernel)) (pa_cons pe pa_nil he1) mapV_int hs1 hs hpl hpl0, fun M σ H Δ F Φ c h Q q => ?_⟩
  refine se M σ H Δ F _ c h _ fun w H2 y Δ2 M2 F2 e2 c2 r2 h2 => ?_
  obtain ⟨vs, ds, hv, g, hh⟩ := c2.src r2 h2
  obtain ⟨zs, rfl, hl, hΦ⟩ := hh
  have ev := rps_strs zs g
  subst ev
  refine ⟨w, _, rfl, hv, ?_, fun p hp => ?_⟩
  · intro z hz
    obtain ⟨s, hs, rfl⟩ := List.mem_map.mp hz
    obtain ⟨k1, k2⟩ := hl s hs
    exact ⟨s, (PySem.intText? s).getD 0, rfl, by cases h : PySem.intText? s <;> simp_all, k2⟩
  · have rr : ∀ (F : Hp) (zs : List Str), Rps X.K F (zs.map fun z => .int ((PySem.intText? z).getD 0)) ((zs.map V.str).map intV) := by
      intro F zs
      induction zs with
      | nil => rfl
      | cons z zs ih => exact ⟨_, _, rfl, rfl, ih⟩
    exact q _ _ (.tup _) Δ2 M2 _ (e2.trans (c2.bs.exF hp _)) (c2.new hp _) ⟨p, _, rfl, SqT.of upd_same, rr _ zs⟩ hΦ
/-- isinstance(e, T), T a built-in exception class -/
theorem call_isXB {a D : Addr} {T : String} {oe : Obj} {d : Option Addr} {b : Bool} {pn : List (Addr × Obj)} (C : ExcC X.K D) (hk : PySem.W.kitOne X.K (.ref D) (.type T) = some b) (hz : Zc (.ref D) d oe) (hf : ∃ vs, oe.data = .fields vs) :
    CallR (X.suite a ((a, oe) :: pn)) (.builtin "isinstance") (fun xs H Q => xs = [.ref a, .ty T] ∧ (∀ dd, d = some dd → ∃ vfs, H dd = some (.xd vfs)) ∧ Q (.bl b) H) := by
  intro pins s σ H xs us Q I r h
  obtain ⟨rfl, hd, q⟩ := h
  match us, r with
  | [_, _], .cons rx (.cons ry .nil) =>
    cases rx
    cases ry
    have hget := (I.pin (a, oe) (List.mem_append.mpr (.inl List.mem_cons_self))).1
    obtain ⟨vs, hv⟩ := hf
    obtain ⟨h1, h2⟩ := hz
    have cl : (PySem.W.clsIn X.K D).isSome = true := by
      obtain ⟨cd, hc, _⟩ := PySem.W.any_some C.hd
      rw [hc] <;> rfl
    have nc : PySem.W.notCls oe = true := by unfold PySem.W.notCls; rw [hv] <;> rfl
    have fin : ∀ od, PySem.W.InstAt s.heap a oe D od → wpAny (model X.prog X.w) (X.suite a ((a, oe) :: pn)).A (call (.builtin "isinstance") [.ref a, .type T]) (EP (X.suite a ((a, oe) :: pn)) pins σ Q) (X.suite a ((a, oe) :: pn)).xe s := fun od J =>
      PySem.W.kia_one (PySem.W.kitx_exc (gt := none) (od := od) (ox := oe) cl C.hg C.hk C.hs C.ha C.hn C.ht C.hm) I.kIn J hk (fun z => nomatch z) fun tk => ⟨.bl b, H, I.kept (t' := tk) fun _ _ z => z, rfl, q⟩
    cases d with
    | none => exact fin none ⟨hget, h1, nc, by rw [h2]; trivial⟩
    | some dd =>
      obtain ⟨vfs, ed⟩ := hd dd rfl
      have hx : ObjOk X.prog X.w H s.heap dd (.xd vfs) := I.hok dd _ ed
      obtain ⟨mA, hns, hr⟩ := hx
      obtain ⟨od, ho, hl⟩ := lookIn_ns hns
      exact fin (some od) ⟨hget, h1, nc, by rw [h2]; exact ho⟩
theorem qe_isXB {a C : Addr} {T : String} {oe : Obj} {d : Option Addr} {b : Bool} {fs : List (Str × D)} {pn : List (Addr × Obj)} {p2 : Pos} {x : Str} (E : ExcC X.K C) (hk : PySem.W.kitOne X.K (.ref C) (.type T) = some b)
    (hz : Zc (.ref C) d oe) (hf : ∃ vs, oe.data = .fields vs) (xr : XRep X.K Z.F0 fs d) (he : QE (X.suite a ((a, oe) :: pn)) Z e r) (hg : Gl X "isinstance") (hm : X.mg "isinstance" = none) (hg2 : Gl X x) (hm2 : X.mg x = none) (hb : bootBuiltins x = some (.type T)) (hn : x ≠ "__name__" := by decide) (hdb : (x == ("__debug__" : Str)) = false := by decide)
    (h1 : starEach [e, .Name x p2] X.env = (false, eval e X.env) :: starEach [.Name x p2] X.env := by rfl) (h2 : starEach [.Name x p2] X.env = (false, eval (.Name x p2) X.env) :: starEach [] X.env := by rfl) (hpl : (backTo pos (starEach [.Name x p2] X.env)).any (·.1) = false := by rfl) :
    QE (X.suite a ((a, oe) :: pn)) Z (.Call (.Name "isinstance" p) [e, .Name x p2] [] pos) (dIsX a b r) := by
  obtain ⟨t, pe, s⟩ := he
  refine ⟨_, pe_callB (X := X.suite a ((a, oe) :: pn)) (call_isXB E hk hz hf) hg hm (by decide +kernel) (pa_cons pe (pa_cons (pe_bltn (X := X.suite a ((a, oe) :: pn)) hg2 hm2 hb (v := .ty T) rfl hn hdb) pa_nil h2) h1) (by decide) (by decide) h1 hpl, fun M σ H Δ F Φ c h Q q => ?_⟩
  refine s M σ H Δ F _ c h _ fun v H1 y Δ1 M1 F1 e1 c1 r1 k => ?_
  cases y with
  | ref b =>
    obtain ⟨rfl, hΦ⟩ := k
    refine ⟨by rw [show v = .ref b from r1], fun dd hd => ?_, q _ H1 (.bl _) Δ1 M1 F1 e1 c1 rfl hΦ⟩
    subst hd
    obtain ⟨vfs, g1, _⟩ := xr.mono c1.bs.f0
    exact ⟨vfs, c1.bs.fH _ _ g1⟩
  | _ => exact k.elim
/-- text * n -/
def rMulS : R2 := fun x y H Q => ∃ z k, x = .str z ∧ y = .int k ∧ z.length ≤ 1000 ∧ 0 ≤ k ∧ k ≤ 1000 ∧ Q (.str (Txt.mul z k)) H
theorem op_mulS : OpR X (binaryOp .Mult) rMulS := by
  intro pins s σ H x y v u Q I rx ry h
  obtain ⟨z, k, rfl, rfl, hz, h0, h1, q⟩ := h
  obtain ⟨t, rfl⟩ := rx
  obtain ⟨t2, rfl⟩ := ry
  exact SB.mul (mulOk_of 1000 1000 hz (by omega) (by omega) (by decide) (by decide)) fun t' k => ⟨.str _, H, I.tok _, ⟨t', rfl⟩, q⟩
def dMulS : D → D → (D → Prop) → Prop := fun x y Φ => match x, y with
  | .str z, .int k => z.length ≤ 1000 ∧ (0 ≤ k ∧ k ≤ 1000) ∧ Φ (.str (Txt.mul z k))
  | _, _ => False
theorem od_mulS : OpD K rMulS dMulS := by
  intro Z M σ H Δ F x y v w Φ c rx ry k Q q
  cases x with
  | str z =>
    cases y with
    | int n =>
      obtain ⟨h1, ⟨h2, h3⟩, k⟩ := k
      exact ⟨z, n, rx, ry, h1, h2, h3, q _ H (.str _) F (Ex.refl _) c rfl k⟩
    | _ => exact k.elim
  | _ => exact k.elim
theorem qe_mulS {a b : Expr} {ra rb : RE} (ha : QE X Z a ra) (hb : QE X Z b rb) : QE X Z (.BinOp a .Mult b pos) (dOp dMulS ra rb) := qe_bin op_mulS od_mulS ha hb
end
/-- a tuple of ints of the module -/
theorem rp_intsK {K : PySem.W.Frag} {F : Hp} {c : Addr} {o : Obj} {its : Array Value} {n : Nat} {xs : List Int} (hk : K.lookup c = some o) (hc : o.cls = .type "tuple") (hd : o.data = .seq its n) (hz : its.size ≤ sizeLine) (hv : Vals (xs.map V.int) its.toList) : Rp K F (.tup (xs.map .int)) (.ref c) := by
  refine ⟨c, xs.map V.int, rfl, .inr ⟨o, its, n, hk, hc, hd, hz, hv⟩, ?_⟩
  clear hv
  exact ints_rps xs
theorem lookup_mem {z : Str} {dd : D} : ∀ {tab : List (Str × D)}, tab.lookup z = some dd → z ∈ tab.map Prod.fst
  | [], h => by cases h
  | (k, d) :: tab, h => by
    by_cases e : z = k
    · subst e
      exact List.mem_cons_self
    · have : (z == k) = false := by simpa using e
      rw [List.lookup, this] at h
      exact List.mem_cons_of_mem _ (lookup_mem h)
theorem kitB_true {K : PySem.W.Frag} {C : Addr} {T : String} (hm : PySem.W.kitMeta T = true) (hs : PySem.W.subIn K (.ref C) (.type T) = some true) : PySem.W.kitOne K (.ref C) (.type T) = some true := by
  unfold PySem.W.kitOne
  split
  · rfl
  · show (if PySem.W.kitMeta T = true then PySem.W.subIn K (.ref C) (.type T) else none) = some true
    rw [if_pos hm, hs]
end DL

set_option Elab.async false
set_option linter.all false
set_option maxRecDepth 100000
set_option maxHeartbeats 4000000
/-! e in x, e not in x, x an own list that stays one -/
namespace DL
open PySem PySem.Spec PyProof.Rows L2
open Evl (Ex)
section
variable {X : Cx} {Z : Zx} {a : Expr} {ra : RE} {pos : Pos}
def dInO (neg : Bool) (j : Nat) (r : RE) : RE := fun Δ M Φ => r Δ M fun x Δ1 M1 => match Δ1[j]? with
  | some (.own ds) => x.flat = true ∧ ds.all D.flat = true ∧ Φ (.bl (if neg then !inD x ds else inD x ds)) Δ1 M1
  | _ => False
theorem sim_inO {K : PySem.W.Frag} {neg : Bool} {j : Nat} {t : TE} (h : Sim K Z t ra) : Sim K Z (tOp (rIn K neg) t (tVar j)) (dInO neg j ra) := by
  intro M σ H Δ F Φ c k Q q
  refine h M σ H Δ F _ c k _ fun v H1 x Δ1 M1 F1 e1 c1 r1 h1 => ?_
  split at h1
  · rename_i ds hd
    obtain ⟨f1, f2, h1⟩ := h1
    obtain ⟨p, vs, e2, g1, g2, g3, g4, g5⟩ := c1.slot j _ hd
    obtain ⟨u1, u2⟩ := rp_flat r1 f1
    obtain ⟨u3, u4⟩ := rps_flat g2 f2
    refine ⟨_, e2, p, vs, rfl, .inl (SqL.of g1), u2, u4, ?_⟩
    rw [u1, u3]
    exact q _ H1 (.bl _) Δ1 M1 F1 e1 c1 rfl h1
  · exact h1.elim
theorem qe_inO (j : Nat) {x : Str} {p2 : Pos} (ha : QE X Z a ra) (hN : X.N[j]? = some x := by rfl) (hv : Vis X.env.scope x := by first | exact Or.inl rfl | exact Or.inr (Or.inl rfl) | exact Or.inr (Or.inr rfl)) (hd : (x == ("__debug__" : Str)) = false := by decide)
    (hcd : (x == ("__classdict__" : Str)) = false := by decide) (hm : behindInMarks .In (.Name x p2) = false := by first | exact nobehind _ (by decide) (by decide) | rfl) : QE X Z (.Compare a [.In] [.Name x p2] pos) (dInO false j ra) := by
  obtain ⟨ta, pa, sa⟩ := ha
  exact ⟨_, pe_cmpR op_in_seq pa (pe_var (i := j) hN hv hd hcd) hm, sim_inO sa⟩
theorem qe_ninO (j : Nat) {x : Str} {p2 : Pos} (ha : QE X Z a ra) (hN : X.N[j]? = some x := by rfl) (hv : Vis X.env.scope x := by first | exact Or.inl rfl | exact Or.inr (Or.inl rfl) | exact Or.inr (Or.inr rfl)) (hd : (x == ("__debug__" : Str)) = false := by decide)
    (hcd : (x == ("__classdict__" : Str)) = false := by decide) (hm : behindInMarks .NotIn (.Name x p2) = false := by first | exact nobehind _ (by decide) (by decide) | rfl) : QE X Z (.Compare a [.NotIn] [.Name x p2] pos) (dInO true j ra) := by
  obtain ⟨ta, pa, sa⟩ := ha
  exact ⟨_, pe_cmpR op_notIn_seq pa (pe_var (i := j) hN hv hd hcd) hm, sim_inO sa⟩
theorem qt_inO (j : Nat) {x : Str} {p2 : Pos} (ha : QE X Z a ra) (hN : X.N[j]? = some x := by rfl) (hv : Vis X.env.scope x := by first | exact Or.inl rfl | exact Or.inr (Or.inl rfl) | exact Or.inr (Or.inr rfl)) (hd : (x == ("__debug__" : Str)) = false := by decide)
    (hcd : (x == ("__classdict__" : Str)) = false := by decide) (hm : behindInMarks .In (.Name x p2) = false := by first | exact nobehind _ (by decide) (by decide) | rfl) : QT X Z (.Compare a [.In] [.Name x p2] pos) (dTest (dInO false j ra)) := by
  obtain ⟨ta, pa, sa⟩ := ha
  exact ⟨_, pt_cmpR op_in_seq pa (pe_var (i := j) hN hv hd hcd) hm, simT_test (sim_inO sa)⟩
theorem qt_ninO (j : Nat) {x : Str} {p2 : Pos} (ha : QE X Z a ra) (hN : X.N[j]? = some x := by rfl) (hv : Vis X.env.scope x := by first | exact Or.inl rfl | exact Or.inr (Or.inl rfl) | exact Or.inr (Or.inr rfl)) (hd : (x == ("__debug__" : Str)) = false := by decide)
    (hcd : (x == ("__classdict__" : Str)) = false := by decide) (hm : behindInMarks .NotIn (.Name x p2) = false := by first | exact nobehind _ (by decide) (by decide) | rfl) : QT X Z (.Compare a [.NotIn] [.Name x p2] pos) (dTest (dInO true j ra)) := by
  obtain ⟨ta, pa, sa⟩ := ha
  exact ⟨_, pt_cmpR op_notIn_seq pa (pe_var (i := j) hN hv hd hcd) hm, simT_test (sim_inO sa)⟩
end
end DL

set_option Elab.async false
set_option linter.all false
set_option maxRecDepth 100000
set_option maxHeartbeats 4000000
namespace My
open PySem PySem.Spec PyProof.Rows L2 DL
open Evl (Ex)
/-! ### words as lists of signs -/
/-- at place i, 0 beyond the end -/
def sg (l : List Nat) (i : Nat) : Nat := l.getD i 0
def stops (c : Nat) : Bool := c == 32 || c == 40 || c == 41
def opens (fs : List (List Nat)) : Bool := match fs.getLast? with
  | none => true
  | some t => t == [40]
/-- where the next token begins -/
def begN (l : List Nat) (i : Nat) (o : Bool) : Option Nat :=
  if o = true then (if sg l i = 32 then none else some i)
  else if sg l i = 41 then some i
  else if sg l i = 32 ∧ i + 1 < l.length ∧ sg l (i + 1) ≠ 32 ∧ sg l (i + 1) ≠ 41 then some (i + 1) else none
/-- how many signs follow that stop nothing -/
def runN (l : List Nat) (i : Nat) : Nat := ((l.drop i).takeWhile fun c => !stops c).length
/-- where the token that begins at b ends -/
def endN (l : List Nat) (b : Nat) : Nat := if sg l b = 40 ∨ sg l b = 41 then b + 1 else b + 1 + runN l (b + 1)
def tokN (l : List Nat) (b : Nat) : List Nat := (l.drop b).take (endN l b - b)
/-- the program's way through a line: tokens, the fault's number or 0 -/
def scanN (l : List Nat) : Nat → Nat → List (List Nat) → List (List Nat) × Nat
  | 0, _, fs => (fs, 0)
  | k + 1, i, fs => if i < l.length then
      match begN l i (opens fs) with
      | none => (fs, fs.length + 1)
      | some b => scanN l k (endN l b) (fs ++ [tokN l b])
    else (fs, 0)
/-- the law's way -/
def scanL (l : List Nat) : Nat → Nat → List (List Nat) → List (List Nat) × Nat
  | 0, _, fs => (fs, 0)
  | k + 1, i, fs => if i = l.length then (fs, 0) else if sg l i = 32 then (fs, fs.length + 1) else
      if tokN l i = [40] ∨ endN l i = l.length ∨ sg l (endN l i) = 41 then scanL l k (endN l i) (fs ++ [tokN l i])
      else if sg l (endN l i) ≠ 32 ∨ endN l i + 1 = l.length ∨ sg l (endN l i + 1) = 32 ∨ sg l (endN l i + 1) = 41 then (fs ++ [tokN l i], (fs ++ [tokN l i]).length + 1)
      else scanL l k (endN l i + 1) (fs ++ [tokN l i])
theorem runN_le {l : List Nat} {i : Nat} (h : i ≤ l.length) : i + runN l i ≤ l.length := by
  unfold runN
  have h1 := (List.takeWhile_prefix (p := fun c => !stops c) (l := l.drop i)).length_le
  rw [List.length_drop] at h1
  omega
theorem endN_le {l : List Nat} {b : Nat} (h : b < l.length) : b < endN l b ∧ endN l b ≤ l.length := by
  unfold endN
  have := runN_le (l := l) (i := b + 1) h
  split <;> omega
theorem opens_snoc {fs : List (List Nat)} {t : List Nat} : opens (fs ++ [t]) = (t == [40]) := by
  unfold opens
  rw [List.getLast?_append]
  rfl
theorem scan_same (l : List Nat) : ∀ (k at_ i : Nat) (fs : List (List Nat)), at_ ≤ l.length → l.length < k + at_ →
    ((at_ = i ∧ (opens fs = true ∨ at_ = l.length ∨ sg l at_ = 41)) ∨ (opens fs = false ∧ at_ = i + 1 ∧ i + 1 < l.length ∧ sg l i = 32 ∧ sg l (i + 1) ≠ 32 ∧ sg l (i + 1) ≠ 41)) → scanL l k at_ fs = scanN l k i fs := by
  intro k
  induction k with
  | zero => intro at_ i fs h1 h2; omega
  | succ k ih =>
    intro at_ i fs h1 h2 h
    have step : at_ < l.length → sg l at_ ≠ 32 → i < l.length → begN l i (opens fs) = some at_ → scanL l (k + 1) at_ fs = scanN l (k + 1) i fs := by
      intro g1 g2 g3 g4
      obtain ⟨e1, e2⟩ := endN_le g1
      unfold scanL scanN
      rw [if_neg (by omega), if_neg g2, if_pos g3, g4]
      show (if _ then _ else _) = scanN l k (endN l at_) (fs ++ [tokN l at_])
      by_cases c1 : tokN l at_ = [40] ∨ endN l at_ = l.length ∨ sg l (endN l at_) = 41
      · rw [if_pos c1]
        refine ih _ _ _ e2 (by omega) (.inl ⟨rfl, ?_⟩)
        rcases c1 with c | c
        · exact .inl (by rw [opens_snoc, c] <;> rfl)
        · exact .inr c
      · rw [if_neg c1]
        have n1 : tokN l at_ ≠ [40] := fun z => c1 (.inl z)
        have n2 : endN l at_ ≠ l.length := fun z => c1 (.inr (.inl z))
        have n3 : sg l (endN l at_) ≠ 41 := fun z => c1 (.inr (.inr z))
        have op : opens (fs ++ [tokN l at_]) = false := by
          rw [opens_snoc]
          exact beq_false_of_ne n1
        by_cases c2 : sg l (endN l at_) ≠ 32 ∨ endN l at_ + 1 = l.length ∨ sg l (endN l at_ + 1) = 32 ∨ sg l (endN l at_ + 1) = 41
        · rw [if_pos c2]
          match k, ih, h2 with
          | 0, _, h2 => omega
          | k + 1, _, _ =>
            unfold scanN
            rw [if_pos (by omega), op]
            have b0 : begN l (endN l at_) false = none := by
              unfold begN
              rw [if_neg (by decide), if_neg n3, if_neg]
              rintro ⟨z1, z2, z3, z4⟩
              rcases c2 with c | c | c | c
              · exact c z1
              · omega
              · exact z3 c
              · exact z4 c
            rw [b0]
        · rw [if_neg c2]
          refine ih _ _ _ (by omega) (by omega) (.inr ⟨op, rfl, ?_, ?_, ?_, ?_⟩)
          · by_cases z : endN l at_ + 1 < l.length
            · exact z
            · exact absurd (.inr (.inl (by omega))) c2
          · by_cases z : sg l (endN l at_) = 32
            · exact z
            · exact absurd (.inl z) c2
          · exact fun z => c2 (.inr (.inr (.inl z)))
          · exact fun z => c2 (.inr (.inr (.inr z)))
    rcases h with ⟨rfl, h⟩ | ⟨h, rfl, h3, h4, h5, h6⟩
    · by_cases hl : at_ = l.length
      · unfold scanL scanN
        rw [if_pos hl, if_neg (by omega)]
      · have hlt : at_ < l.length := by omega
        by_cases hs : sg l at_ = 32
        · unfold scanL scanN
          rw [if_neg hl, if_pos hs, if_pos hlt]
          have o : opens fs = true := by
            rcases h with h | h | h
            · exact h
            · exact absurd h hl
            · rw [hs] at h; cases h
          have : begN l at_ (opens fs) = none := by
            unfold begN
            rw [if_pos o, if_pos hs]
          rw [this]
        · refine step hlt hs hlt ?_
          unfold begN
          by_cases o : opens fs = true
          · rw [if_pos o, if_neg hs]
          · rw [if_neg o, if_pos (by
              rcases h with h | h | h
              · exact absurd h o
              · exact absurd h hl
              · exact h)]
    · refine step h3 h5 (by omega) ?_
      unfold begN
      rw [if_neg (by rw [h]; decide), if_neg (by rw [h4]; decide), if_pos ⟨h4, h3, h5, h6⟩]
def scan (l : List Nat) : List (List Nat) × Nat := scanN l (l.length + 1) 0 []
theorem scanL_eq (l : List Nat) : scanL l (l.length + 1) 0 [] = scan l := scan_same l _ _ _ _ (Nat.zero_le _) (by omega) (.inl ⟨rfl, .inl rfl⟩)
/-! ### numbers in words -/
def isDig (c : Nat) : Bool := decide (48 ≤ c) && decide (c ≤ 57)
def valN (t : List Nat) : Nat := t.foldl (fun a c => 10 * a + (c - 48)) 0
/-- the number that a token is -/
def numT (t : List Nat) : Option Nat := if t ≠ [] ∧ t.length ≤ 3 ∧ t.all isDig = true ∧ (sg t 0 = 48 → t.length = 1) then some (valN t) else none
/-! ### the program's way through the tokens: a value and the place behind it, or the fault -/
def parse (ts : List (List Nat)) : Nat → Nat → (T × Nat) ⊕ Nat
  | 0, p => match numT (ts.getD p []) with
    | some v => .inl (.n v, p + 1)
    | none => .inr (p + 1)
  | d + 1, p => if ts.getD p [] = [40] then
      match parse ts d (p + 1) with
      | .inr k => .inr k
      | .inl (a, q) => match parse ts d q with
        | .inr k => .inr k
        | .inl (b, r) => if ts.getD r [] = [41] then .inl (.p a b, r + 1) else .inr (r + 1)
    else match numT (ts.getD p []) with
      | some v => .inl (.n v, p + 1)
      | none => .inr (p + 1)
def readT (ts : List (List Nat)) : (T ⊕ Nat) := match parse ts 4 0 with
  | .inr k => .inr k
  | .inl (v, p) => if p = ts.length then .inl v else .inr (p + 1)
/-! ### the law's way: counts of parts, the newest first -/
def room (cs : List Nat) (done : Bool) : Bool := !done && (match cs with | [] => true | h :: _ => decide (h < 2))
/-- behind a closed part: the counts and whether all is done -/
def bump : List Nat → List Nat × Bool
  | [] => ([], true)
  | h :: r => ((h + 1) :: r, false)
/-- one token: the new state, or a fault -/
def stepF (t : List Nat) (cs : List Nat) (done : Bool) : Option (List Nat × Bool) :=
  if t = [40] ∧ room cs done = true ∧ cs.length < 4 then some (0 :: cs, done)
  else if t = [41] ∧ done = false ∧ cs ≠ [] ∧ cs.head? = some 2 then some (bump cs.tail)
  else if (numT t).isSome = true ∧ room cs done = true then some (bump cs)
  else none
def faultF (ts : List (List Nat)) : Nat → Nat → List Nat → Bool → Nat
  | 0, _, _, done => if done = true then 0 else ts.length + 1
  | k + 1, p, cs, done => match stepF (ts.getD p []) cs done with
    | some (cs', done') => faultF ts k (p + 1) cs' done'
    | none => p + 1
/-- from place p on -/
def from_ (ts : List (List Nat)) (p : Nat) (cs : List Nat) (done : Bool) : Nat := faultF ts (ts.length - p) p cs done
theorem from_end {ts : List (List Nat)} {p : Nat} {cs : List Nat} {done : Bool} (h : ts.length ≤ p) : from_ ts p cs done = if done = true then 0 else ts.length + 1 := by
  unfold from_
  rw [show ts.length - p = 0 by omega] <;> rfl
theorem from_step {ts : List (List Nat)} {p : Nat} {cs : List Nat} {done : Bool} (h : p < ts.length) : from_ ts p cs done = match stepF (ts.getD p []) cs done with
    | some (cs', done') => from_ ts (p + 1) cs' done'
    | none => p + 1 := by
  unfold from_
  obtain ⟨k, hk⟩ : ∃ k, ts.length - p = k + 1 := ⟨ts.length - p - 1, by omega⟩
  rw [hk, show ts.length - (p + 1) = k by omega]
  show (match stepF (ts.getD p []) cs done with | some (cs', done') => faultF ts k (p + 1) cs' done' | none => p + 1) = _
  cases stepF (ts.getD p []) cs done <;> rfl
theorem getD_ge {ts : List (List Nat)} {p : Nat} (h : ts.length ≤ p) : ts.getD p [] = [] := by
  rw [List.getD_eq_getElem?_getD, List.getElem?_eq_none_iff.mpr h] <;> rfl
theorem num_nil : numT [] = none := by decide
theorem num_open : numT [40] = none := by decide
theorem num_close : numT [41] = none := by decide
/-- a leaf -/
theorem leaf_run {ts : List (List Nat)} {p : Nat} {cs : List Nat} (hp : p ≤ ts.length) (hr : room cs false = true) (hn : ¬ (ts.getD p [] = [40] ∧ cs.length < 4)) :
    match numT (ts.getD p []) with
    | some v => p + 1 ≤ ts.length ∧ from_ ts p cs false = from_ ts (p + 1) (bump cs).1 (bump cs).2
    | none => from_ ts p cs false = p + 1 := by
  by_cases h : p < ts.length
  · rw [from_step h]
    have h2 : ¬ (ts.getD p [] = [41] ∧ false = false ∧ cs ≠ [] ∧ cs.head? = some 2) := by
      rintro ⟨_, _, z1, z2⟩
      cases cs with
      | nil => exact z1 rfl
      | cons a r =>
        have e : a = 2 := by simpa using z2
        subst e
        cases hr
    unfold stepF
    rw [if_neg (fun z => hn ⟨z.1, z.2.2⟩), if_neg h2]
    cases e : numT (ts.getD p []) with
    | some v =>
      rw [if_pos ⟨rfl, hr⟩]
      exact ⟨h, rfl⟩
    | none => rw [if_neg (fun z => Bool.noConfusion (show false = true from z.1))]
  · have e : p = ts.length := by omega
    rw [getD_ge (by omega), num_nil, from_end (by omega), e] <;> rfl
theorem run_parse (ts : List (List Nat)) : ∀ (d p : Nat) (cs : List Nat), p ≤ ts.length → d + cs.length = 4 → room cs false = true →
    match parse ts d p with
    | .inl (_, q) => p < q ∧ q ≤ ts.length ∧ from_ ts p cs false = from_ ts q (bump cs).1 (bump cs).2
    | .inr k => from_ ts p cs false = k ∧ 0 < k := by
  intro d
  induction d with
  | zero =>
    intro p cs hp hd hr
    have q := leaf_run hp hr fun z => by omega
    unfold parse
    cases e : numT (ts.getD p []) with
    | some v =>
      rw [e] at q
      exact ⟨Nat.lt_succ_self p, q.1, q.2⟩
    | none =>
      rw [e] at q
      exact ⟨q, Nat.succ_pos p⟩
  | succ d ih =>
    intro p cs hp hd hr
    unfold parse
    by_cases ho : ts.getD p [] = [40]
    · rw [if_pos ho]
      have hlt : p < ts.length := by
        by_cases z : p < ts.length
        · exact z
        · rw [getD_ge (by omega)] at ho; cases ho
      have e1 : from_ ts p cs false = from_ ts (p + 1) (0 :: cs) false := by
        rw [from_step hlt, ho]
        unfold stepF
        rw [if_pos ⟨rfl, hr, by omega⟩]
      have q1 := ih (p + 1) (0 :: cs) hlt (by rw [List.length_cons]; omega) rfl
      cases p1 : parse ts d (p + 1) with
      | inr k =>
        rw [p1] at q1
        exact ⟨e1.trans q1.1, q1.2⟩
      | inl aq =>
        obtain ⟨a, q⟩ := aq
        rw [p1] at q1
        obtain ⟨l1, l2, e2⟩ := q1
        have q2 := ih q (1 :: cs) l2 (by rw [List.length_cons]; omega) rfl
        dsimp only
        cases p2 : parse ts d q with
        | inr k =>
          rw [p2] at q2
          exact ⟨(e1.trans e2).trans q2.1, q2.2⟩
        | inl br =>
          obtain ⟨b, r⟩ := br
          rw [p2] at q2
          obtain ⟨l3, l4, e3⟩ := q2
          dsimp only
          have e4 : from_ ts p cs false = from_ ts r (2 :: cs) false := (e1.trans e2).trans e3
          by_cases hc : ts.getD r [] = [41]
          · rw [if_pos hc]
            have hlt2 : r < ts.length := by
              by_cases z : r < ts.length
              · exact z
              · rw [getD_ge (by omega)] at hc; cases hc
            refine ⟨by omega, hlt2, ?_⟩
            rw [e4, from_step hlt2, hc]
            unfold stepF
            rw [if_neg (by rintro ⟨z, _⟩; cases z), if_pos ⟨rfl, rfl, by simp, rfl⟩]
            rfl
          · rw [if_neg hc]
            refine ⟨?_, Nat.succ_pos r⟩
            rw [e4]
            by_cases z : r < ts.length
            · rw [from_step z]
              unfold stepF
              rw [if_neg (by rintro ⟨_, z2, _⟩; cases z2), if_neg (by rintro ⟨z1, _⟩; exact hc z1), if_neg (by rintro ⟨_, z2⟩; cases z2)]
            · rw [from_end (by omega)]
              show ts.length + 1 = r + 1
              omega
    · rw [if_neg ho]
      have q := leaf_run hp hr fun z => ho z.1
      cases e : numT (ts.getD p []) with
      | some v =>
        rw [e] at q
        exact ⟨Nat.lt_succ_self p, q.1, q.2⟩
      | none =>
        rw [e] at q
        exact ⟨q, Nat.succ_pos p⟩
/-- the law's fault is the program's -/
theorem fault_read (ts : List (List Nat)) : from_ ts 0 [] false = match readT ts with | .inl _ => 0 | .inr k => k := by
  have h := run_parse ts 4 0 [] (Nat.zero_le _) rfl rfl
  unfold readT
  cases e : parse ts 4 0 with
  | inr k =>
    rw [e] at h
    exact h.1
  | inl vq =>
    obtain ⟨v, q⟩ := vq
    rw [e] at h
    obtain ⟨_, l, e1⟩ := h
    rw [e1]
    dsimp only
    by_cases hq : q = ts.length
    · rw [if_pos hq, from_end (by omega)] <;> rfl
    · rw [if_neg hq, from_step (by omega)]
      unfold stepF
      rw [if_neg (by rintro ⟨_, z, _⟩; cases z), if_neg (by rintro ⟨_, z, _⟩; cases z), if_neg (by rintro ⟨_, z⟩; cases z)]
theorem read_pos (ts : List (List Nat)) {k : Nat} (h : readT ts = .inr k) : 0 < k := by
  have g := run_parse ts 4 0 [] (Nat.zero_le _) rfl rfl
  unfold readT at h
  cases e : parse ts 4 0 with
  | inr j =>
    rw [e] at g h
    cases h
    exact g.2
  | inl vq =>
    obtain ⟨v, q⟩ := vq
    rw [e] at h
    dsimp only at h
    split at h
    · cases h
    · cases h
      exact Nat.succ_pos _
/-! ### numbers as words -/
def digs (i : Int) : List Nat := (Str.ofString (toString i)).cps.toList
theorem dig1 : ((List.range 10).all fun a => digs (valN [48 + a] : Nat) == [48 + a]) = true := by decide +kernel
theorem dig2 : ((List.range 9).all fun a => (List.range 10).all fun b => digs (valN [49 + a, 48 + b] : Nat) == [49 + a, 48 + b]) = true := by decide +kernel
theorem dig3 : ((List.range 9).all fun a => (List.range 10).all fun b => (List.range 10).all fun c => digs (valN [49 + a, 48 + b, 48 + c] : Nat) == [49 + a, 48 + b, 48 + c]) = true := by decide +kernel
theorem all_range {n : Nat} {p : Nat → Bool} (h : (List.range n).all p = true) {i : Nat} (hi : i < n) : p i = true := List.all_eq_true.mp h i (List.mem_range.mpr hi)
theorem numT_some {t : List Nat} {v : Nat} (h : numT t = some v) : digs (v : Nat) = t ∧ v < 1000 := by
  unfold numT at h
  split at h
  · rename_i hc
    obtain ⟨h1, h2, h3, h4⟩ := hc
    injection h with h
    subst h
    have dg : ∀ c ∈ t, 48 ≤ c ∧ c ≤ 57 := fun c hm => by
      have := List.all_eq_true.mp h3 c hm
      unfold isDig at this
      rw [Bool.and_eq_true, decide_eq_true_iff, decide_eq_true_iff] at this
      exact this
    match t, h1, h2, h4, dg with
    | [a], _, _, _, dg =>
      have ha := dg a (by simp)
      obtain ⟨x, rfl⟩ : ∃ x, a = 48 + x := ⟨a - 48, by omega⟩
      refine ⟨eq_of_beq (all_range dig1 (by omega)), ?_⟩
      show 10 * 0 + (48 + x - 48) < 1000
      omega
    | [a, b], _, _, h4, dg =>
      have ha := dg a (by simp)
      have hb := dg b (by simp)
      have hz : a ≠ 48 := fun z => by
        have := h4 z
        cases this
      obtain ⟨x, rfl⟩ : ∃ x, a = 49 + x := ⟨a - 49, by omega⟩
      obtain ⟨y, rfl⟩ : ∃ y, b = 48 + y := ⟨b - 48, by omega⟩
      refine ⟨eq_of_beq (all_range (all_range dig2 (i := x) (by omega)) (by omega)), ?_⟩
      show 10 * (10 * 0 + (49 + x - 48)) + (48 + y - 48) < 1000
      omega
    | [a, b, c], _, _, h4, dg =>
      have ha := dg a (by simp)
      have hb := dg b (by simp)
      have hc := dg c (by simp)
      have hz : a ≠ 48 := fun z => by
        have := h4 z
        cases this
      obtain ⟨x, rfl⟩ : ∃ x, a = 49 + x := ⟨a - 49, by omega⟩
      obtain ⟨y, rfl⟩ : ∃ y, b = 48 + y := ⟨b - 48, by omega⟩
      obtain ⟨z, rfl⟩ : ∃ z, c = 48 + z := ⟨c - 48, by omega⟩
      refine ⟨eq_of_beq (all_range (all_range (all_range dig3 (i := x) (by omega)) (i := y) (by omega)) (by omega)), ?_⟩
      show 10 * (10 * (10 * 0 + (49 + x - 48)) + (48 + y - 48)) + (48 + z - 48) < 1000
      omega
    | [], h1, _, _, _ => exact absurd rfl h1
    | _ :: _ :: _ :: _ :: _, _, h2, _, _ => simp at h2
  · cases h
theorem digs_free (i : Int) : ∀ c ∈ digs i, stops c = false := by
  intro c hc
  have n1 : c ≠ 32 := fun z => by subst z; exact int_text_free' 32 ⟨by decide, by decide⟩ i hc
  have n2 : c ≠ 40 := fun z => by subst z; exact int_text_free' 40 ⟨by decide, by decide⟩ i hc
  have n3 : c ≠ 41 := fun z => by subst z; exact int_text_free' 41 ⟨by decide, by decide⟩ i hc
  unfold stops
  simp [n1, n2, n3]
theorem str_of_toList {x y : Str} (h : x.cps.toList = y.cps.toList) : x = y := by
  obtain ⟨a⟩ := x
  obtain ⟨b⟩ := y
  have : a = b := Array.toList_inj.mp h
  rw [this]
theorem digs_inj {i j : Int} (hi : 0 ≤ i ∧ i < 10 ^ 10) (hj : 0 ≤ j ∧ j < 10 ^ 10) (h : digs i = digs j) : i = j := by
  have e := str_of_toList (x := Str.ofString (toString i)) (y := Str.ofString (toString j)) h
  have r1 := PySem.W.KIN.num_reads hi.1 hi.2
  have r2 := PySem.W.KIN.num_reads hj.1 hj.2
  rw [e, r2] at r1
  exact (Option.some.inj r1).symm
theorem digs_ne {i : Int} (hi : 0 ≤ i) : digs i ≠ [] := by
  intro z
  have h := PySem.W.KLn.one_le hi
  have : (Str.ofString (toString i)).length = (digs i).length := by
    unfold digs
    rw [Array.length_toList] <;> rfl
  rw [this, z] at h
  simp at h
/-! ### values as tokens, as words -/
def textT : T → List Nat
  | .n i => digs i
  | .p a b => 40 :: (textT a ++ 32 :: (textT b ++ [41]))
def toksT : T → List (List Nat)
  | .n i => [digs i]
  | .p a b => [40] :: (toksT a ++ (toksT b ++ [[41]]))
/-- every number from 0 to below m -/
def Below (m : Int) : T → Prop
  | .n i => 0 ≤ i ∧ i < m
  | .p a b => Below m a ∧ Below m b
/-- a line put together from tokens, behind a token -/
def joinW : Option (List Nat) → List (List Nat) → List Nat
  | _, [] => []
  | pr, t :: r => (if pr = none ∨ pr = some [40] ∨ t = [41] then [] else [32]) ++ (t ++ joinW (some t) r)
theorem parse_toks (ts : List (List Nat)) : ∀ (d p : Nat) (v : T) (q : Nat), parse ts d p = .inl (v, q) → ts.drop p = toksT v ++ ts.drop q ∧ Below 1000 v ∧ v.dep ≤ d := by
  have leaf : ∀ (p : Nat) (v : Nat) (x : T) (q : Nat), numT (ts.getD p []) = some v → (T.n (v : Nat), p + 1) = (x, q) → ts.drop p = toksT x ++ ts.drop q ∧ Below 1000 x ∧ x.dep = 0 := by
    rintro p v x q h e
    cases e
    have hl : p < ts.length := by
      by_cases z : p < ts.length
      · exact z
      · rw [getD_ge (by omega), num_nil] at h; cases h
    obtain ⟨h1, h2⟩ := numT_some h
    refine ⟨?_, ⟨by omega, by omega⟩, rfl⟩
    rw [List.drop_eq_getElem_cons hl]
    show _ = [digs (v : Nat)] ++ _
    rw [h1, List.getD_eq_getElem?_getD, List.getElem?_eq_getElem hl] <;> rfl
  intro d
  induction d with
  | zero =>
    intro p v q h
    unfold parse at h
    cases e : numT (ts.getD p []) with
    | none => rw [e] at h; cases h
    | some x =>
      rw [e] at h
      obtain ⟨h1, h2, h3⟩ := leaf p x v q e (Sum.inl.inj h)
      exact ⟨h1, h2, by omega⟩
  | succ d ih =>
    intro p v q h
    unfold parse at h
    by_cases ho : ts.getD p [] = [40]
    · rw [if_pos ho] at h
      cases p1 : parse ts d (p + 1) with
      | inr k => rw [p1] at h; cases h
      | inl aq =>
        obtain ⟨a, q1⟩ := aq
        rw [p1] at h
        dsimp only at h
        cases p2 : parse ts d q1 with
        | inr k => rw [p2] at h; cases h
        | inl br =>
          obtain ⟨b, r⟩ := br
          rw [p2] at h
          dsimp only at h
          by_cases hc : ts.getD r [] = [41]
          · rw [if_pos hc] at h
            injection h with h
            cases h
            obtain ⟨a1, a2, a3⟩ := ih _ _ _ p1
            obtain ⟨b1, b2, b3⟩ := ih _ _ _ p2
            have at_ : ∀ (i : Nat) (t : List Nat), t ≠ [] → ts.getD i [] = t → ts.drop i = t :: ts.drop (i + 1) := fun i t hn e => by
              have hl : i < ts.length := by
                by_cases z : i < ts.length
                · exact z
                · rw [getD_ge (by omega)] at e; exact absurd e.symm hn
              rw [List.drop_eq_getElem_cons hl, ← e, List.getD_eq_getElem?_getD, List.getElem?_eq_getElem hl] <;> rfl
            refine ⟨?_, ⟨a2, b2⟩, ?_⟩
            · rw [at_ p _ (by simp) ho, a1, b1, at_ r _ (by simp) hc]
              show _ = [40] :: (toksT a ++ (toksT b ++ [[41]])) ++ _
              simp
            · show 1 + max a.dep b.dep ≤ d + 1
              omega
          · rw [if_neg hc] at h; cases h
    · rw [if_neg ho] at h
      cases e : numT (ts.getD p []) with
      | none => rw [e] at h; cases h
      | some x =>
        rw [e] at h
        obtain ⟨h1, h2, h3⟩ := leaf p x v q e (Sum.inl.inj h)
        exact ⟨h1, h2, by omega⟩
theorem join_toks : ∀ (v : T) (pr : Option (List Nat)) (rest : List (List Nat)), ∃ la, la ≠ [40] ∧ joinW pr (toksT v ++ rest) = (if pr = none ∨ pr = some [40] then [] else [32]) ++ (textT v ++ joinW (some la) rest) := by
  intro v
  induction v with
  | n i =>
    intro pr rest
    have n1 : digs i ≠ [41] := fun z => by
      have := digs_free i 41 (by rw [z]; simp)
      cases this
    have n2 : digs i ≠ [40] := fun z => by
      have := digs_free i 40 (by rw [z]; simp)
      cases this
    refine ⟨digs i, n2, ?_⟩
    show (if pr = none ∨ pr = some [40] ∨ digs i = [41] then [] else [32]) ++ _ = _
    have : (pr = none ∨ pr = some [40] ∨ digs i = [41]) ↔ (pr = none ∨ pr = some [40]) := by
      constructor
      · rintro (h | h | h)
        · exact .inl h
        · exact .inr h
        · exact absurd h n1
      · rintro (h | h)
        · exact .inl h
        · exact .inr (.inl h)
    simp only [this]
    rfl
  | p a b iha ihb =>
    intro pr rest
    obtain ⟨la, ha, ea⟩ := iha (some [40]) (toksT b ++ ([41] :: rest))
    obtain ⟨lb, hb, eb⟩ := ihb (some la) ([41] :: rest)
    rw [if_pos (.inr rfl), List.nil_append] at ea
    have nla : ¬ (some la = none ∨ some la = some [40]) := by
      rintro (z | z)
      · cases z
      · exact ha (Option.some.inj z)
    rw [if_neg nla] at eb
    refine ⟨[41], by decide, ?_⟩
    have e0 : toksT (.p a b) ++ rest = [40] :: (toksT a ++ (toksT b ++ ([41] :: rest))) := by
      show [40] :: (toksT a ++ (toksT b ++ [[41]])) ++ rest = _
      simp
    rw [e0]
    show (if pr = none ∨ pr = some [40] ∨ [40] = [41] then [] else [32]) ++ ([40] ++ joinW (some [40]) (toksT a ++ (toksT b ++ ([41] :: rest)))) = _
    rw [ea, eb]
    have e1 : joinW (some lb) ([41] :: rest) = [41] ++ joinW (some [41]) rest := by
      show (if some lb = none ∨ some lb = some [40] ∨ [41] = [41] then [] else [32]) ++ _ = _
      rw [if_pos (.inr (.inr rfl)), List.nil_append]
    rw [e1]
    have : (pr = none ∨ pr = some [40] ∨ ([40] : List Nat) = [41]) ↔ (pr = none ∨ pr = some [40]) := by
      constructor
      · rintro (h | h | h)
        · exact .inl h
        · exact .inr h
        · cases h
      · rintro (h | h)
        · exact .inl h
        · exact .inr (.inl h)
    simp only [this]
    show _ = _ ++ ((40 :: (textT a ++ 32 :: (textT b ++ [41]))) ++ _)
    simp
/-! ### a line without fault is its tokens put together -/
theorem drop_sg {l : List Nat} {i : Nat} (h : i < l.length) : l.drop i = sg l i :: l.drop (i + 1) := by
  rw [List.drop_eq_getElem_cons h]
  unfold sg
  rw [List.getD_eq_getElem?_getD, List.getElem?_eq_getElem h] <;> rfl
/-! ### texts as data -/
def st (l : List Nat) : Str := ⟨l.toArray⟩
def W (l : List Nat) : D := .str (st l)
/-- the longest line there is here -/
abbrev BL : Nat := 2000000
theorem st_len (l : List Nat) : (st l).length = l.length := List.size_toArray
theorem st_list (l : List Nat) : (st l).cps.toList = l := rfl
theorem BL_size : BL + 10 ≤ sizeLine := by rw [sizeLine_eq]; decide
theorem st_sz {l : List Nat} (h : l.length ≤ BL) : (st l).length ≤ sizeLine := by
  rw [st_len]
  have := BL_size
  omega
theorem W_sz {l : List Nat} (h : l.length ≤ BL) : (st l).length ≤ sizeLine := st_sz h
theorem st_inj {u w : List Nat} (h : st u = st w) : u = w := by
  have := congrArg (fun s => s.cps.toList) h
  exact this
theorem lit {s : String} {w : List Nat} (h : (Str.ofString s).cps.toList = w) : Str.ofString s = st w := str_of_toList h
theorem l_sp : Str.ofString " " = st [32] := lit (by decide +kernel)
theorem l_op : Str.ofString "(" = st [40] := lit (by decide +kernel)
theorem l_cl : Str.ofString ")" = st [41] := lit (by decide +kernel)
theorem l_no : Str.ofString "" = st [] := lit (by decide +kernel)
theorem l_0 : Str.ofString "0" = st [48] := lit (by decide +kernel)
theorem c_sp : (Str.ofString " ()").cps.toList = [32, 40, 41] := by decide +kernel
theorem c_op : (Str.ofString "()").cps.toList = [40, 41] := by decide +kernel
theorem c_cl : (Str.ofString " )").cps.toList = [32, 41] := by decide +kernel
/-- == of words, told by their signs -/
theorem eqT {u w : List Nat} {s : Str} (hs : s = st w) (h : decide (st u = s) = true) : u = w := st_inj ((of_decide_eq_true h).trans hs)
theorem eqF {u w : List Nat} {s : Str} (hs : s = st w) (h : decide (st u = s) = false) : u ≠ w := fun e => of_decide_eq_false h (by rw [hs, e])
theorem ix_sg {l : List Nat} {i : Nat} (h : i < l.length) : atI l (i : Int) = some (sg l i) := atI_nat (by
  unfold sg
  rw [List.getD_eq_getElem?_getD, List.getElem?_eq_getElem h] <;> rfl)
def numI (t : List Nat) : Int := match numT t with
  | some v => (v : Nat)
  | none => -1
def digsOk (t : List Nat) : Bool := decide (t ≠ []) && t.all isDig
def lowOk (t : List Nat) : Bool := t.all fun c => decide (97 ≤ c) && decide (c ≤ 122)
def nameOk (t : List Nat) : Bool := decide (1 ≤ t.length) && decide (t.length ≤ 6) && lowOk t
/-! ### lines -/
def joinS (c : Nat) : List (List Nat) → List Nat
  | [] => []
  | [x] => x
  | x :: y :: r => x ++ c :: joinS c (y :: r)
/-- each with a sign ahead -/
def sp (c : Nat) : List (List Nat) → List Nat
  | [] => []
  | t :: r => c :: (t ++ sp c r)
theorem joinS_sp (c : Nat) : ∀ (t : List Nat) (r : List (List Nat)), joinS c (t :: r) = t ++ sp c r
  | t, [] => by show t = t ++ []; rw [List.append_nil]
  | t, u :: r => by
    show t ++ c :: joinS c (u :: r) = t ++ (c :: (u ++ sp c r))
    rw [joinS_sp c u r]
theorem sp_app (c : Nat) : ∀ (a b : List (List Nat)), sp c (a ++ b) = sp c a ++ sp c b
  | [], b => rfl
  | t :: a, b => by
    show c :: (t ++ sp c (a ++ b)) = c :: (t ++ sp c a) ++ sp c b
    rw [sp_app c a b]
    simp
theorem str_ext {x y : Str} (h : x.cps.toList = y.cps.toList) : x = y := str_of_toList h
theorem st_app (a b : List Nat) : st a ++ st b = st (a ++ b) := str_ext (by
  show ((st a).cps ++ (st b).cps).toList = _
  rw [Array.toList_append] <;> rfl)
theorem join_st (c : Nat) : ∀ ts : List (List Nat), Txt.join (st [c]) (ts.map st) = st (joinS c ts) := by
  intro ts
  unfold Txt.join
  rw [StrLaws.glued_eq_join]
  induction ts with
  | nil => rfl
  | cons t r ih =>
    cases r with
    | nil => rfl
    | cons u r =>
      show st t ++ st [c] ++ Str.join (st [c]) ((u :: r).map st) = st (t ++ c :: joinS c (u :: r))
      rw [ih, st_app, st_app]
      simp
theorem join_nil : ∀ ts : List (List Nat), Txt.join (st []) (ts.map st) = st ts.flatten := by
  intro ts
  unfold Txt.join
  rw [StrLaws.glued_eq_join]
  induction ts with
  | nil => rfl
  | cons t r ih =>
    cases r with
    | nil =>
      show st t = st ([t].flatten)
      simp
    | cons u r =>
      show st t ++ st [] ++ Str.join (st []) ((u :: r).map st) = st ((t :: u :: r).flatten)
      rw [ih, st_app, st_app]
      simp
theorem joinS_inj {c : Nat} : ∀ {a b : List (List Nat)}, a ≠ [] → b ≠ [] → (∀ t ∈ a, c ∉ t) → (∀ t ∈ b, c ∉ t) → joinS c a = joinS c b → a = b := by
  have cut : ∀ {t u : List Nat} {x y : List Nat}, c ∉ t → c ∉ u → t ++ c :: x = u ++ c :: y → t = u ∧ x = y := by
    intro t
    induction t with
    | nil =>
      intro u x y _ hu h
      cases u with
      | nil => exact ⟨rfl, (List.cons.inj h).2⟩
      | cons d u => exact absurd ((List.cons.inj h).1 ▸ List.mem_cons_self) hu
    | cons d t ih =>
      intro u x y ht hu h
      cases u with
      | nil => exact absurd ((List.cons.inj h).1 ▸ List.mem_cons_self) ht
      | cons e u =>
        obtain ⟨h1, h2⟩ := List.cons.inj h
        obtain ⟨k1, k2⟩ := ih (fun z => ht (List.mem_cons_of_mem _ z)) (fun z => hu (List.mem_cons_of_mem _ z)) h2
        exact ⟨by rw [h1, k1], k2⟩
  intro a
  induction a with
  | nil => intro b h; exact absurd rfl h
  | cons t a ih =>
    intro b _ hb ha hbb h
    cases b with
    | nil => exact absurd rfl hb
    | cons u b =>
      cases a with
      | nil =>
        cases b with
        | nil => rw [show t = u from h]
        | cons v b =>
          have h' : t = u ++ c :: joinS c (v :: b) := h
          exact absurd (by rw [h']; simp) (ha t List.mem_cons_self)
      | cons w a =>
        cases b with
        | nil =>
          have h' : t ++ c :: joinS c (w :: a) = u := h
          exact absurd (by rw [← h']; simp) (hbb u List.mem_cons_self)
        | cons v b =>
          obtain ⟨h1, h2⟩ := cut (ha t List.mem_cons_self) (hbb u List.mem_cons_self) (show t ++ c :: joinS c (w :: a) = u ++ c :: joinS c (v :: b) from h)
          rw [h1, ih (by simp) (by simp) (fun x hx => ha x (List.mem_cons_of_mem _ hx)) (fun x hx => hbb x (List.mem_cons_of_mem _ hx)) h2]
theorem split_st {c : Nat} {ls : List (List Nat)} (h0 : ls ≠ []) (h : ∀ t ∈ ls, c ∉ t) : Txt.split (st (joinS c ls)) (st [c]) = ls.map st := by
  have e1 := StrLaws.join_split (st (joinS c ls)) (st [c])
  have e2 := StrLaws.split_free (st (joinS c ls)) c
  have e3 := PyProof.Rows.split_pos (st (joinS c ls)) (st [c])
  generalize hp : Txt.split (st (joinS c ls)) (st [c]) = ps at e1 e3
  have e2 : ∀ p ∈ ps, c ∉ p.cps.toList := by rw [← hp]; exact e2
  have hm : ps = (ps.map fun p => p.cps.toList).map st := by
    rw [List.map_map]
    conv => lhs; rw [← List.map_id ps]
    exact List.map_congr_left fun p _ => str_ext rfl
  have e4 : Str.join (st [c]) ps = st (joinS c (ps.map fun p => p.cps.toList)) := by
    rw [← join_st]
    unfold Txt.join
    rw [StrLaws.glued_eq_join, ← hm]
  rw [e4] at e1
  have e5 := st_inj e1
  rw [hm, joinS_inj (by intro z; rw [List.map_eq_nil_iff] at z; rw [z] at e3; exact absurd e3 (by decide)) h0 (fun t ht => by
    obtain ⟨p, hp', rfl⟩ := List.mem_map.mp ht
    exact e2 p hp') h e5]
/-! ### the scan of a line of plain tokens -/
def Plain (t : List Nat) : Prop := t ≠ [] ∧ ∀ c ∈ t, stops c = false
theorem Plain.head {t : List Nat} (h : Plain t) : ∃ c r, t = c :: r ∧ stops c = false := by
  cases t with
  | nil => exact absurd rfl h.1
  | cons c r => exact ⟨c, r, rfl, h.2 c List.mem_cons_self⟩
theorem stops_no {c : Nat} (h : stops c = false) : c ≠ 32 ∧ c ≠ 40 ∧ c ≠ 41 := by
  unfold stops at h
  refine ⟨?_, ?_, ?_⟩ <;> intro z <;> subst z <;> cases h
/-- what may follow a token -/
def Cut (r : List Nat) : Prop := r = [] ∨ ∃ x, r = 32 :: x
theorem take_run {t r : List Nat} (h : ∀ c ∈ t, stops c = false) (hr : Cut r) : (t ++ r).takeWhile (fun c => !stops c) = t := by
  induction t with
  | nil =>
    rcases hr with rfl | ⟨x, rfl⟩
    · rfl
    · rfl
  | cons c t ih =>
    rw [List.cons_append, List.takeWhile_cons, h c List.mem_cons_self]
    show c :: List.takeWhile _ (t ++ r) = _
    rw [ih fun d hd => h d (List.mem_cons_of_mem _ hd)]
theorem drop_at {l : List Nat} {i : Nat} {a b : List Nat} (h : l.drop i = a ++ b) : l.drop (i + a.length) = b := by
  rw [← List.drop_drop, h, List.drop_left]
theorem sg_of {l : List Nat} {i c : Nat} {r : List Nat} (h : l.drop i = c :: r) : sg l i = c ∧ i < l.length := by
  have hl : i < l.length := by
    have := congrArg List.length h
    rw [List.length_drop, List.length_cons] at this
    omega
  rw [drop_sg hl] at h
  exact ⟨(List.cons.inj h).1, hl⟩
theorem end_tok {l : List Nat} {b : Nat} {t r : List Nat} (h : l.drop b = t ++ r) (ht : Plain t) (hr : Cut r) : endN l b = b + t.length ∧ tokN l b = t ∧ b < l.length := by
  obtain ⟨c, x, rfl, hc⟩ := ht.head
  obtain ⟨h1, h2⟩ := sg_of (show l.drop b = c :: (x ++ r) from h)
  have hd : l.drop (b + 1) = x ++ r := by
    have := drop_at (a := [c]) (show l.drop b = [c] ++ (x ++ r) from h)
    exact this
  have e : endN l b = b + (c :: x).length := by
    unfold endN
    rw [h1, if_neg (by have := stops_no hc; omega)]
    unfold runN
    rw [hd, take_run (fun d hd => ht.2 d (List.mem_cons_of_mem _ hd)) hr, List.length_cons]
    omega
  refine ⟨e, ?_, h2⟩
  unfold tokN
  rw [e, h, show b + (c :: x).length - b = (c :: x).length by omega, List.take_left]
theorem opens_plain {fs : List (List Nat)} (h0 : fs ≠ []) (h : ∀ t ∈ fs, Plain t) : opens fs = false := by
  unfold opens
  cases e : fs.getLast? with
  | none => exact absurd (List.getLast?_eq_none_iff.mp e) h0
  | some t =>
    have hm : t ∈ fs := List.mem_of_getLast? e
    apply beq_false_of_ne
    intro z
    subst z
    have := (h _ hm).2 40 (by simp)
    cases this
theorem scan_one {l : List Nat} {k i : Nat} {fs : List (List Nat)} {t r : List Nat} (h0 : fs ≠ []) (hf : ∀ t ∈ fs, Plain t) (h : l.drop i = 32 :: (t ++ r)) (ht : Plain t) (hr : Cut r) :
    scanN l (k + 1) i fs = scanN l k (i + 1 + t.length) (fs ++ [t]) := by
  obtain ⟨h1, h2⟩ := sg_of h
  have hd : l.drop (i + 1) = t ++ r := drop_at (a := [32]) (show l.drop i = [32] ++ (t ++ r) from h)
  obtain ⟨e1, e2, e3⟩ := end_tok hd ht hr
  obtain ⟨c, x, ec, hc⟩ := ht.head
  have h3 := (sg_of (show l.drop (i + 1) = c :: (x ++ r) by rw [hd, ec]; rfl)).1
  have hb : begN l i (opens fs) = some (i + 1) := by
    rw [opens_plain h0 hf]
    unfold begN
    have := stops_no hc
    rw [if_neg (by decide), if_neg (by omega), if_pos ⟨h1, e3, by omega, by omega⟩]
  rw [scanN, if_pos h2, hb]
  show scanN l k (endN l (i + 1)) (fs ++ [tokN l (i + 1)]) = _
  rw [e1, e2]
theorem scan_first {l : List Nat} {k : Nat} {t r : List Nat} (h : l = t ++ r) (ht : Plain t) (hr : Cut r) : scanN l (k + 1) 0 [] = scanN l k t.length [t] := by
  obtain ⟨e1, e2, e3⟩ := end_tok (b := 0) (show l.drop 0 = t ++ r from h) ht hr
  obtain ⟨c, x, ec, hc⟩ := ht.head
  have h3 := (sg_of (show l.drop 0 = c :: (x ++ r) by rw [List.drop_zero, h, ec]; rfl)).1
  have hb : begN l 0 (opens []) = some 0 := by
    unfold begN
    have := stops_no hc
    rw [if_pos (show opens [] = true from rfl), if_neg (by omega)]
  rw [scanN, if_pos e3, hb]
  show scanN l k (endN l 0) ([] ++ [tokN l 0]) = _
  rw [e1, e2, Nat.zero_add] <;> rfl
theorem cut_sp (ts : List (List Nat)) {r : List Nat} (hr : Cut r) : Cut (sp 32 ts ++ r) := by
  cases ts with
  | nil => exact hr
  | cons t ts => exact .inr ⟨_, rfl⟩
theorem scan_more {l r : List Nat} (hr : Cut r) : ∀ (ts : List (List Nat)) (k i : Nat) (fs : List (List Nat)), fs ≠ [] → (∀ t ∈ fs, Plain t) → (∀ t ∈ ts, Plain t) → l.drop i = sp 32 ts ++ r →
    scanN l (k + ts.length) i fs = scanN l k (i + (sp 32 ts).length) (fs ++ ts)
  | [], k, i, fs, _, _, _, _ => by rw [List.append_nil] <;> rfl
  | t :: ts, k, i, fs, h0, hf, ht, h => by
    have h' : l.drop i = 32 :: (t ++ (sp 32 ts ++ r)) := by
      rw [h]
      show 32 :: (t ++ sp 32 ts) ++ r = _
      simp
    have hp := ht t List.mem_cons_self
    rw [List.length_cons, ← Nat.add_assoc, scan_one h0 hf h' hp (cut_sp ts hr)]
    have hd : l.drop (i + 1 + t.length) = sp 32 ts ++ r := by
      have e1 : l.drop (i + 1) = t ++ (sp 32 ts ++ r) := drop_at (a := [32]) (show l.drop i = [32] ++ _ from h')
      exact drop_at e1
    rw [scan_more hr ts k _ _ (by simp) (fun x hx => by
      rcases List.mem_append.mp hx with hx | hx
      · exact hf x hx
      · rw [List.mem_singleton.mp hx]; exact hp) (fun x hx => ht x (List.mem_cons_of_mem _ hx)) hd]
    have e2 : (sp 32 (t :: ts)).length = 1 + t.length + (sp 32 ts).length := by
      show (32 :: (t ++ sp 32 ts)).length = _
      rw [List.length_cons, List.length_append]
      omega
    rw [e2, List.append_assoc]
    congr 1
    omega
theorem sp_len : ∀ ts : List (List Nat), ts.length ≤ (sp 32 ts).length
  | [] => Nat.le_refl _
  | t :: ts => by
    show _ ≤ (32 :: (t ++ sp 32 ts)).length
    have := sp_len ts
    rw [List.length_cons, List.length_cons, List.length_append]
    omega
/-- the scan of plain tokens and what follows -/
theorem scan_to {t : List Nat} {ts : List (List Nat)} {r : List Nat} (ht : Plain t) (hts : ∀ t ∈ ts, Plain t) (hr : Cut r) :
    ∃ k, scan (t ++ (sp 32 ts ++ r)) = scanN (t ++ (sp 32 ts ++ r)) (k + 1) (t ++ sp 32 ts).length (t :: ts) ∧ (t ++ (sp 32 ts ++ r)).drop (t ++ sp 32 ts).length = r := by
  have hl : ts.length ≤ (sp 32 ts).length := sp_len ts
  have h1 : 1 ≤ t.length := by
    cases t with
    | nil => exact absurd rfl ht.1
    | cons c t => rw [List.length_cons]; omega
  refine ⟨(t ++ (sp 32 ts ++ r)).length - 1 - ts.length, ?_, ?_⟩
  · have el : (t ++ (sp 32 ts ++ r)).length = t.length + ((sp 32 ts).length + r.length) := by rw [List.length_append, List.length_append]
    unfold scan
    rw [show (t ++ (sp 32 ts ++ r)).length + 1 = ((t ++ (sp 32 ts ++ r)).length - 1 - ts.length + 1) + ts.length + 1 by omega, scan_first rfl ht (cut_sp ts hr),
      scan_more hr ts _ _ _ (by simp) (fun x hx => by rw [List.mem_singleton.mp hx]; exact ht) hts List.drop_left]
    have e2 : (t ++ sp 32 ts).length = t.length + (sp 32 ts).length := List.length_append
    rw [e2] <;> rfl
  · rw [List.length_append, ← List.drop_drop, List.drop_left, List.drop_left]
theorem scan_plain {t : List Nat} {ts : List (List Nat)} (ht : Plain t) (hts : ∀ t ∈ ts, Plain t) : scan (joinS 32 (t :: ts)) = (t :: ts, 0) := by
  obtain ⟨k, e, hd⟩ := scan_to (r := []) ht hts (.inl rfl)
  rw [List.append_nil] at e hd
  rw [joinS_sp, e, scanN, if_neg (Nat.lt_irrefl _)]
theorem scan_tail {t : List Nat} {ts : List (List Nat)} (ht : Plain t) (hts : ∀ t ∈ ts, Plain t) {r : List Nat} (hr : r = [] ∨ ∃ x, r = 32 :: x) : scan (joinS 32 (t :: ts) ++ 32 :: r) = (t :: ts, ts.length + 2) := by
  obtain ⟨k, e, hd⟩ := scan_to (r := 32 :: r) ht hts (.inr ⟨_, rfl⟩)
  rw [joinS_sp, List.append_assoc, e]
  obtain ⟨g1, g2⟩ := sg_of hd
  have hb : begN (t ++ (sp 32 ts ++ 32 :: r)) (t ++ sp 32 ts).length (opens (t :: ts)) = none := by
    rw [opens_plain (by simp) (fun x hx => by
      rcases List.mem_cons.mp hx with rfl | hx
      · exact ht
      · exact hts x hx)]
    unfold begN
    rw [if_neg (by decide), g1, if_neg (by decide), if_neg]
    rintro ⟨_, z2, z3, _⟩
    have hd2 : (t ++ (sp 32 ts ++ 32 :: r)).drop ((t ++ sp 32 ts).length + 1) = r := drop_at (a := [32]) (show _ = [32] ++ r from hd)
    rcases hr with rfl | ⟨x, rfl⟩
    · have := congrArg List.length hd2
      rw [List.length_drop, List.length_nil] at this
      omega
    · exact z3 (sg_of hd2).1
  rw [scanN, if_pos g2, hb]
  rfl
theorem scan_nil : scan [] = ([], 0) := rfl
theorem scan_sp (r : List Nat) : (scan (32 :: r)).2 = 1 := by
  unfold scan
  rw [scanN, if_pos (by simp), show begN (32 :: r) 0 (opens []) = none from rfl] <;> rfl
/-- a line with a second space ahead of token k -/
theorem scan_two {ts : List (List Nat)} (hts : ∀ t ∈ ts, Plain t) {k : Nat} {t : List Nat} (hk : ts[k]? = some t) : (scan (joinS 32 (ts.set k (32 :: t)))).2 = k + 1 := by
  have hl : k < ts.length := (List.getElem?_eq_some_iff.mp hk).1
  cases ts with
  | nil => cases hk
  | cons u r =>
    cases k with
    | zero =>
      have e : t = u := by
        have : u = t := by simpa using hk
        exact this.symm
      subst e
      rw [List.set_cons_zero, joinS_sp]
      exact scan_sp _
    | succ k =>
      rw [List.set_cons_succ, joinS_sp]
      have hk' : r[k]? = some t := by simpa using hk
      have hkl : k < r.length := (List.getElem?_eq_some_iff.mp hk').1
      have es : r.set k (32 :: t) = r.take k ++ ((32 :: t) :: r.drop (k + 1)) := by
        rw [List.set_eq_take_append_cons_drop, if_pos hkl]
      rw [es, sp_app]
      have h1 := scan_tail (t := u) (ts := r.take k) (r := 32 :: (t ++ sp 32 (r.drop (k + 1)))) (hts u List.mem_cons_self) (fun x hx => hts x (List.mem_cons_of_mem _ (List.mem_of_mem_take hx))) (.inr ⟨_, rfl⟩)
      rw [joinS_sp, List.append_assoc] at h1
      have e3 : u ++ (sp 32 (r.take k) ++ sp 32 ((32 :: t) :: r.drop (k + 1))) = u ++ (sp 32 (r.take k) ++ 32 :: 32 :: (t ++ sp 32 (r.drop (k + 1)))) := rfl
      rw [e3, h1]
      show (r.take k).length + 2 = k + 1 + 1
      rw [List.length_take]
      omega
/-! ### layers -/
def sgs (s : String) : List Nat := (Str.ofString s).cps.toList
theorem st_sgs (s : String) : st (sgs s) = Str.ofString s := rfl
inductive Ly where
  | cell (nm : List Nat) (n : Nat) | setting (nm : List Nat) (n : Nat) | note (nm : List Nat) (t : List (List Nat)) | fail (nm : List Nat) (n : Nat) | outside (nm : List Nat) (ws : List Nat)
def Ly.wd : Ly → List Nat
  | .cell .. => sgs "cell" | .setting .. => sgs "setting" | .note .. => sgs "note" | .fail .. => sgs "fail" | .outside .. => sgs "outside"
def Ly.nm : Ly → List Nat
  | .cell m _ => m | .setting m _ => m | .note m _ => m | .fail m _ => m | .outside m _ => m
def Ly.tag : Ly → Nat
  | .cell .. => 0 | .setting .. => 1 | .note .. => 2 | .fail .. => 3 | .outside .. => 4
def ni (n : Nat) : D := .int (n : Nat)
def rowD (r : List Nat) : D := .tup (r.map ni)
def tabD (t : List (List Nat)) : D := .tup (t.map rowD)
def Ly.exD : Ly → D
  | .cell _ n => ni n | .setting _ n => ni n | .note _ t => tabD t | .fail _ n => ni n | .outside _ ws => rowD ws
def Ly.d (l : Ly) : D := .tup [W l.wd, W l.nm, l.exD]
def dg (n : Nat) : List Nat := [48 + n]
def rowT (r : List Nat) : List Nat := r.map (48 + ·)
def Ly.ex : Ly → List (List Nat)
  | .cell _ n => [dg n] | .setting _ n => [dg n] | .note _ t => t.map rowT | .fail _ n => [dg n] | .outside _ ws => ws.map dg
def Ly.words (l : Ly) : List (List Nat) := l.wd :: l.nm :: l.ex
/-- a drawn name: a sign, then another one up to five times -/
def NmOk (m : List Nat) : Prop := ∃ a b k : Nat, m = a :: List.replicate k b ∧ k ≤ 5 ∧ 97 ≤ a ∧ a ≤ 122 ∧ 97 ≤ b ∧ b ≤ 122
def TabS (t : List (List Nat)) : Prop := 2 ≤ t.length ∧ t.length ≤ 4 ∧ ∀ r ∈ t, r.length = t.length ∧ ∀ x ∈ r, x < 10
def Ly.Ok : Ly → Prop
  | .cell m n => NmOk m ∧ n < 10 | .setting m n => NmOk m ∧ n < 10 | .note m t => NmOk m ∧ TabS t | .fail m n => NmOk m ∧ n < 10 | .outside m ws => NmOk m ∧ 1 ≤ ws.length ∧ ws.length ≤ 3 ∧ ∀ x ∈ ws, x < 10
theorem Ly.Ok.nm {l : Ly} (h : l.Ok) : NmOk l.nm := by cases l <;> exact h.1
theorem NmOk.low {m : List Nat} (h : NmOk m) : ∀ c ∈ m, 97 ≤ c ∧ c ≤ 122 := by
  obtain ⟨a, b, k, rfl, _, h1, h2, h3, h4⟩ := h
  intro c hc
  rcases List.mem_cons.mp hc with rfl | hc
  · exact ⟨h1, h2⟩
  · rw [List.eq_of_mem_replicate hc]
    exact ⟨h3, h4⟩
theorem NmOk.len {m : List Nat} (h : NmOk m) : 1 ≤ m.length ∧ m.length ≤ 6 := by
  obtain ⟨a, b, k, rfl, hk, _⟩ := h
  rw [List.length_cons, List.length_replicate]
  omega
theorem NmOk.name {m : List Nat} (h : NmOk m) : nameOk m = true := by
  unfold nameOk lowOk
  have := h.len
  rw [decide_eq_true this.1, decide_eq_true this.2, Bool.true_and, Bool.true_and, List.all_eq_true]
  intro c hc
  have := h.low c hc
  rw [decide_eq_true this.1, decide_eq_true this.2] <;> rfl
theorem NmOk.zyx {m : List Nat} (h : NmOk m) : m ≠ sgs "zyx" := by
  obtain ⟨a, b, k, rfl, _⟩ := h
  rw [show sgs "zyx" = [122, 121, 120] by decide +kernel]
  intro e
  obtain ⟨_, e⟩ := List.cons.inj e
  have hl := congrArg List.length e
  rw [List.length_replicate] at hl
  have : k = 2 := hl
  subst this
  have h1 : b = 121 := (List.cons.inj e).1
  have h2 : b = 120 := (List.cons.inj (List.cons.inj e).2).1
  omega
/-- a token: no sign stops it, no newline, short -/
def Tok9 (t : List Nat) : Prop := t ≠ [] ∧ (∀ c ∈ t, stops c = false ∧ c ≠ 10) ∧ t.length ≤ 9
theorem Tok9.plain {t : List Nat} (h : Tok9 t) : Plain t := ⟨h.1, fun c hc => (h.2.1 c hc).1⟩
theorem free_of {c : Nat} (h : 41 < c) : stops c = false ∧ c ≠ 10 := by
  unfold stops
  refine ⟨?_, by omega⟩
  simp only [Bool.or_eq_false_iff, beq_eq_false_iff_ne, ne_eq]
  omega
theorem Ly.wd_tok (l : Ly) : Tok9 l.wd := by
  have key : ∀ t : List Nat, (decide (t ≠ []) && (t.all fun c => !stops c && decide (c ≠ 10)) && decide (t.length ≤ 9)) = true → Tok9 t := by
    intro t h
    simp only [Bool.and_eq_true, decide_eq_true_iff, List.all_eq_true, Bool.not_eq_true'] at h
    exact ⟨h.1.1, fun c hc => h.1.2 c hc, h.2⟩
  cases l <;> exact key _ (by show (decide (sgs _ ≠ []) && ((sgs _).all fun c => !stops c && decide (c ≠ 10)) && decide ((sgs _).length ≤ 9)) = true; decide +kernel)
theorem NmOk.tok {m : List Nat} (h : NmOk m) : Tok9 m := by
  have h1 := h.len
  refine ⟨?_, fun c hc => free_of (by have := h.low c hc; omega), by omega⟩
  intro z
  rw [z] at h1
  exact absurd h1.1 (by decide)
theorem dg_tok (n : Nat) : Tok9 (dg n) := ⟨by unfold dg; simp, fun c hc => by
  have : c = 48 + n := by simpa [dg] using hc
  exact free_of (by omega), by show 1 ≤ 9; decide⟩
theorem rowT_tok {r : List Nat} (h1 : 1 ≤ r.length) (h2 : r.length ≤ 9) : Tok9 (rowT r) := by
  refine ⟨?_, fun c hc => ?_, ?_⟩
  · intro z
    have := congrArg List.length z
    rw [rowT, List.length_map, List.length_nil] at this
    omega
  · obtain ⟨x, _, rfl⟩ := List.mem_map.mp hc
    exact free_of (by omega)
  · rw [rowT, List.length_map]
    exact h2
theorem Ly.ex_tok {l : Ly} (h : l.Ok) : ∀ t ∈ l.ex, Tok9 t := by
  cases l with
  | cell m n => intro t ht; rw [List.mem_singleton.mp ht]; exact dg_tok n
  | setting m n => intro t ht; rw [List.mem_singleton.mp ht]; exact dg_tok n
  | fail m n => intro t ht; rw [List.mem_singleton.mp ht]; exact dg_tok n
  | note m t =>
    intro u hu
    obtain ⟨r, hr, rfl⟩ := List.mem_map.mp hu
    obtain ⟨_, h2, h3, h4⟩ := h
    have := (h4 r hr).1
    exact rowT_tok (by omega) (by omega)
  | outside m ws =>
    intro u hu
    obtain ⟨r, hr, rfl⟩ := List.mem_map.mp hu
    exact dg_tok r
theorem Ly.words_tok {l : Ly} (h : l.Ok) : ∀ t ∈ l.words, Tok9 t := by
  intro t ht
  rcases List.mem_cons.mp ht with rfl | ht
  · exact l.wd_tok
  rcases List.mem_cons.mp ht with rfl | ht
  · exact h.nm.tok
  · exact Ly.ex_tok h t ht
theorem Ly.ex_len {l : Ly} (h : l.Ok) : 1 ≤ l.ex.length ∧ l.ex.length ≤ 4 := by
  cases l with
  | note m t =>
    obtain ⟨_, h2, h3, _⟩ := h
    show 1 ≤ (t.map rowT).length ∧ (t.map rowT).length ≤ 4
    rw [List.length_map]
    omega
  | outside m ws =>
    obtain ⟨_, h2, h3, _⟩ := h
    show 1 ≤ (ws.map dg).length ∧ (ws.map dg).length ≤ 4
    rw [List.length_map]
    omega
  | _ => exact ⟨Nat.le_refl 1, (by decide : 1 ≤ 4)⟩
/-! words of layers -/
def WD : List String := ["cell", "setting", "note", "fail", "outside"]
theorem wd_eq (l : Ly) : l.wd = sgs (WD.getD l.tag "") := by cases l <;> rfl
theorem tag_lt (l : Ly) : l.tag < 5 := by cases l <;> (simp only [Ly.tag]; decide)
theorem wd_tab : ((List.range 5).all fun i => (List.range 5).all fun j => decide (st (sgs (WD.getD i "")) = Str.ofString (WD.getD j "")) == decide (i = j)) = true := by decide +kernel
theorem w_at (l : Ly) {j : Nat} (hj : j < 5) : decide (st l.wd = Str.ofString (WD.getD j "")) = decide (l.tag = j) := by
  rw [wd_eq]
  exact eq_of_beq (all_range (all_range wd_tab (tag_lt l)) hj)
theorem w_cell (l : Ly) : decide (st l.wd = Str.ofString "cell") = decide (l.tag = 0) := w_at l (j := 0) (by decide)
theorem w_setting (l : Ly) : decide (st l.wd = Str.ofString "setting") = decide (l.tag = 1) := w_at l (j := 1) (by decide)
theorem w_note (l : Ly) : decide (st l.wd = Str.ofString "note") = decide (l.tag = 2) := w_at l (j := 2) (by decide)
theorem w_fail (l : Ly) : decide (st l.wd = Str.ofString "fail") = decide (l.tag = 3) := w_at l (j := 3) (by decide)
theorem w_outside (l : Ly) : decide (st l.wd = Str.ofString "outside") = decide (l.tag = 4) := w_at l (j := 4) (by decide)
/-! ### when a layer is good -/
def tabAt (t : List (List Nat)) (a b : Nat) : Nat := (t.getD a []).getD b 0
def inB (t : List (List Nat)) : Bool := t.all fun r => r.all fun x => decide (x < t.length)
def unitB (t : List (List Nat)) (m : Nat) : Bool := decide (tabAt t 0 m = m) && decide (tabAt t m 0 = m)
def assB (t : List (List Nat)) (a b c : Nat) : Bool := decide (tabAt t (tabAt t a b) c = tabAt t a (tabAt t b c))
def allN (n : Nat) (p : Nat → Bool) : Bool := (List.range n).all p
def assA (t : List (List Nat)) : Bool := allN t.length fun a => allN t.length fun b => allN t.length fun c => assB t a b c
def monB (t : List (List Nat)) : Bool := inB t && (allN t.length (unitB t) && assA t)
def Ly.goodB : Ly → Bool
  | .cell _ n => decide (2 ≤ n) && decide (n ≤ 3) | .setting _ n => decide (2 ≤ n) && decide (n ≤ 3) | .note _ t => monB t | .fail _ n => decide (1 ≤ n) && decide (n ≤ 3)
  | .outside _ ws => decide (ws.length ≤ 2) && ws.all fun x => decide (1 ≤ x) && decide (x ≤ 3)
def Ly.vals : Ly → Nat
  | .cell _ n => n | .setting _ n => n | _ => 1
def prodF : List Ly → Nat
  | [] => 1
  | l :: r => l.vals * prodF r
def badB (L : List Ly) (i : Nat) : Bool := match L[i]? with
  | none => false
  | some l => !l.goodB || decide (l.nm ∈ (L.take i).map Ly.nm)
def firstBad (L : List Ly) : Option Nat := (List.range L.length).find? (badB L)
/-- k: whether the kernel is one -/
def dueF (k : Bool) (L : List Ly) : Int := if k = false ∨ 5 < L.length then 0 else match firstBad L with
  | some i => (i : Int) + 1
  | none => if 12 < prodF L then 0 else -1
theorem allN_true {n : Nat} {p : Nat → Bool} (h : ∀ i < n, p i = true) : allN n p = true := by
  unfold allN
  rw [List.all_eq_true]
  exact fun i hi => h i (List.mem_range.mp hi)
theorem allN_false {n : Nat} {p : Nat → Bool} {i : Nat} (hi : i < n) (h : p i = false) : allN n p = false := by
  rw [Bool.eq_false_iff]
  intro z
  unfold allN at z
  rw [List.all_eq_true] at z
  rw [z i (List.mem_range.mpr hi)] at h
  cases h
theorem find_first {n : Nat} {p : Nat → Bool} {i : Nat} (hi : i < n) (h : p i = true) (hb : ∀ j < i, p j = false) : (List.range n).find? p = some i := by
  rw [List.find?_eq_some_iff_getElem]
  refine ⟨h, i, by rw [List.length_range]; exact hi, by simp, fun j hj => ?_⟩
  rw [List.getElem_range, hb j hj] <;> rfl
theorem find_none {n : Nat} {p : Nat → Bool} (hb : ∀ j < n, p j = false) : (List.range n).find? p = none := by
  rw [List.find?_eq_none]
  intro j hj
  rw [hb j (List.mem_range.mp hj)]
  exact Bool.false_ne_true
/-! ### kernels -/
def KS : List String := ["none", "choose", "draw", "spread", "twochoose", "twodraw", "mixed"]
def KnOk (kn : List Nat) : Prop := ∃ k ∈ KS, kn = sgs k
def KnIn (b : Bool) (kn : List Nat) : Prop := if b = true then KnOk kn else kn = sgs "chance"
theorem KnOk.tok {kn : List Nat} (h : KnOk kn) : Tok9 kn := by
  have key : ∀ t : List Nat, (decide (t ≠ []) && (t.all fun c => !stops c && decide (c ≠ 10)) && decide (t.length ≤ 9)) = true → Tok9 t := by
    intro t h
    simp only [Bool.and_eq_true, decide_eq_true_iff, List.all_eq_true, Bool.not_eq_true'] at h
    exact ⟨h.1.1, fun c hc => h.1.2 c hc, h.2⟩
  obtain ⟨k, hk, rfl⟩ := h
  have : (KS.all fun k => decide (sgs k ≠ []) && ((sgs k).all fun c => !stops c && decide (c ≠ 10)) && decide ((sgs k).length ≤ 9)) = true := by decide +kernel
  exact key _ (List.all_eq_true.mp this k hk)
theorem chance_tok : Tok9 (sgs "chance") := by
  refine ⟨by decide +kernel, ?_, by decide +kernel⟩
  have : ((sgs "chance").all fun c => !stops c && decide (c ≠ 10)) = true := by decide +kernel
  intro c hc
  have := List.all_eq_true.mp this c hc
  simpa using this
theorem kernel_tok : Tok9 (sgs "kernel") := by
  refine ⟨by decide +kernel, ?_, by decide +kernel⟩
  have : ((sgs "kernel").all fun c => !stops c && decide (c ≠ 10)) = true := by decide +kernel
  intro c hc
  have := List.all_eq_true.mp this c hc
  simpa using this
theorem A_tok : Tok9 (sgs "A") := by
  refine ⟨by decide +kernel, ?_, by decide +kernel⟩
  have : ((sgs "A").all fun c => !stops c && decide (c ≠ 10)) = true := by decide +kernel
  intro c hc
  have := List.all_eq_true.mp this c hc
  simpa using this
theorem KnIn.tok {b : Bool} {kn : List Nat} (h : KnIn b kn) : Tok9 kn := by
  unfold KnIn at h
  split at h
  · exact h.tok
  · rw [h]; exact chance_tok
theorem kn_mem {kn : List Nat} (h : KnOk kn) : st kn ∈ (["none", "choose", "draw", "spread", "twochoose", "twodraw", "mixed"] : List Str) := by
  obtain ⟨k, hk, rfl⟩ := h
  simp only [KS, List.mem_cons, List.not_mem_nil, or_false] at hk
  rcases hk with rfl | rfl | rfl | rfl | rfl | rfl | rfl <;> (rw [st_sgs]; simp)
/-! ### the lines of a book -/
def linesF (kn : List Nat) (L : List Ly) : List (List (List Nat)) := [sgs "kernel", kn] :: L.map Ly.words
def textF (kn : List Nat) (L : List Ly) : List Nat := joinS 10 ((linesF kn L).map (joinS 32))
theorem joinS_mem {c d : Nat} : ∀ {ts : List (List Nat)}, d ∈ joinS c ts → d = c ∨ ∃ t ∈ ts, d ∈ t
  | [], h => by cases h
  | [t], h => .inr ⟨t, List.mem_singleton_self t, h⟩
  | t :: u :: r, h => by
    rcases List.mem_append.mp (show d ∈ t ++ c :: joinS c (u :: r) from h) with h | h
    · exact .inr ⟨t, List.mem_cons_self, h⟩
    rcases List.mem_cons.mp h with h | h
    · exact .inl h
    · rcases joinS_mem h with h | ⟨v, hv, h⟩
      · exact .inl h
      · exact .inr ⟨v, List.mem_cons_of_mem _ hv, h⟩
theorem joinS_len (c : Nat) {b : Nat} : ∀ {ts : List (List Nat)}, (∀ t ∈ ts, t.length ≤ b) → (joinS c ts).length ≤ ts.length * (b + 1)
  | [], _ => Nat.zero_le _
  | [t], h => by
    have := h t (List.mem_singleton_self t)
    show t.length ≤ 1 * (b + 1)
    omega
  | t :: u :: r, h => by
    have h1 := h t List.mem_cons_self
    have h2 := joinS_len c (ts := u :: r) fun x hx => h x (List.mem_cons_of_mem _ hx)
    show (t ++ c :: joinS c (u :: r)).length ≤ _
    rw [List.length_append, List.length_cons, List.length_cons (a := t), Nat.add_mul, Nat.one_mul]
    omega
theorem line_no10 {ts : List (List Nat)} (h : ∀ t ∈ ts, Tok9 t) : 10 ∉ joinS 32 ts := by
  intro hc
  rcases joinS_mem hc with z | ⟨t, ht, hc⟩
  · cases z
  · exact ((h t ht).2.1 10 hc).2 rfl
theorem Ly.words_len {l : Ly} (h : l.Ok) : 3 ≤ l.words.length ∧ l.words.length ≤ 6 := by
  have := Ly.ex_len h
  show 3 ≤ l.ex.length + 1 + 1 ∧ l.ex.length + 1 + 1 ≤ 6
  omega
theorem lines_tok {b : Bool} {kn : List Nat} {L : List Ly} (hk : KnIn b kn) (hL : ∀ l ∈ L, l.Ok) : ∀ ts ∈ linesF kn L, ts ≠ [] ∧ ts.length ≤ 6 ∧ ∀ t ∈ ts, Tok9 t := by
  intro ts hts
  rcases List.mem_cons.mp hts with rfl | hts
  · refine ⟨by simp, (by decide : 2 ≤ 6), fun t ht => ?_⟩
    rcases List.mem_cons.mp ht with rfl | ht
    · exact kernel_tok
    · rw [List.mem_singleton.mp ht]; exact hk.tok
  · obtain ⟨l, hl, rfl⟩ := List.mem_map.mp hts
    exact ⟨by simp [Ly.words], (Ly.words_len (hL l hl)).2, Ly.words_tok (hL l hl)⟩
/-! ### numbers as tokens -/
theorem digs_dg {n : Nat} (h : n < 10) : digs ((n : Nat) : Int) = dg n := by
  have h1 : digs (valN [48 + n] : Nat) = [48 + n] := eq_of_beq (all_range dig1 h)
  have h2 : valN [48 + n] = n := by
    show 10 * 0 + (48 + n - 48) = n
    omega
  rw [h2] at h1
  exact h1
theorem str_dg {n : Nat} (h : n < 10) : (toString ((n : Nat) : Int) : Str) = st (dg n) := by
  rw [← digs_dg h]
  exact str_ext rfl
theorem num_dg {n : Nat} (h : n < 10) : numT (dg n) = some n := by
  unfold numT
  have h2 : valN (dg n) = n := by
    show 10 * 0 + (48 + n - 48) = n
    omega
  rw [if_pos, h2]
  refine ⟨by unfold dg; simp, by unfold dg; simp, ?_, fun _ => rfl⟩
  show (isDig (48 + n) && true) = true
  unfold isDig
  rw [decide_eq_true (by omega), decide_eq_true (by omega)] <;> rfl
theorem int_dg {n : Nat} (h : n < 10) : PySem.intText? (st (dg n)) = some ((n : Nat) : Int) := by
  obtain ⟨h1, h2⟩ := numT_some (num_dg h)
  have e : st (dg n) = Str.ofString (toString ((n : Nat) : Int)) := str_of_toList h1.symm
  rw [e]
  exact PySem.W.KIN.num_reads (by omega) (by omega)
end My

set_option Elab.async false
set_option linter.all false
set_option maxRecDepth 100000
set_option maxHeartbeats 4000000
namespace My
open PySem PySem.Spec PyProof.Rows L2 DL
open Evl (Ex)
structure Cs where
  DeedsError : Addr
  TextError : Addr
  BookError : Addr
  Book : Addr
/-! ### the promises: texts -/
def WS (ts : List (List Nat)) : List D := ts.map W
def S_token_begin (cs : Cs) : DSp := fun ds M Φ _ => ∃ (l : List Nat) (i : Nat) (p : Addr) (fs : List (List Nat)), ds = [W l, .int (i : Nat), .ref p] ∧ M p = some (.lst (WS fs)) ∧ i < l.length ∧ l.length ≤ BL ∧
  (∀ b : Nat, begN l i (opens fs) = some b → Φ (.int (b : Nat)) M) ∧ (begN l i (opens fs) = none → Φ (.int (-1)) M)
def S_token_end (cs : Cs) : DSp := fun ds M Φ _ => ∃ (l : List Nat) (b : Nat), ds = [W l, .int (b : Nat)] ∧ b < l.length ∧ l.length ≤ BL ∧ Φ (.int (endN l b : Nat)) M
def errD (k : Nat) (n : Int) : List (Str × D) := [("token", .int (k : Nat)), ("line", .int n)]
def S_tokens_of (cs : Cs) : DSp := fun ds M Φ Ψ => ∃ (l : List Nat) (n : Int), ds = [W l, .int n] ∧ l.length ≤ BL ∧
  ((scan l).2 = 0 → ∀ p, M p = none → Φ (.ref p) (updM M p (.lst (WS (scan l).1)))) ∧ ((scan l).2 ≠ 0 → ∀ M', Ψ cs.TextError (errD (scan l).2 n) M')
def S_is_digits (cs : Cs) : DSp := fun ds M Φ _ => ∃ t : List Nat, ds = [W t] ∧ Φ (.bl (digsOk t)) M
def S_whole_in (cs : Cs) : DSp := fun ds M Φ _ => ∃ t : List Nat, ds = [W t, .int 3] ∧ t.length ≤ BL ∧ Φ (.int (numI t)) M
def S_number_in (cs : Cs) : DSp := fun ds M Φ _ => ∃ t : List Nat, ds = [W t] ∧ t.length ≤ BL ∧ Φ (.int (numI t)) M
def S_is_name (cs : Cs) : DSp := fun ds M Φ _ => ∃ t : List Nat, ds = [W t] ∧ t.length ≤ BL ∧ Φ (.bl (nameOk t)) M
/-! ### books -/
def kn7 (j : Nat) : List Nat := sgs (KS.getD j "")
def chN (j : Nat) : Nat := [0, 1, 0, 1, 2, 0, 1].getD j 0
def drN (j : Nat) : Nat := [0, 0, 1, 1, 0, 2, 1].getD j 0
def S_choices (cs : Cs) : DSp := fun ds M Φ _ => ∃ j : Nat, ds = [W (kn7 j)] ∧ j < 7 ∧ Φ (ni (chN j)) M
def S_draws (cs : Cs) : DSp := fun ds M Φ _ => ∃ j : Nat, ds = [W (kn7 j)] ∧ j < 7 ∧ Φ (ni (drN j)) M
def S_is_associative (cs : Cs) : DSp := fun ds M Φ _ => ∃ t : List (List Nat), ds = [tabD t] ∧ TabS t ∧ inB t = true ∧ Φ (.bl (assA t)) M
def S_is_square (cs : Cs) : DSp := fun ds M Φ _ => ∃ t : List (List Nat), ds = [tabD t] ∧ TabS t ∧ Φ (.bl (inB t)) M
def S_is_monoid (cs : Cs) : DSp := fun ds M Φ _ => ∃ t : List (List Nat), ds = [tabD t] ∧ TabS t ∧ Φ (.bl (monB t)) M
def S_is_layer (cs : Cs) : DSp := fun ds M Φ _ => ∃ l : Ly, ds = [l.d] ∧ l.Ok ∧ Φ (.bl l.goodB) M
def LOk (L : List Ly) : Prop := ∀ l ∈ L, l.Ok
def LGood (L : List Ly) : Prop := L.length ≤ 5 ∧ ∀ l ∈ L, l.Ok ∧ l.goodB = true
def lysD (L : List Ly) : D := .tup (L.map Ly.d)
def lysL (L : List Ly) : D := .lst (L.map Ly.d)
def S_states_of (cs : Cs) : DSp := fun ds M Φ _ => ∃ L : List Ly, ds = [lysD L] ∧ LGood L ∧ Φ (ni (prodF L)) M
def numsF : Nat → List Ly → List (Key × D)
  | _, [] => []
  | k, l :: r => (.inr (st l.nm), ni (k + 1)) :: numsF (k + 1) r
def bkF (kn : List Nat) (L : List Ly) (d : Addr) : List (Str × D) := [("kernel", W kn), ("layers", lysD L), ("size", ni L.length), ("numbers", .ref d)]
def BookAt (cs : Cs) (M : Mem) (b : Addr) (kn : List Nat) (L : List Ly) : Prop := LOk L ∧ dueF true L = -1 ∧ ∃ d, M b = some (.ins cs.Book (bkF kn L d)) ∧ M d = some (.dct (numsF 0 L))
/-- what stood there still stands there -/
def Keeps (M M' : Mem) : Prop := ∀ a, M a ≠ none → M' a = M a
def layE (n : Int) : List (Str × D) := [("layer", .int n)]
def S_Book_init (cs : Cs) : DSp := fun ds M Φ Ψ => ∃ (b : Addr) (kn : List Nat) (L : List Ly), ds = [.ref b, W kn, lysL L] ∧ M b = some (.ins cs.Book []) ∧ KnOk kn ∧ LOk L ∧ L.length ≤ 6 ∧
  (dueF true L = -1 → ∀ M', BookAt cs M' b kn L → (∀ a, a ≠ b → M a ≠ none → M' a = M a) → Φ .non M') ∧ (dueF true L ≠ -1 → ∀ M', Ψ cs.BookError (layE (dueF true L)) M')
def LayAt (L : List Ly) (k : Int) (i : Nat) (l : Ly) : Prop := k = (i : Int) + 1 ∧ L[i]? = some l
def Ly.cnt : Ly → Nat
  | .cell _ n => n | .setting _ n => n | .note _ t => t.length | .fail _ n => n | .outside _ ws => ws.length
def S_Book_word_at (cs : Cs) : DSp := fun ds M Φ _ => ∃ (b : Addr) (kn : List Nat) (L : List Ly) (k : Int) (i : Nat) (l : Ly), ds = [.ref b, .int k] ∧ BookAt cs M b kn L ∧ LayAt L k i l ∧ Φ (W l.wd) M
def S_Book_count_at (cs : Cs) : DSp := fun ds M Φ _ => ∃ (b : Addr) (kn : List Nat) (L : List Ly) (k : Int) (i : Nat) (l : Ly), ds = [.ref b, .int k] ∧ BookAt cs M b kn L ∧ LayAt L k i l ∧ Φ (ni l.cnt) M
def S_Book_ways_at (cs : Cs) : DSp := fun ds M Φ _ => ∃ (b : Addr) (kn : List Nat) (L : List Ly) (k : Int) (i : Nat) (x : Int) (d w : Nat) (m ws : List Nat), ds = [.ref b, .int k, .int x] ∧ BookAt cs M b kn L ∧ LayAt L k i (.outside m ws) ∧ x = (d : Nat) ∧ ws[d]? = some w ∧ Φ (ni w) M
def S_Book_product (cs : Cs) : DSp := fun ds M Φ _ => ∃ (b : Addr) (kn : List Nat) (L : List Ly) (k : Int) (i : Nat) (x y : Int) (u v w : Nat) (m r : List Nat) (t : List (List Nat)), ds = [.ref b, .int k, .int x, .int y] ∧ BookAt cs M b kn L ∧ LayAt L k i (.note m t) ∧ x = (u : Nat) ∧ y = (v : Nat) ∧ t[u]? = some r ∧ r[v]? = some w ∧ Φ (ni w) M
def S_Book_number_of (cs : Cs) : DSp := fun ds M Φ _ => ∃ (b : Addr) (kn : List Nat) (L : List Ly) (m : List Nat), ds = [.ref b, W m] ∧ BookAt cs M b kn L ∧ (∀ i l, L[i]? = some l → l.nm = m → Φ (ni (i + 1)) M) ∧ ((∀ l ∈ L, l.nm ≠ m) → Φ (ni 0) M)
def S_like_books (cs : Cs) : DSp := fun ds M Φ _ => ∃ (b c : Addr) (kn : List Nat) (L : List Ly), ds = [.ref b, .ref c] ∧ BookAt cs M b kn L ∧ BookAt cs M c kn L ∧ Φ (.bl true) M
/-! ### texts of books -/
def extOk (w t : List Nat) : Bool := if w = sgs "note" then digsOk t else decide (0 ≤ numI t)
def S_is_extent (cs : Cs) : DSp := fun ds M Φ _ => ∃ w t : List Nat, ds = [W w, W t] ∧ t.length ≤ BL ∧ Φ (.bl (extOk w t)) M
def S_kernel_fault (cs : Cs) : DSp := fun ds M Φ _ => ∃ (p : Addr) (a b : List Nat), ds = [.ref p] ∧ M p = some (.lst (WS [a, b])) ∧ (KnOk b ∨ b = sgs "chance" ∨ b = sgs "A") ∧
  (a ≠ sgs "kernel" → Φ (ni 1) M) ∧ (a = sgs "kernel" → (b = sgs "chance" ∨ b = sgs "A") → Φ (ni 2) M) ∧ (a = sgs "kernel" → KnOk b → Φ (ni 0) M)
def isWd (w : List Nat) : Bool := decide (st w ∈ (["cell", "setting", "note", "fail", "outside"] : List Str))
def isOne (w : List Nat) : Bool := decide (st w ∈ (["cell", "setting", "fail"] : List Str))
def layF : List (List Nat) → Nat
  | [] => 1
  | w :: r => if isWd w = false then 1 else match r with
    | [] => 2
    | m :: es => if nameOk m = false then 2 else match es.findIdx? fun t => !extOk w t with
      | some i => i + 3
      | none => if es = [] then 3 else if isOne w = true ∧ 1 < es.length then 4 else 0
def S_layer_fault (cs : Cs) : DSp := fun ds M Φ _ => ∃ (p : Addr) (ts : List (List Nat)), ds = [.ref p] ∧ M p = some (.lst (WS ts)) ∧ ts.length ≤ 100 ∧ (∀ t ∈ ts, t.length ≤ 100) ∧ Φ (ni (layF ts)) M
def S_layer_of (cs : Cs) : DSp := fun ds M Φ _ => ∃ (p : Addr) (l : Ly), ds = [.ref p] ∧ M p = some (.lst (WS l.words)) ∧ l.Ok ∧ Φ l.d M
/-- what is wrong with the first line, with a later one -/
def HeadF (l : List Nat) (n : Nat) : Prop := ((scan l).2 ≠ 0 ∧ n = (scan l).2) ∨ (scan l).2 = 0 ∧ ∃ a b, (scan l).1 = [a, b] ∧ (KnOk b ∨ b = sgs "chance" ∨ b = sgs "A") ∧ ((a ≠ sgs "kernel" ∧ n = 1) ∨ (a = sgs "kernel" ∧ (b = sgs "chance" ∨ b = sgs "A") ∧ n = 2) ∨ (a = sgs "kernel" ∧ KnOk b ∧ n = 0))
def RestF (l : List Nat) (n : Nat) : Prop := ((scan l).2 ≠ 0 ∧ n = (scan l).2) ∨ (scan l).2 = 0 ∧ (scan l).1.length ≤ 100 ∧ (∀ t ∈ (scan l).1, t.length ≤ 100) ∧ n = layF (scan l).1
def LineF (j : Nat) (l : List Nat) (n : Nat) : Prop := if j = 0 then HeadF l n else RestF l n
structure Lines (ls : List (List Nat)) : Prop where
  ne : ls ≠ []
  nl : ∀ t ∈ ls, 10 ∉ t
  len : ls.length ≤ 20
  sz : ∀ t ∈ ls, t.length ≤ 100
def S_read_book (cs : Cs) : DSp := fun ds M Φ Ψ => ∃ ls : List (List Nat), ds = [W (joinS 10 ls)] ∧ Lines ls ∧
  ((∃ (kn : List Nat) (L : List Ly), ls = (linesF kn L).map (joinS 32) ∧ KnOk kn ∧ LOk L ∧ L.length ≤ 6 ∧ (dueF true L = -1 → ∀ b M', BookAt cs M' b kn L → Keeps M M' → Φ (.ref b) M') ∧ (dueF true L ≠ -1 → ∀ M', Ψ cs.BookError (layE (dueF true L)) M'))
   ∨ ∃ j n : Nat, j < ls.length ∧ (∀ i l, i < j → ls[i]? = some l → LineF i l 0) ∧ (∀ l, ls[j]? = some l → LineF j l n) ∧ n ≠ 0 ∧ ∀ M', Ψ cs.TextError (errD n ((j : Int) + 1)) M')
def S_extent_text (cs : Cs) : DSp := fun ds M Φ _ => ∃ l : Ly, ds = [W l.wd, l.exD] ∧ l.Ok ∧ Φ (W (joinS 32 l.ex)) M
def S_write_book (cs : Cs) : DSp := fun ds M Φ _ => ∃ (b : Addr) (kn : List Nat) (L : List Ly), ds = [.ref b] ∧ BookAt cs M b kn L ∧ KnOk kn ∧ Φ (W (textF kn L)) M
/-! ### the law's -/
def S_law_is_integer (cs : Cs) : DSp := fun ds M Φ _ => ∃ i : Int, ds = [.int i] ∧ Φ (.bl true) M
def S_law_name (cs : Cs) : DSp := fun ds M Φ _ => ∃ a b c : Int, ds = [.int a, .int b, .int c] ∧ 0 ≤ a ∧ 0 ≤ b ∧ 0 ≤ c ∧ ∀ m, NmOk m → Φ (W m) M
def S_law_table (cs : Cs) : DSp := fun ds M Φ _ => ∃ a b : Int, ds = [.int a, .int b] ∧ 0 ≤ a ∧ 0 ≤ b ∧ ∀ t, TabS t → Φ (tabD t) M
abbrev stD (r : List Int) : List D := r.map D.int
def Row (n : Nat) (r : List Int) : Prop := r.length = n ∧ ∀ x ∈ r, 0 ≤ x ∧ x < 1000
def S_law_layer (cs : Cs) : DSp := fun ds M Φ _ => ∃ (r : List Int) (m : List Nat), ds = [.lst (stD r), W m] ∧ Row 8 r ∧ (m = [] ∨ NmOk m) ∧ ∀ l : Ly, l.Ok → Φ l.d M
def S_law_monoid (cs : Cs) : DSp := fun ds M Φ _ => ∃ t : List (List Nat), ds = [tabD t] ∧ TabS t ∧ Φ (.bl (monB t)) M
def S_law_good (cs : Cs) : DSp := fun ds M Φ _ => ∃ l : Ly, ds = [l.d] ∧ l.Ok ∧ Φ (.bl l.goodB) M
def S_law_due (cs : Cs) : DSp := fun ds M Φ _ => ∃ (k : Bool) (kn : List Nat) (L : List Ly), ds = [W kn, lysL L] ∧ KnIn k kn ∧ LOk L ∧ L.length ≤ 6 ∧ Φ (.int (dueF k L)) M
def linesD (ls : List (List (List Nat))) : D := .lst (ls.map fun ts => .lst (WS ts))
def S_law_lines (cs : Cs) : DSp := fun ds M Φ _ => ∃ (k : Bool) (kn : List Nat) (L : List Ly), ds = [W kn, lysL L] ∧ KnIn k kn ∧ LOk L ∧ L.length ≤ 6 ∧ Φ (linesD (linesF kn L)) M
def S_law_book_is (cs : Cs) : DSp := fun ds M Φ _ => ∃ (b : Addr) (kn : List Nat) (L : List Ly), ds = [.ref b, W kn, lysL L] ∧ BookAt cs M b kn L ∧ KnOk kn ∧ Φ (.bl true) M
def S_law_fault (cs : Cs) : DSp := fun ds M Φ _ => ∃ (ls : List (List Nat)) (a b : Int) (j n : Nat), ds = [W (joinS 10 ls), .int a, .int b] ∧ a = (j : Int) + 1 ∧ b = (n : Nat) ∧ Lines ls ∧ j < ls.length ∧ (∀ i l, i < j → ls[i]? = some l → LineF i l 0) ∧ (∀ l, ls[j]? = some l → LineF j l n) ∧ n ≠ 0 ∧ ∀ M', Φ (.bl true) M'
def S_law_refused (cs : Cs) : DSp := fun ds M Φ _ => ∃ (kn : List Nat) (L : List Ly), ds = [W kn, lysL L, W (textF kn L), .int (dueF true L)] ∧ KnOk kn ∧ LOk L ∧ L.length ≤ 6 ∧ dueF true L ≠ -1 ∧ ∀ M', Φ (.bl true) M'
def S_law_spoilt (cs : Cs) : DSp := fun ds M Φ _ => ∃ (kn : List Nat) (L : List Ly) (r : List Int), ds = [linesD (linesF kn L), W (textF kn L), .lst (stD r)] ∧ KnOk kn ∧ LOk L ∧ L.length ≤ 6 ∧ Row 3 r ∧ ∀ M', Φ (.bl true) M'
abbrev S_law (cs : Cs) : DSp := lawSp
abbrev ends (Φ : D → Mem → Prop) : DE := { nx := fun _ M' => Φ .non M', rt := Φ }
theorem ar_token_begin (cs : Cs) : Arity (S_token_begin cs) 3 := by rintro ds M Φ Ψ ⟨_, _, _, _, rfl, _⟩; rfl
theorem ar_token_end (cs : Cs) : Arity (S_token_end cs) 2 := by rintro ds M Φ Ψ ⟨_, _, rfl, _⟩; rfl
theorem ar_tokens_of (cs : Cs) : Arity (S_tokens_of cs) 2 := by rintro ds M Φ Ψ ⟨_, _, rfl, _⟩; rfl
theorem ar_is_digits (cs : Cs) : Arity (S_is_digits cs) 1 := by rintro ds M Φ Ψ ⟨_, rfl, _⟩; rfl
theorem ar_whole_in (cs : Cs) : Arity (S_whole_in cs) 2 := by rintro ds M Φ Ψ ⟨_, rfl, _⟩; rfl
theorem ar_number_in (cs : Cs) : Arity (S_number_in cs) 1 := by rintro ds M Φ Ψ ⟨_, rfl, _⟩; rfl
theorem ar_is_name (cs : Cs) : Arity (S_is_name cs) 1 := by rintro ds M Φ Ψ ⟨_, rfl, _⟩; rfl
theorem ar_choices (cs : Cs) : Arity (S_choices cs) 1 := by rintro ds M Φ Ψ ⟨_, rfl, _⟩; rfl
theorem ar_draws (cs : Cs) : Arity (S_draws cs) 1 := by rintro ds M Φ Ψ ⟨_, rfl, _⟩; rfl
theorem ar_is_associative (cs : Cs) : Arity (S_is_associative cs) 1 := by rintro ds M Φ Ψ ⟨_, rfl, _⟩; rfl
theorem ar_is_square (cs : Cs) : Arity (S_is_square cs) 1 := by rintro ds M Φ Ψ ⟨_, rfl, _⟩; rfl
theorem ar_is_monoid (cs : Cs) : Arity (S_is_monoid cs) 1 := by rintro ds M Φ Ψ ⟨_, rfl, _⟩; rfl
theorem ar_is_layer (cs : Cs) : Arity (S_is_layer cs) 1 := by rintro ds M Φ Ψ ⟨_, rfl, _⟩; rfl
theorem ar_states_of (cs : Cs) : Arity (S_states_of cs) 1 := by rintro ds M Φ Ψ ⟨_, rfl, _⟩; rfl
theorem ar_Book_init (cs : Cs) : Arity (S_Book_init cs) 3 := by rintro ds M Φ Ψ ⟨_, _, _, rfl, _⟩; rfl
theorem ar_Book_word_at (cs : Cs) : Arity (S_Book_word_at cs) 2 := by rintro ds M Φ Ψ ⟨_, _, _, _, _, _, rfl, _⟩; rfl
theorem ar_Book_count_at (cs : Cs) : Arity (S_Book_count_at cs) 2 := by rintro ds M Φ Ψ ⟨_, _, _, _, _, _, rfl, _⟩; rfl
theorem ar_Book_ways_at (cs : Cs) : Arity (S_Book_ways_at cs) 3 := by rintro ds M Φ Ψ ⟨_, _, _, _, _, _, _, _, _, _, rfl, _⟩; rfl
theorem ar_Book_product (cs : Cs) : Arity (S_Book_product cs) 4 := by rintro ds M Φ Ψ ⟨_, _, _, _, _, _, _, _, _, _, _, _, _, rfl, _⟩; rfl
theorem ar_Book_number_of (cs : Cs) : Arity (S_Book_number_of cs) 2 := by rintro ds M Φ Ψ ⟨_, _, _, _, rfl, _⟩; rfl
theorem ar_like_books (cs : Cs) : Arity (S_like_books cs) 2 := by rintro ds M Φ Ψ ⟨_, _, _, _, rfl, _⟩; rfl
theorem ar_is_extent (cs : Cs) : Arity (S_is_extent cs) 2 := by rintro ds M Φ Ψ ⟨_, _, rfl, _⟩; rfl
theorem ar_kernel_fault (cs : Cs) : Arity (S_kernel_fault cs) 1 := by rintro ds M Φ Ψ ⟨_, _, _, rfl, _⟩; rfl
theorem ar_layer_fault (cs : Cs) : Arity (S_layer_fault cs) 1 := by rintro ds M Φ Ψ ⟨_, _, rfl, _⟩; rfl
theorem ar_layer_of (cs : Cs) : Arity (S_layer_of cs) 1 := by rintro ds M Φ Ψ ⟨_, _, rfl, _⟩; rfl
theorem ar_read_book (cs : Cs) : Arity (S_read_book cs) 1 := by rintro ds M Φ Ψ ⟨_, rfl, _⟩; rfl
theorem ar_extent_text (cs : Cs) : Arity (S_extent_text cs) 2 := by rintro ds M Φ Ψ ⟨_, rfl, _⟩; rfl
theorem ar_write_book (cs : Cs) : Arity (S_write_book cs) 1 := by rintro ds M Φ Ψ ⟨_, _, _, rfl, _⟩; rfl
theorem ar_law_is_integer (cs : Cs) : Arity (S_law_is_integer cs) 1 := by rintro ds M Φ Ψ ⟨_, rfl, _⟩; rfl
theorem ar_law_name (cs : Cs) : Arity (S_law_name cs) 3 := by rintro ds M Φ Ψ ⟨_, _, _, rfl, _⟩; rfl
theorem ar_law_table (cs : Cs) : Arity (S_law_table cs) 2 := by rintro ds M Φ Ψ ⟨_, _, rfl, _⟩; rfl
theorem ar_law_layer (cs : Cs) : Arity (S_law_layer cs) 2 := by rintro ds M Φ Ψ ⟨_, _, rfl, _⟩; rfl
theorem ar_law_monoid (cs : Cs) : Arity (S_law_monoid cs) 1 := by rintro ds M Φ Ψ ⟨_, rfl, _⟩; rfl
theorem ar_law_good (cs : Cs) : Arity (S_law_good cs) 1 := by rintro ds M Φ Ψ ⟨_, rfl, _⟩; rfl
theorem ar_law_due (cs : Cs) : Arity (S_law_due cs) 2 := by rintro ds M Φ Ψ ⟨_, _, _, rfl, _⟩; rfl
theorem ar_law_lines (cs : Cs) : Arity (S_law_lines cs) 2 := by rintro ds M Φ Ψ ⟨_, _, _, rfl, _⟩; rfl
theorem ar_law_book_is (cs : Cs) : Arity (S_law_book_is cs) 3 := by rintro ds M Φ Ψ ⟨_, _, _, rfl, _⟩; rfl
theorem ar_law_fault (cs : Cs) : Arity (S_law_fault cs) 3 := by rintro ds M Φ Ψ ⟨_, _, _, _, _, rfl, _⟩; rfl
theorem ar_law_refused (cs : Cs) : Arity (S_law_refused cs) 4 := by rintro ds M Φ Ψ ⟨_, _, rfl, _⟩; rfl
theorem ar_law_spoilt (cs : Cs) : Arity (S_law_spoilt cs) 3 := by rintro ds M Φ Ψ ⟨_, _, _, rfl, _⟩; rfl
theorem ar_law (cs : Cs) : Arity (S_law cs) 1 := by rintro ds M Φ Ψ ⟨_, rfl, _⟩; rfl
/-! _token_begin: slots 0 line 1 place 2 found 3 mark -/
def r_token_begin_4 (cs : Cs) : RS := (dRet (dNeg (dC (.int 1))))
def r_token_begin_3 (cs : Cs) : RS := dSeq (dIfS (dAnd (dTest (dOp dEqA (dVar 3) (dC (.str (Str.ofString " "))))) (dAnd (dTest (dOp dLt (dOp dAddT (dVar 1) (dC (.int 1))) (dCB dLen (dCons (dVar 0) dNil)))) (dTest (dOp (dInA true) (dOp dIx (dVar 0) (dOp dAddT (dVar 1) (dC (.int 1)))) (dC (.str (Str.ofString " )"))))))) (dRet (dOp dAddT (dVar 1) (dC (.int 1)))) dNext) (r_token_begin_4 cs)
def r_token_begin_2 (cs : Cs) : RS := dSeq (dIfS (dTest (dOp dEqA (dVar 3) (dC (.str (Str.ofString ")"))))) (dRet (dVar 1)) dNext) (r_token_begin_3 cs)
def r_token_begin_1 (cs : Cs) : RS := dSeq (dIfS (dOr (dNot (dTruthR (dVar 2))) (dTest (dOp dEqA (dIxM (dVar 2) (dNeg (dC (.int 1)))) (dC (.str (Str.ofString "(")))))) (dRet (dIf (dTest (dOp dEqA (dVar 3) (dC (.str (Str.ofString " "))))) (dNeg (dC (.int 1))) (dVar 1))) dNext) (r_token_begin_2 cs)
def r_token_begin (cs : Cs) : RS := dSeq (dSet 3 (dOp dIx (dVar 0) (dVar 1))) (r_token_begin_1 cs)

/-! _token_end: slots 0 line 1 begin 2 end -/
def b_token_end_4 (cs : Cs) : RS := (dAug 2 dPlus (dC (.int 1)))
def r_token_end_3 (cs : Cs) : RS := (dRet (dVar 2))
def r_token_end_2 (cs : Cs) : RS := dSeq (dWhile [] (dAnd (dTest (dOp dLt (dVar 2) (dCB dLen (dCons (dVar 0) dNil)))) (dTest (dOp (dInA true) (dOp dIx (dVar 0) (dVar 2)) (dC (.str (Str.ofString " ()")))))) (b_token_end_4 cs)) (r_token_end_3 cs)
def r_token_end_1 (cs : Cs) : RS := dSeq (dIfS (dTest (dOp (dInA false) (dOp dIx (dVar 0) (dVar 1)) (dC (.str (Str.ofString "()"))))) (dRet (dVar 2)) dNext) (r_token_end_2 cs)
def r_token_end (cs : Cs) : RS := dSeq (dSet 2 (dOp dAddT (dVar 1) (dC (.int 1)))) (r_token_end_1 cs)

/-! tokens_of: slots 0 line 1 number 2 found 3 place 4 begin -/
def b_tokens_of_3 (cs : Cs) (Ψ : DX) : RS := (dSeq (dSet 4 (dCall (S_token_begin cs) (dCons (dVar 0) (dCons (dVar 3) (dCons (dVar 2) dNil)))))
    (dSeq (dIfS (dTest (dOp dLt (dVar 4) (dC (.int 0)))) (dRaise cs.TextError ["line", "token"] (flatX Ψ) (dCons (dVar 1) (dCons (dOp dAddT (dLenM (dVar 2)) (dC (.int 1))) dNil))) dNext)
    (dSeq (dSet 3 (dCall (S_token_end cs) (dCons (dVar 0) (dCons (dVar 4) dNil))))
    (dAppM (dVar 2) (dSlA (dVar 0) (dPart (dVar 4)) (dPart (dVar 3)))))))
def r_tokens_of_3 (cs : Cs) (Ψ : DX) : RS := (dRet (dVar 2))
def r_tokens_of_2 (cs : Cs) (Ψ : DX) : RS := dSeq (dWhile [4] (dTest (dOp dLt (dVar 3) (dCB dLen (dCons (dVar 0) dNil)))) (b_tokens_of_3 cs Ψ)) (r_tokens_of_3 cs Ψ)
def r_tokens_of_1 (cs : Cs) (Ψ : DX) : RS := dSeq (dSet 3 (dC (.int 0))) (r_tokens_of_2 cs Ψ)
def r_tokens_of (cs : Cs) (Ψ : DX) : RS := dSeq (dSetM 2 dNil) (r_tokens_of_1 cs Ψ)

/-! is_digits: slots 0 token -/
def r_is_digits (cs : Cs) : RS := (dRet (dAndV (dM0 Txt.isascii (dVar 0)) (dM0 Txt.isdigit (dVar 0))))

/-! whole_in: slots 0 token 1 most -/
def r_whole_in_2 (cs : Cs) : RS := (dRet (dCB dIntA (dCons (dVar 0) dNil)))
def r_whole_in_1 (cs : Cs) : RS := dSeq (dIfS (dAnd (dTest (dOp dEqA (dOp dIx (dVar 0) (dC (.int 0))) (dC (.str (Str.ofString "0"))))) (dTest (dOp dNeA (dVar 0) (dC (.str (Str.ofString "0")))))) (dRet (dNeg (dC (.int 1)))) dNext) (r_whole_in_2 cs)
def r_whole_in (cs : Cs) : RS := dSeq (dIfS (dOr (dNot (dTruth (dCall (S_is_digits cs) (dCons (dVar 0) dNil)))) (dTest (dOp dGt (dCB dLen (dCons (dVar 0) dNil)) (dVar 1)))) (dRet (dNeg (dC (.int 1)))) dNext) (r_whole_in_1 cs)

/-! number_in: slots 0 token -/
def r_number_in (cs : Cs) : RS := (dRet (dCall (S_whole_in cs) (dCons (dVar 0) (dCons (dC (.int 3)) dNil))))

/-! is_name: slots 0 token -/
def r_is_name (cs : Cs) : RS := (dRet (dAndV (dOp dLe (dCB dLen (dCons (dVar 0) dNil)) (dC (.int 6))) (dAndV (dM0 Txt.isascii (dVar 0)) (dAndV (dM0 Txt.isalpha (dVar 0)) (dM0 Txt.islower (dVar 0))))))

/-! choices: slots 0 kernel -/
def r_choices (cs : Cs) : RS := (dRet (dOp dIx (dItemK [("none", .tup (([0, 0] : List Int).map .int)), ("choose", .tup (([1, 0] : List Int).map .int)), ("draw", .tup (([0, 1] : List Int).map .int)), ("spread", .tup (([1, 1] : List Int).map .int)), ("twochoose", .tup (([2, 0] : List Int).map .int)), ("twodraw", .tup (([0, 2] : List Int).map .int)), ("mixed", .tup (([1, 1] : List Int).map .int))] (dVar 0)) (dC (.int 0))))

/-! draws: slots 0 kernel -/
def r_draws (cs : Cs) : RS := (dRet (dOp dIx (dItemK [("none", .tup (([0, 0] : List Int).map .int)), ("choose", .tup (([1, 0] : List Int).map .int)), ("draw", .tup (([0, 1] : List Int).map .int)), ("spread", .tup (([1, 1] : List Int).map .int)), ("twochoose", .tup (([2, 0] : List Int).map .int)), ("twodraw", .tup (([0, 2] : List Int).map .int)), ("mixed", .tup (([1, 1] : List Int).map .int))] (dVar 0)) (dC (.int 1))))

/-! _is_associative: slots 0 table 1 members 2 a 3 b 4 c -/
def b_is_associative_4 (cs : Cs) : RS := (dIfS (dTest (dOp dNeA (dOp dIx (dOp dIx (dVar 0) (dOp dIx (dOp dIx (dVar 0) (dVar 2)) (dVar 3))) (dVar 4)) (dOp dIx (dOp dIx (dVar 0) (dVar 2)) (dOp dIx (dOp dIx (dVar 0) (dVar 3)) (dVar 4))))) (dRet (dC (.bl false))) dNext)
def b_is_associative_3 (cs : Cs) : RS := (dForI (tgN 4) [4] (dRngI (dVar 1)) (b_is_associative_4 cs))
def b_is_associative_2 (cs : Cs) : RS := (dForI (tgN 3) [3, 4] (dRngI (dVar 1)) (b_is_associative_3 cs))
def r_is_associative_2 (cs : Cs) : RS := (dRet (dC (.bl true)))
def r_is_associative_1 (cs : Cs) : RS := dSeq (dForI (tgN 2) [2, 3] (dRngI (dVar 1)) (b_is_associative_2 cs)) (r_is_associative_2 cs)
def r_is_associative (cs : Cs) : RS := dSeq (dSet 1 (dRngV (dCB dLen (dCons (dVar 0) dNil)))) (r_is_associative_1 cs)

/-! _is_square: slots 0 table 1 many 2 row -/
def b_is_square_2 (cs : Cs) : RS := (dIfS (dOr (dTest (dOp dNeA (dCB dLen (dCons (dVar 2) dNil)) (dVar 1))) (dOr (dTest (dOp dLt (dCB (dFold min) (dCons (dVar 2) dNil)) (dC (.int 0)))) (dTest (dOp dGe (dCB (dFold max) (dCons (dVar 2) dNil)) (dVar 1))))) (dRet (dC (.bl false))) dNext)
def r_is_square_2 (cs : Cs) : RS := (dRet (dC (.bl true)))
def r_is_square_1 (cs : Cs) : RS := dSeq (dFor 2 [2] (dVar 0) (b_is_square_2 cs)) (r_is_square_2 cs)
def r_is_square (cs : Cs) : RS := dSeq (dSet 1 (dCB dLen (dCons (dVar 0) dNil))) (r_is_square_1 cs)

/-! _is_monoid: slots 0 table 1 member -/
def b_is_monoid_3 (cs : Cs) : RS := (dIfS (dOr (dTest (dOp dNeA (dOp dIx (dOp dIx (dVar 0) (dC (.int 0))) (dVar 1)) (dVar 1))) (dTest (dOp dNeA (dOp dIx (dOp dIx (dVar 0) (dVar 1)) (dC (.int 0))) (dVar 1)))) (dRet (dC (.bl false))) dNext)
def r_is_monoid_2 (cs : Cs) : RS := (dRet (dCall (S_is_associative cs) (dCons (dVar 0) dNil)))
def r_is_monoid_1 (cs : Cs) : RS := dSeq (dForR 1 [1] (dCB dLen (dCons (dVar 0) dNil)) (b_is_monoid_3 cs)) (r_is_monoid_2 cs)
def r_is_monoid (cs : Cs) : RS := dSeq (dIfS (dOr (dNot (dTest (dChain dLe dLe (dC (.int 2)) (dCB dLen (dCons (dVar 0) dNil)) (dC (.int 6))))) (dNot (dTruth (dCall (S_is_square cs) (dCons (dVar 0) dNil))))) (dRet (dC (.bl false))) dNext) (r_is_monoid_1 cs)

/-! _is_layer: slots 0 layer 1 word 2 name 3 extent -/
def r_is_layer_5 (cs : Cs) : RS := (dRet (dChain dLe dLe (dC (.int 2)) (dVar 3) (dC (.int 3))))
def r_is_layer_4 (cs : Cs) : RS := dSeq (dIfS (dTest (dOp dEqA (dVar 1) (dC (.str (Str.ofString "fail"))))) (dRet (dChain dLe dLe (dC (.int 1)) (dVar 3) (dC (.int 3)))) dNext) (r_is_layer_5 cs)
def r_is_layer_3 (cs : Cs) : RS := dSeq (dIfS (dTest (dOp dEqA (dVar 1) (dC (.str (Str.ofString "outside"))))) (dRet (dAndV (dChain dLe dLe (dC (.int 1)) (dCB dLen (dCons (dVar 3) dNil)) (dC (.int 2))) (dAndV (dOp dLe (dC (.int 1)) (dCB (dFold min) (dCons (dVar 3) dNil))) (dOp dLe (dCB (dFold max) (dCons (dVar 3) dNil)) (dC (.int 3)))))) dNext) (r_is_layer_4 cs)
def r_is_layer_2 (cs : Cs) : RS := dSeq (dIfS (dTest (dOp dEqA (dVar 1) (dC (.str (Str.ofString "note"))))) (dRet (dCall (S_is_monoid cs) (dCons (dVar 3) dNil))) dNext) (r_is_layer_3 cs)
def r_is_layer_1 (cs : Cs) : RS := dSeq (dIfS (dOr (dNot (dTruth (dCall (S_is_name cs) (dCons (dVar 2) dNil)))) (dTest (dOp (dInA true) (dVar 1) (dC (strsD ["cell", "setting", "note", "fail", "outside"]))))) (dRet (dC (.bl false))) dNext) (r_is_layer_2 cs)
def r_is_layer (cs : Cs) : RS := dSeq (dUnp [1, 2, 3] (dVar 0)) (r_is_layer_1 cs)

/-! _states_of: slots 0 layers 1 many 2 word 3 _ 4 extent -/
def b_states_of_2 (cs : Cs) : RS := (dIfS (dTest (dOp (dInA false) (dVar 2) (dTup (dCons (dC (.str (Str.ofString "cell"))) (dCons (dC (.str (Str.ofString "setting"))) dNil))))) (dSet 1 (dOp (dIC CMulA fun i j => .int (i * j)) (dVar 1) (dVar 4))) dNext)
def r_states_of_2 (cs : Cs) : RS := (dRet (dVar 1))
def r_states_of_1 (cs : Cs) : RS := dSeq (dForU [2, 3, 4] [2, 3, 4] (dVar 0) (b_states_of_2 cs)) (r_states_of_2 cs)
def r_states_of (cs : Cs) : RS := dSeq (dSet 1 (dC (.int 1))) (r_states_of_1 cs)

/-! Book.__init__: slots 0 self 1 kernel 2 layers 3 at 4 layer -/
def b_Book_init_7 (cs : Cs) (Ψ : DX) : RS := (dSeq (dIfS (dOr (dNot (dTruth (dCall (S_is_layer cs) (dCons (dVar 4) dNil)))) (dTest (dDIn false (dOp dIx (dVar 4) (dC (.int 1))) (dFld cs.Book "numbers" (dVar 0))))) (dRaise cs.BookError ["layer"] (flatX Ψ) (dCons (dOp dAddT (dVar 3) (dC (.int 1))) dNil)) dNext)
    (dDPut (dOp dAddT (dVar 3) (dC (.int 1))) (dFld cs.Book "numbers" (dVar 0)) (dOp dIx (dVar 4) (dC (.int 1)))))
def r_Book_init_6 (cs : Cs) (Ψ : DX) : RS := (dIfS (dTest (dOp dGt (dCall (S_states_of cs) (dCons (dFld cs.Book "layers" (dVar 0)) dNil)) (dC (.int 12)))) (dRaise cs.BookError ["layer"] (flatX Ψ) (dCons (dC (.int 0)) dNil)) dNext)
def r_Book_init_5 (cs : Cs) (Ψ : DX) : RS := dSeq (dForI (tgU [3, 4]) [3, 4] (dEnum (dFld cs.Book "layers" (dVar 0))) (b_Book_init_7 cs Ψ)) (r_Book_init_6 cs Ψ)
def r_Book_init_4 (cs : Cs) (Ψ : DX) : RS := dSeq (dSetF cs.Book "numbers" (dVar 0) dDNew) (r_Book_init_5 cs Ψ)
def r_Book_init_3 (cs : Cs) (Ψ : DX) : RS := dSeq (dSetF cs.Book "size" (dVar 0) (dLenR (dFld cs.Book "layers" (dVar 0)))) (r_Book_init_4 cs Ψ)
def r_Book_init_2 (cs : Cs) (Ψ : DX) : RS := dSeq (dSetF cs.Book "layers" (dVar 0) (dTpl (dVar 2))) (r_Book_init_3 cs Ψ)
def r_Book_init_1 (cs : Cs) (Ψ : DX) : RS := dSeq (dSetF cs.Book "kernel" (dVar 0) (dVar 1)) (r_Book_init_2 cs Ψ)
def r_Book_init (cs : Cs) (Ψ : DX) : RS := dSeq (dIfS (dOr (dTest (dInB true ["none", "choose", "draw", "spread", "twochoose", "twodraw", "mixed"] ["chance", "A"] (dVar 1))) (dTest (dOp dGt (dCB dLen (dCons (dVar 2) dNil)) (dC (.int 5))))) (dRaise cs.BookError ["layer"] (flatX Ψ) (dCons (dC (.int 0)) dNil)) dNext) (r_Book_init_1 cs Ψ)

/-! Book.word_at: slots 0 self 1 layer -/
def r_Book_word_at (cs : Cs) : RS := (dRet (dOp dIx (dIxR (dFld cs.Book "layers" (dVar 0)) (dOp (dI fun i j => .int (i - j)) (dVar 1) (dC (.int 1)))) (dC (.int 0))))

/-! Book.count_at: slots 0 self 1 layer 2 word 3 _ 4 extent -/
def r_Book_count_at_2 (cs : Cs) : RS := (dRet (dVar 4))
def r_Book_count_at_1 (cs : Cs) : RS := dSeq (dIfS (dTest (dOp (dInA false) (dVar 2) (dTup (dCons (dC (.str (Str.ofString "note"))) (dCons (dC (.str (Str.ofString "outside"))) dNil))))) (dRet (dCB dLen (dCons (dVar 4) dNil))) dNext) (r_Book_count_at_2 cs)
def r_Book_count_at (cs : Cs) : RS := dSeq (dUnp [2, 3, 4] (dIxR (dFld cs.Book "layers" (dVar 0)) (dOp (dI fun i j => .int (i - j)) (dVar 1) (dC (.int 1))))) (r_Book_count_at_1 cs)

/-! Book.ways_at: slots 0 self 1 layer 2 deed -/
def r_Book_ways_at (cs : Cs) : RS := (dRet (dOp dIx (dOp dIx (dIxR (dFld cs.Book "layers" (dVar 0)) (dOp (dI fun i j => .int (i - j)) (dVar 1) (dC (.int 1)))) (dC (.int 2))) (dVar 2)))

/-! Book.product: slots 0 self 1 layer 2 first 3 second -/
def r_Book_product (cs : Cs) : RS := (dRet (dOp dIx (dOp dIx (dOp dIx (dIxR (dFld cs.Book "layers" (dVar 0)) (dOp (dI fun i j => .int (i - j)) (dVar 1) (dC (.int 1)))) (dC (.int 2))) (dVar 2)) (dVar 3)))

/-! Book.number_of: slots 0 self 1 name -/
def r_Book_number_of (cs : Cs) : RS := (dRet (dGet2 (dFld cs.Book "numbers" (dVar 0)) (dVar 1) (dC (.int 0))))

/-! like_books: slots 0 one 1 other -/
def r_like_books (cs : Cs) : RS := (dRet (dAndV (dOp dEqA (dFld cs.Book "kernel" (dVar 0)) (dFld cs.Book "kernel" (dVar 1))) (dOp dEqA (dFld cs.Book "layers" (dVar 0)) (dFld cs.Book "layers" (dVar 1)))))

/-! _is_extent: slots 0 word 1 token -/
def r_is_extent_1 (cs : Cs) : RS := (dRet (dOp dGe (dCall (S_number_in cs) (dCons (dVar 1) dNil)) (dC (.int 0))))
def r_is_extent (cs : Cs) : RS := dSeq (dIfS (dTest (dOp dEqA (dVar 0) (dC (.str (Str.ofString "note"))))) (dRet (dCall (S_is_digits cs) (dCons (dVar 1) dNil))) dNext) (r_is_extent_1 cs)

/-! _kernel_fault: slots 0 tokens -/
def r_kernel_fault_2 (cs : Cs) : RS := (dRet (dIf (dTest (dOp dGt (dLenM (dVar 0)) (dC (.int 2)))) (dC (.int 3)) (dC (.int 0))))
def r_kernel_fault_1 (cs : Cs) : RS := dSeq (dIfS (dOr (dTest (dOp dLt (dLenM (dVar 0)) (dC (.int 2)))) (dTest (dInB true ["none", "choose", "draw", "spread", "twochoose", "twodraw", "mixed"] ["chance", "A"] (dIxM (dVar 0) (dC (.int 1)))))) (dRet (dC (.int 2))) dNext) (r_kernel_fault_2 cs)
def r_kernel_fault (cs : Cs) : RS := dSeq (dIfS (dOr (dNot (dTruthR (dVar 0))) (dTest (dOp dNeA (dIxM (dVar 0) (dC (.int 0))) (dC (.str (Str.ofString "kernel")))))) (dRet (dC (.int 1))) dNext) (r_kernel_fault_1 cs)

/-! _layer_fault: slots 0 tokens 1 at -/
def b_layer_fault_5 (cs : Cs) : RS := (dIfS (dNot (dTruth (dCall (S_is_extent cs) (dCons (dIxM (dVar 0) (dC (.int 0))) (dCons (dIxM (dVar 0) (dVar 1)) dNil))))) (dRet (dOp dAddT (dVar 1) (dC (.int 1)))) dNext)
def r_layer_fault_5 (cs : Cs) : RS := (dRet (dC (.int 0)))
def r_layer_fault_4 (cs : Cs) : RS := dSeq (dIfS (dAnd (dTest (dOp (dInA false) (dIxM (dVar 0) (dC (.int 0))) (dTup (dCons (dC (.str (Str.ofString "cell"))) (dCons (dC (.str (Str.ofString "setting"))) (dCons (dC (.str (Str.ofString "fail"))) dNil)))))) (dTest (dOp dGt (dLenM (dVar 0)) (dC (.int 3))))) (dRet (dC (.int 4))) dNext) (r_layer_fault_5 cs)
def r_layer_fault_3 (cs : Cs) : RS := dSeq (dIfS (dTest (dOp dLt (dLenM (dVar 0)) (dC (.int 3)))) (dRet (dC (.int 3))) dNext) (r_layer_fault_4 cs)
def r_layer_fault_2 (cs : Cs) : RS := dSeq (dForR2 1 [1] (dC (.int 2)) (dLenM (dVar 0)) (b_layer_fault_5 cs)) (r_layer_fault_3 cs)
def r_layer_fault_1 (cs : Cs) : RS := dSeq (dIfS (dOr (dTest (dOp dLt (dLenM (dVar 0)) (dC (.int 2)))) (dNot (dTruth (dCall (S_is_name cs) (dCons (dIxM (dVar 0) (dC (.int 1))) dNil))))) (dRet (dC (.int 2))) dNext) (r_layer_fault_2 cs)
def r_layer_fault (cs : Cs) : RS := dSeq (dIfS (dOr (dNot (dTruthR (dVar 0))) (dTest (dOp (dInA true) (dIxM (dVar 0) (dC (.int 0))) (dC (strsD ["cell", "setting", "note", "fail", "outside"]))))) (dRet (dC (.int 1))) dNext) (r_layer_fault_1 cs)

/-! _layer_of: slots 0 tokens 1 word 2 name 3 extents 4 row -/
def r_layer_of_3 (cs : Cs) : RS := (dRet (dTup (dCons (dVar 1) (dCons (dVar 2) (dCons (dCB dIntA (dCons (dOp dIx (dVar 3) (dC (.int 0))) dNil)) dNil)))))
def r_layer_of_2 (cs : Cs) : RS := dSeq (dIfS (dTest (dOp dEqA (dVar 1) (dC (.str (Str.ofString "outside"))))) (dRet (dTup (dCons (dVar 1) (dCons (dVar 2) (dCons (dTupMapI (dVar 3)) dNil))))) dNext) (r_layer_of_3 cs)
def r_layer_of_1 (cs : Cs) : RS := dSeq (dIfS (dTest (dOp dEqA (dVar 1) (dC (.str (Str.ofString "note"))))) (dRet (dTup (dCons (dVar 1) (dCons (dVar 2) (dCons (dTpl (dFz (dLc [4] (dItems (dVar 3)) (tgN 4) dYes (dTupMapI (dVar 4))))) dNil))))) dNext) (r_layer_of_2 cs)
def r_layer_of (cs : Cs) : RS := dSeq (dUnpS [1, 2] 3 (dVar 0)) (r_layer_of_1 cs)

/-! read_book: slots 0 text 1 rows 2 at 3 line 4 tokens 5 fault -/
def b_read_book_2 (cs : Cs) (Ψ : DX) : RS := (dSeq (dSet 4 (dCallX (S_tokens_of cs) (flatX Ψ) (dCons (dVar 3) (dCons (dOp dAddT (dVar 2) (dC (.int 1))) dNil))))
    (dSeq (dSet 5 (dIf (dTruth (dVar 2)) (dCall (S_layer_fault cs) (dCons (dVar 4) dNil)) (dCall (S_kernel_fault cs) (dCons (dVar 4) dNil))))
    (dSeq (dIfS (dTruth (dVar 5)) (dRaise cs.TextError ["line", "token"] (flatX Ψ) (dCons (dOp dAddT (dVar 2) (dC (.int 1))) (dCons (dVar 5) dNil))) dNext)
    (dApp 1 (dVar 4)))))
def r_read_book_2 (cs : Cs) (Ψ : DX) : RS := (dRet (dMakeX cs.Book (S_Book_init cs) Ψ (dCons (dIxR (dIxO 1 (dC (.int 0))) (dC (.int 1))) (dCons (dFz (dLc [4] (dItems (dSlA (dVar 1) (dPart (dC (.int 1))) dNoP)) (tgN 4) dYes (dCall (S_layer_of cs) (dCons (dVar 4) dNil)))) dNil))))
def r_read_book_1 (cs : Cs) (Ψ : DX) : RS := dSeq (dForI (tgU [2, 3]) [2, 3, 5] (dEnum (dFz (dSplit (dVar 0) (dC (.str (Str.ofString "\n")))))) (b_read_book_2 cs Ψ)) (r_read_book_2 cs Ψ)
def r_read_book (cs : Cs) (Ψ : DX) : RS := dSeq (dSetO 1 dNil) (r_read_book_1 cs Ψ)

/-! _extent_text: slots 0 word 1 extent 2 row -/
def r_extent_text_2 (cs : Cs) : RS := (dRet (dCB dStrA (dCons (dVar 1) dNil)))
def r_extent_text_1 (cs : Cs) : RS := dSeq (dIfS (dTest (dOp dEqA (dVar 0) (dC (.str (Str.ofString "outside"))))) (dRet (dJoinMapI (dC (.str (Str.ofString " "))) (dVar 1))) dNext) (r_extent_text_2 cs)
def r_extent_text (cs : Cs) : RS := dSeq (dIfS (dTest (dOp dEqA (dVar 0) (dC (.str (Str.ofString "note"))))) (dRet (dJoinL (dC (.str (Str.ofString " "))) (dFz (dLc [2] (dItems (dVar 1)) (tgN 2) dYes (dJoinMapI (dC (.str (Str.ofString ""))) (dVar 2)))))) dNext) (r_extent_text_1 cs)

/-! write_book: slots 0 book 1 lines 2 word 3 name 4 extent -/
def b_write_book_2 (cs : Cs) : RS := (dApp 1 (dJoin [(dFmt (dVar 2)), (dC (.str (Str.ofString " "))), (dFmt (dVar 3)), (dC (.str (Str.ofString " "))), (dFmt (dCall (S_extent_text cs) (dCons (dVar 2) (dCons (dVar 4) dNil))))]))
def r_write_book_2 (cs : Cs) : RS := (dRet (dJoinL (dC (.str (Str.ofString "\n"))) (dVar 1)))
def r_write_book_1 (cs : Cs) : RS := dSeq (dForU [2, 3, 4] [2, 3, 4] (dFld cs.Book "layers" (dVar 0)) (b_write_book_2 cs)) (r_write_book_2 cs)
def r_write_book (cs : Cs) : RS := dSeq (dSetO 1 (dCons (dJoin [(dC (.str (Str.ofString "kernel "))), (dFmt (dFld cs.Book "kernel" (dVar 0)))]) dNil)) (r_write_book_1 cs)

/-! _law_is_integer: slots 0 _law_actual -/
def r_law_is_integer (cs : Cs) : RS := (dRet (dAndV (dIsi "int" (dVar 0)) (dNotV (dIsi "bool" (dVar 0)))))

/-! _law_name: slots 0 _law_a 1 _law_b 2 _law_c 3 _law_letters -/
def r_law_name_2 (cs : Cs) : RS := (dRet (dOp dAddT (dOp dIx (dVar 3) (dOp (dIC (fun _ j => 0 < j) fun i j => .int (i % j)) (dCB dInt (dCons (dVar 0) dNil)) (dC (.int 26)))) (dOp dMulS (dOp dIx (dVar 3) (dOp (dIC (fun _ j => 0 < j) fun i j => .int (i % j)) (dCB dInt (dCons (dVar 1) dNil)) (dC (.int 26)))) (dOp dAddT (dC (.int 1)) (dOp (dIC (fun _ j => 0 < j) fun i j => .int (i % j)) (dCB dInt (dCons (dVar 2) dNil)) (dC (.int 5)))))))
def r_law_name_1 (cs : Cs) : RS := dSeq (dIfS (dTest (dOp dEqA (dOp (dIC (fun _ j => 0 < j) fun i j => .int (i % j)) (dCB dInt (dCons (dVar 2) dNil)) (dC (.int 3))) (dC (.int 0)))) (dRet (dOp dIx (dVar 3) (dOp (dIC (fun _ j => 0 < j) fun i j => .int (i % j)) (dCB dInt (dCons (dVar 0) dNil)) (dC (.int 26))))) dNext) (r_law_name_2 cs)
def r_law_name (cs : Cs) : RS := dSeq (dSet 3 (dC (.str (Str.ofString "abcdefghijklmnopqrstuvwxyz")))) (r_law_name_1 cs)

/-! _law_table: slots 0 _law_a 1 _law_b 2 _law_menu -/
def r_law_table_5 (cs : Cs) : RS := (dRet (dTup (dCons (dTup (dCons (dC (.int 0)) (dCons (dC (.int 1)) dNil))) (dCons (dTup (dCons (dOp (dIC (fun _ j => 0 < j) fun i j => .int (i % j)) (dCB dInt (dCons (dVar 1) dNil)) (dC (.int 3))) (dCons (dC (.int 0)) dNil))) dNil))))
def r_law_table_4 (cs : Cs) : RS := dSeq (dIfS (dTest (dOp dEqA (dOp (dIC (fun _ j => 0 < j) fun i j => .int (i % j)) (dCB dInt (dCons (dVar 0) dNil)) (dC (.int 8))) (dC (.int 6)))) (dRet (dTup (dCons (dTup (dCons (dC (.int 0)) (dCons (dC (.int 1)) (dCons (dC (.int 2)) dNil)))) (dCons (dTup (dCons (dC (.int 1)) (dCons (dOp (dIC (fun _ j => 0 < j) fun i j => .int (i % j)) (dCB dInt (dCons (dVar 1) dNil)) (dC (.int 3))) (dCons (dOp (dIC (fun _ j => 0 < j) fun i j => .int (i % j)) (dOp (dIC CDivA fun i j => .int (i / j)) (dCB dInt (dCons (dVar 1) dNil)) (dC (.int 3))) (dC (.int 3))) dNil)))) (dCons (dTup (dCons (dC (.int 2)) (dCons (dOp (dIC (fun _ j => 0 < j) fun i j => .int (i % j)) (dOp (dIC CDivA fun i j => .int (i / j)) (dCB dInt (dCons (dVar 1) dNil)) (dC (.int 9))) (dC (.int 3))) (dCons (dOp (dIC (fun _ j => 0 < j) fun i j => .int (i % j)) (dOp (dIC CDivA fun i j => .int (i / j)) (dCB dInt (dCons (dVar 1) dNil)) (dC (.int 27))) (dC (.int 3))) dNil)))) dNil))))) dNext) (r_law_table_5 cs)
def r_law_table_3 (cs : Cs) : RS := dSeq (dIfS (dTest (dOp dLt (dOp (dIC (fun _ j => 0 < j) fun i j => .int (i % j)) (dCB dInt (dCons (dVar 0) dNil)) (dC (.int 8))) (dC (.int 6)))) (dRet (dIxO 2 (dOp (dIC (fun _ j => 0 < j) fun i j => .int (i % j)) (dCB dInt (dCons (dVar 0) dNil)) (dC (.int 8))))) dNext) (r_law_table_4 cs)
def r_law_table_2 (cs : Cs) : RS := dSeq (dApp 2 (dTup (dCons (dTup (dCons (dC (.int 0)) (dCons (dC (.int 1)) (dCons (dC (.int 2)) dNil)))) (dCons (dTup (dCons (dC (.int 1)) (dCons (dC (.int 1)) (dCons (dC (.int 2)) dNil)))) (dCons (dTup (dCons (dC (.int 2)) (dCons (dC (.int 1)) (dCons (dC (.int 2)) dNil)))) dNil))))) (r_law_table_3 cs)
def r_law_table_1 (cs : Cs) : RS := dSeq (dApp 2 (dTup (dCons (dTup (dCons (dC (.int 0)) (dCons (dC (.int 1)) (dCons (dC (.int 2)) (dCons (dC (.int 3)) dNil))))) (dCons (dTup (dCons (dC (.int 1)) (dCons (dC (.int 0)) (dCons (dC (.int 3)) (dCons (dC (.int 2)) dNil))))) (dCons (dTup (dCons (dC (.int 2)) (dCons (dC (.int 3)) (dCons (dC (.int 0)) (dCons (dC (.int 1)) dNil))))) (dCons (dTup (dCons (dC (.int 3)) (dCons (dC (.int 2)) (dCons (dC (.int 1)) (dCons (dC (.int 0)) dNil))))) dNil)))))) (r_law_table_2 cs)
def r_law_table (cs : Cs) : RS := dSeq (dSetO 2 (dCons (dTup (dCons (dTup (dCons (dC (.int 0)) (dCons (dC (.int 1)) dNil))) (dCons (dTup (dCons (dC (.int 1)) (dCons (dC (.int 0)) dNil))) dNil))) (dCons (dTup (dCons (dTup (dCons (dC (.int 0)) (dCons (dC (.int 1)) dNil))) (dCons (dTup (dCons (dC (.int 1)) (dCons (dC (.int 1)) dNil))) dNil))) (dCons (dTup (dCons (dTup (dCons (dC (.int 0)) (dCons (dC (.int 1)) (dCons (dC (.int 2)) dNil)))) (dCons (dTup (dCons (dC (.int 1)) (dCons (dC (.int 2)) (dCons (dC (.int 0)) dNil)))) (dCons (dTup (dCons (dC (.int 2)) (dCons (dC (.int 0)) (dCons (dC (.int 1)) dNil)))) dNil)))) (dCons (dTup (dCons (dTup (dCons (dC (.int 0)) (dCons (dC (.int 1)) (dCons (dC (.int 2)) dNil)))) (dCons (dTup (dCons (dC (.int 1)) (dCons (dC (.int 1)) (dCons (dC (.int 1)) dNil)))) (dCons (dTup (dCons (dC (.int 2)) (dCons (dC (.int 2)) (dCons (dC (.int 2)) dNil)))) dNil)))) dNil))))) (r_law_table_1 cs)

/-! _law_layer: slots 0 _law_row_here 1 _law_before 2 _law_word 3 _law_name_here 4 _law_odd 5 _law_ways -/
def r_law_layer_8 (cs : Cs) : RS := (dRet (dTup (dCons (dVar 2) (dCons (dVar 3) (dCons (dOp dAddT (dC (.int 2)) (dOp (dIC (fun _ j => 0 < j) fun i j => .int (i % j)) (dOp dIx (dVar 0) (dC (.int 6))) (dC (.int 2)))) dNil)))))
def r_law_layer_7 (cs : Cs) : RS := dSeq (dIfS (dTest (dOp dEqA (dVar 2) (dC (.str (Str.ofString "fail"))))) (dRet (dTup (dCons (dVar 2) (dCons (dVar 3) (dCons (dOp dAddT (dC (.int 1)) (dOp (dIC (fun _ j => 0 < j) fun i j => .int (i % j)) (dOp dIx (dVar 0) (dC (.int 6))) (dC (.int 3)))) dNil))))) dNext) (r_law_layer_8 cs)
def r_law_layer_6 (cs : Cs) : RS := dSeq (dIfS (dTruth (dVar 4)) (dRet (dTup (dCons (dVar 2) (dCons (dVar 3) (dCons (dOp dIx (dFz (dCons (dC (.int 0)) (dCons (dC (.int 1)) (dCons (dC (.int 4)) (dCons (dC (.int 7)) dNil))))) (dOp (dIC (fun _ j => 0 < j) fun i j => .int (i % j)) (dOp dIx (dVar 0) (dC (.int 6))) (dC (.int 4)))) dNil))))) dNext) (r_law_layer_7 cs)
def r_law_layer_5 (cs : Cs) : RS := dSeq (dIfS (dTest (dOp dEqA (dVar 2) (dC (.str (Str.ofString "outside"))))) (dSeq (dSetO 5 (dCons (dOp dAddT (dC (.int 1)) (dOp (dIC (fun _ j => 0 < j) fun i j => .int (i % j)) (dOp dIx (dVar 0) (dC (.int 6))) (dC (.int 3)))) dNil))
    (dSeq (dIfS (dTest (dOp dEqA (dOp (dIC (fun _ j => 0 < j) fun i j => .int (i % j)) (dOp dIx (dVar 0) (dC (.int 7))) (dC (.int 2))) (dC (.int 0)))) (dApp 5 (dOp dAddT (dC (.int 1)) (dOp (dIC (fun _ j => 0 < j) fun i j => .int (i % j)) (dOp (dIC CDivA fun i j => .int (i / j)) (dOp dIx (dVar 0) (dC (.int 7))) (dC (.int 2))) (dC (.int 3))))) dNext)
    (dSeq (dIfS (dTruth (dVar 4)) (dApp 5 (dOp (dIC (fun _ j => 0 < j) fun i j => .int (i % j)) (dOp (dIC CDivA fun i j => .int (i / j)) (dOp dIx (dVar 0) (dC (.int 6))) (dC (.int 3))) (dC (.int 5)))) dNext)
    (dRet (dTup (dCons (dVar 2) (dCons (dVar 3) (dCons (dTpl (dVar 5)) dNil)))))))) dNext) (r_law_layer_6 cs)
def r_law_layer_4 (cs : Cs) : RS := dSeq (dSet 4 (dOp dEqA (dOp (dIC (fun _ j => 0 < j) fun i j => .int (i % j)) (dOp dIx (dVar 0) (dC (.int 5))) (dC (.int 12))) (dC (.int 0)))) (r_law_layer_5 cs)
def r_law_layer_3 (cs : Cs) : RS := dSeq (dIfS (dTest (dOp dEqA (dVar 2) (dC (.str (Str.ofString "note"))))) (dRet (dTup (dCons (dVar 2) (dCons (dVar 3) (dCons (dCall (S_law_table cs) (dCons (dOp dIx (dVar 0) (dC (.int 5))) (dCons (dOp dIx (dVar 0) (dC (.int 6))) dNil))) dNil))))) dNext) (r_law_layer_4 cs)
def r_law_layer_2 (cs : Cs) : RS := dSeq (dIfS (dAnd (dTest (dOp dEqA (dOp (dIC (fun _ j => 0 < j) fun i j => .int (i % j)) (dOp dIx (dVar 0) (dC (.int 4))) (dC (.int 11))) (dC (.int 0)))) (dTest (dOp dNeA (dVar 1) (dC (.str (Str.ofString "")))))) (dSet 3 (dVar 1)) dNext) (r_law_layer_3 cs)
def r_law_layer_1 (cs : Cs) : RS := dSeq (dSet 3 (dCall (S_law_name cs) (dCons (dOp dIx (dVar 0) (dC (.int 1))) (dCons (dOp dIx (dVar 0) (dC (.int 2))) (dCons (dOp dIx (dVar 0) (dC (.int 3))) dNil))))) (r_law_layer_2 cs)
def r_law_layer (cs : Cs) : RS := dSeq (dSet 2 (dOp dIx (dFz (dCons (dC (.str (Str.ofString "cell"))) (dCons (dC (.str (Str.ofString "setting"))) (dCons (dC (.str (Str.ofString "note"))) (dCons (dC (.str (Str.ofString "fail"))) (dCons (dC (.str (Str.ofString "outside"))) dNil)))))) (dOp (dIC (fun _ j => 0 < j) fun i j => .int (i % j)) (dOp dIx (dVar 0) (dC (.int 0))) (dC (.int 5))))) (r_law_layer_1 cs)

/-! _law_monoid: slots 0 _law_table_here 1 _law_size 2 _law_line 3 _law_member 4 _law_a 5 _law_b 6 _law_c -/
def b_law_monoid_5 (cs : Cs) : RS := (dIfS (dTest (dOp dGe (dVar 3) (dVar 1))) (dRet (dC (.bl false))) dNext)
def b_law_monoid_2 (cs : Cs) : RS := (dSeq (dIfS (dTest (dOp dNeA (dCB dLen (dCons (dVar 2) dNil)) (dVar 1))) (dRet (dC (.bl false))) dNext)
    (dFor 3 [3] (dVar 2) (b_law_monoid_5 cs)))
def b_law_monoid_12 (cs : Cs) : RS := (dIfS (dTest (dOp dNeA (dOp dIx (dOp dIx (dVar 0) (dOp dIx (dOp dIx (dVar 0) (dVar 4)) (dVar 5))) (dVar 6)) (dOp dIx (dOp dIx (dVar 0) (dVar 4)) (dOp dIx (dOp dIx (dVar 0) (dVar 5)) (dVar 6))))) (dRet (dC (.bl false))) dNext)
def b_law_monoid_11 (cs : Cs) : RS := (dForR 6 [6] (dVar 1) (b_law_monoid_12 cs))
def b_law_monoid_8 (cs : Cs) : RS := (dSeq (dIfS (dOr (dTest (dOp dNeA (dOp dIx (dOp dIx (dVar 0) (dC (.int 0))) (dVar 4)) (dVar 4))) (dTest (dOp dNeA (dOp dIx (dOp dIx (dVar 0) (dVar 4)) (dC (.int 0))) (dVar 4)))) (dRet (dC (.bl false))) dNext)
    (dForR 5 [5, 6] (dVar 1) (b_law_monoid_11 cs)))
def r_law_monoid_3 (cs : Cs) : RS := (dRet (dC (.bl true)))
def r_law_monoid_2 (cs : Cs) : RS := dSeq (dForR 4 [4, 5] (dVar 1) (b_law_monoid_8 cs)) (r_law_monoid_3 cs)
def r_law_monoid_1 (cs : Cs) : RS := dSeq (dFor 2 [2, 3] (dVar 0) (b_law_monoid_2 cs)) (r_law_monoid_2 cs)
def r_law_monoid (cs : Cs) : RS := dSeq (dSet 1 (dCB dLen (dCons (dVar 0) dNil))) (r_law_monoid_1 cs)

/-! _law_good: slots 0 _law_layer_here -/
def r_law_good_3 (cs : Cs) : RS := (dRet (dAndV (dOp dLe (dC (.int 2)) (dOp dIx (dVar 0) (dC (.int 2)))) (dOp dLe (dOp dIx (dVar 0) (dC (.int 2))) (dC (.int 3)))))
def r_law_good_2 (cs : Cs) : RS := dSeq (dIfS (dTest (dOp dEqA (dOp dIx (dVar 0) (dC (.int 0))) (dC (.str (Str.ofString "fail"))))) (dRet (dAndV (dOp dLe (dC (.int 1)) (dOp dIx (dVar 0) (dC (.int 2)))) (dOp dLe (dOp dIx (dVar 0) (dC (.int 2))) (dC (.int 3))))) dNext) (r_law_good_3 cs)
def r_law_good_1 (cs : Cs) : RS := dSeq (dIfS (dTest (dOp dEqA (dOp dIx (dVar 0) (dC (.int 0))) (dC (.str (Str.ofString "outside"))))) (dRet (dAndV (dOp dLe (dCB dLen (dCons (dOp dIx (dVar 0) (dC (.int 2))) dNil)) (dC (.int 2))) (dAndV (dOp dGe (dCB (dFold min) (dCons (dOp dIx (dVar 0) (dC (.int 2))) dNil)) (dC (.int 1))) (dOp dLe (dCB (dFold max) (dCons (dOp dIx (dVar 0) (dC (.int 2))) dNil)) (dC (.int 3)))))) dNext) (r_law_good_2 cs)
def r_law_good (cs : Cs) : RS := dSeq (dIfS (dTest (dOp dEqA (dOp dIx (dVar 0) (dC (.int 0))) (dC (.str (Str.ofString "note"))))) (dRet (dCall (S_law_monoid cs) (dCons (dOp dIx (dVar 0) (dC (.int 2))) dNil))) dNext) (r_law_good_1 cs)

/-! _law_due: slots 0 _law_kernel 1 _law_layers 2 _law_names 3 _law_many 4 _law_at 5 _law_layer_here -/
def b_law_due_5 (cs : Cs) : RS := (dSeq (dSet 5 (dOp dIx (dVar 1) (dVar 4)))
    (dSeq (dIfS (dOr (dNot (dTruth (dCall (S_law_good cs) (dCons (dVar 5) dNil)))) (dTest (dInO false 2 (dOp dIx (dVar 5) (dC (.int 1)))))) (dRet (dOp dAddT (dVar 4) (dC (.int 1)))) dNext)
    (dSeq (dApp 2 (dOp dIx (dVar 5) (dC (.int 1))))
    (dIfS (dOr (dTest (dOp dEqA (dOp dIx (dVar 5) (dC (.int 0))) (dC (.str (Str.ofString "cell"))))) (dTest (dOp dEqA (dOp dIx (dVar 5) (dC (.int 0))) (dC (.str (Str.ofString "setting")))))) (dSet 3 (dOp (dIC CMulA fun i j => .int (i * j)) (dVar 3) (dOp dIx (dVar 5) (dC (.int 2))))) dNext))))
def r_law_due_5 (cs : Cs) : RS := (dRet (dNeg (dC (.int 1))))
def r_law_due_4 (cs : Cs) : RS := dSeq (dIfS (dTest (dOp dGt (dVar 3) (dC (.int 12)))) (dRet (dC (.int 0))) dNext) (r_law_due_5 cs)
def r_law_due_3 (cs : Cs) : RS := dSeq (dForR 4 [4, 5] (dCB dLen (dCons (dVar 1) dNil)) (b_law_due_5 cs)) (r_law_due_4 cs)
def r_law_due_2 (cs : Cs) : RS := dSeq (dSet 3 (dC (.int 1))) (r_law_due_3 cs)
def r_law_due_1 (cs : Cs) : RS := dSeq (dSetO 2 dNil) (r_law_due_2 cs)
def r_law_due (cs : Cs) : RS := dSeq (dIfS (dOr (dTest (dOp dEqA (dVar 0) (dC (.str (Str.ofString "chance"))))) (dTest (dOp dGt (dCB dLen (dCons (dVar 1) dNil)) (dC (.int 5))))) (dRet (dC (.int 0))) dNext) (r_law_due_1 cs)

/-! _law_lines: slots 0 _law_kernel 1 _law_layers 2 _law_lines_here 3 _law_layer_here 4 _law_words 5 _law_line 6 _law_member 7 _law_ways -/
def b_law_lines_5 (cs : Cs) : RS := (dApp 4 (dJoinL (dC (.str (Str.ofString ""))) (dFz (dLc [6] (dItems (dVar 5)) (tgN 6) dYes (dCB dStrA (dCons (dVar 6) dNil))))))
def b_law_lines_8 (cs : Cs) : RS := (dApp 4 (dCB dStrA (dCons (dVar 7) dNil)))
def b_law_lines_2 (cs : Cs) : RS := (dSeq (dSetO 4 (dCons (dOp dIx (dVar 3) (dC (.int 0))) (dCons (dOp dIx (dVar 3) (dC (.int 1))) dNil)))
    (dSeq (dIfS (dTest (dOp dEqA (dOp dIx (dVar 3) (dC (.int 0))) (dC (.str (Str.ofString "note"))))) (dFor 5 [5] (dOp dIx (dVar 3) (dC (.int 2))) (b_law_lines_5 cs)) (dIfS (dTest (dOp dEqA (dOp dIx (dVar 3) (dC (.int 0))) (dC (.str (Str.ofString "outside"))))) (dFor 7 [7] (dOp dIx (dVar 3) (dC (.int 2))) (b_law_lines_8 cs)) (dApp 4 (dCB dStrA (dCons (dOp dIx (dVar 3) (dC (.int 2))) dNil)))))
    (dApp 2 (dVar 4))))
def r_law_lines_2 (cs : Cs) : RS := (dRet (dVar 2))
def r_law_lines_1 (cs : Cs) : RS := dSeq (dFor 3 [3, 4] (dVar 1) (b_law_lines_2 cs)) (r_law_lines_2 cs)
def r_law_lines (cs : Cs) : RS := dSeq (dSetO 2 (dCons (dFz (dCons (dC (.str (Str.ofString "kernel"))) (dCons (dVar 0) dNil))) dNil)) (r_law_lines_1 cs)

/-! _law_book_is: slots 0 _law_book 1 _law_kernel 2 _law_layers 3 _law_at 4 _law_layer_here 5 _law_count 6 _law_a 7 _law_b -/
def b_law_book_is_18 (cs : Cs) : RS := (dIfS (dTest (dOp dNeA (dMeth cs.Book "product" (S_Book_product cs) (dVar 0) (dCons (dOp dAddT (dVar 3) (dC (.int 1))) (dCons (dVar 6) (dCons (dVar 7) dNil)))) (dOp dIx (dOp dIx (dOp dIx (dVar 4) (dC (.int 2))) (dVar 6)) (dVar 7)))) (dRet (dC (.bl false))) dNext)
def b_law_book_is_14 (cs : Cs) : RS := (dSeq (dIfS (dAnd (dTest (dOp dEqA (dOp dIx (dVar 4) (dC (.int 0))) (dC (.str (Str.ofString "outside"))))) (dTest (dOp dNeA (dMeth cs.Book "ways_at" (S_Book_ways_at cs) (dVar 0) (dCons (dOp dAddT (dVar 3) (dC (.int 1))) (dCons (dVar 6) dNil))) (dOp dIx (dOp dIx (dVar 4) (dC (.int 2))) (dVar 6))))) (dRet (dC (.bl false))) dNext)
    (dIfS (dTest (dOp dEqA (dOp dIx (dVar 4) (dC (.int 0))) (dC (.str (Str.ofString "note"))))) (dForR 7 [7] (dVar 5) (b_law_book_is_18 cs)) dNext))
def b_law_book_is_5 (cs : Cs) : RS := (dSeq (dSet 4 (dOp dIx (dVar 2) (dVar 3)))
    (dSeq (dIfS (dOr (dTest (dOp dNeA (dMeth cs.Book "number_of" (S_Book_number_of cs) (dVar 0) (dCons (dOp dIx (dVar 4) (dC (.int 1))) dNil)) (dOp dAddT (dVar 3) (dC (.int 1))))) (dTest (dOp dNeA (dMeth cs.Book "word_at" (S_Book_word_at cs) (dVar 0) (dCons (dOp dAddT (dVar 3) (dC (.int 1))) dNil)) (dOp dIx (dVar 4) (dC (.int 0)))))) (dRet (dC (.bl false))) dNext)
    (dSeq (dSet 5 (dOp dIx (dVar 4) (dC (.int 2))))
    (dSeq (dIfS (dOr (dTest (dOp dEqA (dOp dIx (dVar 4) (dC (.int 0))) (dC (.str (Str.ofString "note"))))) (dTest (dOp dEqA (dOp dIx (dVar 4) (dC (.int 0))) (dC (.str (Str.ofString "outside")))))) (dSet 5 (dCB dLen (dCons (dOp dIx (dVar 4) (dC (.int 2))) dNil))) dNext)
    (dSeq (dIfS (dOr (dNot (dTruth (dCall (S_law_is_integer cs) (dCons (dMeth cs.Book "count_at" (S_Book_count_at cs) (dVar 0) (dCons (dOp dAddT (dVar 3) (dC (.int 1))) dNil)) dNil)))) (dTest (dOp dNeA (dMeth cs.Book "count_at" (S_Book_count_at cs) (dVar 0) (dCons (dOp dAddT (dVar 3) (dC (.int 1))) dNil)) (dVar 5)))) (dRet (dC (.bl false))) dNext)
    (dForR 6 [6] (dVar 5) (b_law_book_is_14 cs)))))))
def r_law_book_is_3 (cs : Cs) : RS := (dRet (dC (.bl true)))
def r_law_book_is_2 (cs : Cs) : RS := dSeq (dForR 3 [3, 4, 5, 6] (dCB dLen (dCons (dVar 2) dNil)) (b_law_book_is_5 cs)) (r_law_book_is_3 cs)
def r_law_book_is_1 (cs : Cs) : RS := dSeq (dIfS (dOr (dNot (dTruth (dCall (S_law_is_integer cs) (dCons (dFld cs.Book "size" (dVar 0)) dNil)))) (dOr (dTest (dOp dNeA (dFld cs.Book "size" (dVar 0)) (dCB dLen (dCons (dVar 2) dNil)))) (dTest (dOp dNeA (dMeth cs.Book "number_of" (S_Book_number_of cs) (dVar 0) (dCons (dC (.str (Str.ofString "zyx"))) dNil)) (dC (.int 0)))))) (dRet (dC (.bl false))) dNext) (r_law_book_is_2 cs)
def r_law_book_is (cs : Cs) : RS := dSeq (dIfS (dOr (dTest (dOp dNeA (dFld cs.Book "kernel" (dVar 0)) (dVar 1))) (dOr (dNot (dTruth (dIsi "tuple" (dFld cs.Book "layers" (dVar 0))))) (dTest (dOp dNeA (dFld cs.Book "layers" (dVar 0)) (dTpl (dVar 2)))))) (dRet (dC (.bl false))) dNext) (r_law_book_is_1 cs)

/-! _law_fault: slots 0 _law_text 1 _law_line 2 _law_token 3 e -/
def t_law_fault_1 (cs : Cs) (Ψ1 : DXS) : RS := (dDrop (dCallX (S_read_book cs) Ψ1 (dCons (dVar 0) dNil)))
def u_law_fault_1_1 (cs : Cs) (a C : Addr) (fs : List (Str × D)) : RS := (dRet (dC (.bl false)))
def u_law_fault_1_0 (cs : Cs) (a C : Addr) (fs : List (Str × D)) : RS := (dRet (dAndV (dIsX a true (dVar 3)) (dAndV (dIsX a true (dVar 3)) (dAndV (dOp dEqA (dXf a fs "line" (dVar 3)) (dVar 1)) (dOp dEqA (dXf a fs "token" (dVar 3)) (dVar 2))))))
def r_law_fault_1 (cs : Cs) : RS := (dRet (dC (.bl false)))
def r_law_fault (cs : Cs) : RS := dSeq (dTryMix [([(cs.TextError, true), (cs.BookError, false)], some 3, u_law_fault_1_0 cs), ([(cs.TextError, true), (cs.BookError, true)], none, u_law_fault_1_1 cs)] (t_law_fault_1 cs) (flatX noX)) (r_law_fault_1 cs)

/-! _law_refused: slots 0 _law_kernel 1 _law_layers 2 _law_text 3 _law_due_here 4 _law_found 5 e -/
def t_law_refused_2 (cs : Cs) (Ψ1 : DXS) : RS := (dDrop (dMakeS cs.Book (S_Book_init cs) Ψ1 (dCons (dVar 0) (dCons (dFz (dLst (dVar 1))) dNil))))
def u_law_refused_2 (cs : Cs) (a C : Addr) (fs : List (Str × D)) : RS := (dSet 4 (dXf a fs "layer" (dVar 5)))
def t_law_refused_9 (cs : Cs) (Ψ1 : DXS) : RS := (dDrop (dCallX (S_read_book cs) Ψ1 (dCons (dVar 2) dNil)))
def u_law_refused_9_1 (cs : Cs) (a C : Addr) (fs : List (Str × D)) : RS := (dSet 4 (dNeg (dC (.int 2))))
def u_law_refused_9_0 (cs : Cs) (a C : Addr) (fs : List (Str × D)) : RS := (dSet 4 (dXf a fs "layer" (dVar 5)))
def r_law_refused_5 (cs : Cs) : RS := (dRet (dOp dEqA (dVar 4) (dVar 3)))
def r_law_refused_4 (cs : Cs) : RS := dSeq (dTryMix [([(cs.TextError, false), (cs.BookError, true)], some 5, u_law_refused_9_0 cs), ([(cs.TextError, true), (cs.BookError, true)], none, u_law_refused_9_1 cs)] (t_law_refused_9 cs) (flatX noX)) (r_law_refused_5 cs)
def r_law_refused_3 (cs : Cs) : RS := dSeq (dSet 4 (dNeg (dC (.int 1)))) (r_law_refused_4 cs)
def r_law_refused_2 (cs : Cs) : RS := dSeq (dIfS (dTest (dOp dNeA (dVar 4) (dVar 3))) (dRet (dC (.bl false))) dNext) (r_law_refused_3 cs)
def r_law_refused_1 (cs : Cs) : RS := dSeq (dTryAs [(cs.TextError, false), (cs.BookError, true)] 5 (t_law_refused_2 cs) (u_law_refused_2 cs) (flatX noX)) (r_law_refused_2 cs)
def r_law_refused (cs : Cs) : RS := dSeq (dSet 4 (dNeg (dC (.int 1)))) (r_law_refused_1 cs)

/-! _law_spoilt: slots 0 _law_lines_here 1 _law_text 2 _law_row_here 3 _law_line 4 _law_token 5 _law_words 6 _law_one -/
def r_law_spoilt_6 (cs : Cs) : RS := (dRet (dCall (S_law_fault cs) (dCons (dJoinL (dC (.str (Str.ofString "\n"))) (dFz (dLc [6] (dItems (dVar 5)) (tgN 6) dYes (dJoinL (dC (.str (Str.ofString " "))) (dVar 6))))) (dCons (dOp dAddT (dVar 3) (dC (.int 1))) (dCons (dOp dAddT (dVar 4) (dC (.int 1))) dNil)))))
def r_law_spoilt_5 (cs : Cs) : RS := dSeq (dIfS (dTest (dOp dEqA (dOp (dIC (fun _ j => 0 < j) fun i j => .int (i % j)) (dIxR (dVar 2) (dC (.int 2))) (dC (.int 4))) (dC (.int 2)))) (dStoM (dC (.str (Str.ofString "A"))) (dIxR (dVar 5) (dVar 3)) (dVar 4)) (dStoM (dOp dAddT (dC (.str (Str.ofString " "))) (dIxR (dIxR (dVar 5) (dVar 3)) (dVar 4))) (dIxR (dVar 5) (dVar 3)) (dVar 4))) (r_law_spoilt_6 cs)
def r_law_spoilt_4 (cs : Cs) : RS := dSeq (dIfS (dTest (dOp dEqA (dOp (dIC (fun _ j => 0 < j) fun i j => .int (i % j)) (dIxR (dVar 2) (dC (.int 2))) (dC (.int 4))) (dC (.int 1)))) (dRet (dCall (S_law_fault cs) (dCons (dOp dAddT (dVar 1) (dC (.str (Str.ofString " ")))) (dCons (dCB dLen (dCons (dVar 0) dNil)) (dCons (dOp dAddT (dCB dLen (dCons (dIxR (dVar 0) (dNeg (dC (.int 1)))) dNil)) (dC (.int 1))) dNil))))) dNext) (r_law_spoilt_5 cs)
def r_law_spoilt_3 (cs : Cs) : RS := dSeq (dIfS (dTest (dOp dEqA (dOp (dIC (fun _ j => 0 < j) fun i j => .int (i % j)) (dIxR (dVar 2) (dC (.int 2))) (dC (.int 4))) (dC (.int 0)))) (dRet (dCall (S_law_fault cs) (dCons (dOp dAddT (dVar 1) (dC (.str (Str.ofString "\n")))) (dCons (dOp dAddT (dCB dLen (dCons (dVar 0) dNil)) (dC (.int 1))) (dCons (dC (.int 1)) dNil))))) dNext) (r_law_spoilt_4 cs)
def r_law_spoilt_2 (cs : Cs) : RS := dSeq (dSet 5 (dFz (dLc [6] (dItems (dVar 0)) (tgN 6) dYes (dNewM (dLst (dVar 6)))))) (r_law_spoilt_3 cs)
def r_law_spoilt_1 (cs : Cs) : RS := dSeq (dSet 4 (dOp (dIC (fun _ j => 0 < j) fun i j => .int (i % j)) (dIxR (dVar 2) (dC (.int 1))) (dCB dLen (dCons (dIxR (dVar 0) (dVar 3)) dNil)))) (r_law_spoilt_2 cs)
def r_law_spoilt (cs : Cs) : RS := dSeq (dSet 3 (dOp (dIC (fun _ j => 0 < j) fun i j => .int (i % j)) (dIxR (dVar 2) (dC (.int 0))) (dCB dLen (dCons (dVar 0) dNil)))) (r_law_spoilt_1 cs)

/-! law: slots 0 _law_script 1 _law_row_here 2 _law_kernel 3 _law_layers 4 _law_before 5 _law_at 6 _law_lines_here 7 _law_text 8 _law_one 9 _law_due_here 10 _law_book 11 _law_twin 12 _law_many -/
def b_law_7 (cs : Cs) : RS := (dSeq (dApp 3 (dCall (S_law_layer cs) (dCons (dCall S_law_row (dCons (dVar 0) (dCons (dOp dAddT (dC (.int 1)) (dVar 5)) (dCons (dC (.int 8)) dNil)))) (dCons (dVar 4) dNil))))
    (dSet 4 (dOp dIx (dIxO 3 (dNeg (dC (.int 1)))) (dC (.int 1)))))
def r_law_11 (cs : Cs) : RS := (dRet (dC (.bl true)))
def r_law_10 (cs : Cs) : RS := dSeq (dIfS (dAnd (dTest (dOp dEqA (dOp (dIC (fun _ j => 0 < j) fun i j => .int (i % j)) (dOp dIx (dVar 1) (dC (.int 3))) (dC (.int 2))) (dC (.int 0)))) (dTest (dOp dNeA (dVar 2) (dC (.str (Str.ofString "chance")))))) (dRet (dCall (S_law_spoilt cs) (dCons (dVar 6) (dCons (dVar 7) (dCons (dCall S_law_row (dCons (dVar 0) (dCons (dC (.int 7)) (dCons (dC (.int 3)) dNil)))) dNil))))) dNext) (r_law_11 cs)
def r_law_9 (cs : Cs) : RS := dSeq (dIfS (dTest (dOp dEqA (dVar 2) (dC (.str (Str.ofString "chance"))))) (dIfS (dNot (dTruth (dCall (S_law_fault cs) (dCons (dVar 7) (dCons (dC (.int 1)) (dCons (dC (.int 2)) dNil)))))) (dRet (dC (.bl false))) dNext) (dIfS (dTest (dOp dGe (dVar 9) (dC (.int 0)))) (dIfS (dNot (dTruth (dCall (S_law_refused cs) (dCons (dVar 2) (dCons (dVar 3) (dCons (dVar 7) (dCons (dVar 9) dNil))))))) (dRet (dC (.bl false))) dNext) (dSeq (dSet 10 (dCallX (S_read_book cs) (flatX noX) (dCons (dVar 7) dNil)))
      (dSeq (dSet 11 (dMakeX cs.Book (S_Book_init cs) noX (dCons (dVar 2) (dCons (dFz (dLst (dVar 3))) dNil))))
      (dSeq (dIfS (dOr (dNot (dTruth (dCall (S_law_book_is cs) (dCons (dVar 10) (dCons (dVar 2) (dCons (dVar 3) dNil)))))) (dNot (dTruth (dCall (S_law_book_is cs) (dCons (dVar 11) (dCons (dVar 2) (dCons (dVar 3) dNil))))))) (dRet (dC (.bl false))) dNext)
      (dSeq (dIfS (dOr (dTest (dOp dNeA (dCall (S_write_book cs) (dCons (dVar 10) dNil)) (dVar 7))) (dOr (dTest (dOp dNeA (dCall (S_write_book cs) (dCons (dVar 11) dNil)) (dVar 7))) (dTest (dOp dNotB (dCall (S_like_books cs) (dCons (dVar 10) (dCons (dVar 11) dNil))) (dC (.bl true)))))) (dRet (dC (.bl false))) dNext)
      (dSeq (dSet 12 (dDispC [(.inr "none", .int 0), (.inr "choose", .int 1), (.inr "draw", .int 10), (.inr "spread", .int 11), (.inr "twochoose", .int 2), (.inr "twodraw", .int 20), (.inr "mixed", .int 11)]))
      (dIfS (dTest (dOp dNeA (dOp dAddT (dCall (S_choices cs) (dCons (dVar 2) dNil)) (dOp (dIC CMulA fun i j => .int (i * j)) (dC (.int 10)) (dCall (S_draws cs) (dCons (dVar 2) dNil)))) (dItem (dVar 12) (dVar 2)))) (dRet (dC (.bl false))) dNext)))))))) (r_law_10 cs)
def r_law_8 (cs : Cs) : RS := dSeq (dSet 9 (dCall (S_law_due cs) (dCons (dVar 2) (dCons (dVar 3) dNil)))) (r_law_9 cs)
def r_law_7 (cs : Cs) : RS := dSeq (dSet 7 (dJoinL (dC (.str (Str.ofString "\n"))) (dFz (dLc [8] (dItems (dVar 6)) (tgN 8) dYes (dJoinL (dC (.str (Str.ofString " "))) (dVar 8)))))) (r_law_8 cs)
def r_law_6 (cs : Cs) : RS := dSeq (dSet 6 (dCall (S_law_lines cs) (dCons (dVar 2) (dCons (dVar 3) dNil)))) (r_law_7 cs)
def r_law_5 (cs : Cs) : RS := dSeq (dForR 5 [5] (dOp dIx (dFz (dCons (dC (.int 0)) (dCons (dC (.int 1)) (dCons (dC (.int 2)) (dCons (dC (.int 3)) (dCons (dC (.int 4)) (dCons (dC (.int 5)) (dCons (dC (.int 3)) (dCons (dC (.int 4)) (dCons (dC (.int 5)) (dCons (dC (.int 2)) (dCons (dC (.int 3)) (dCons (dC (.int 6)) dNil))))))))))))) (dOp (dIC (fun _ j => 0 < j) fun i j => .int (i % j)) (dOp dIx (dVar 1) (dC (.int 2))) (dC (.int 12)))) (b_law_7 cs)) (r_law_6 cs)
def r_law_4 (cs : Cs) : RS := dSeq (dSet 4 (dC (.str (Str.ofString "")))) (r_law_5 cs)
def r_law_3 (cs : Cs) : RS := dSeq (dSetO 3 dNil) (r_law_4 cs)
def r_law_2 (cs : Cs) : RS := dSeq (dIfS (dTest (dOp dEqA (dOp (dIC (fun _ j => 0 < j) fun i j => .int (i % j)) (dOp dIx (dVar 1) (dC (.int 1))) (dC (.int 12))) (dC (.int 0)))) (dSet 2 (dC (.str (Str.ofString "chance")))) dNext) (r_law_3 cs)
def r_law_1 (cs : Cs) : RS := dSeq (dSet 2 (dOp dIx (dFz (dCons (dC (.str (Str.ofString "none"))) (dCons (dC (.str (Str.ofString "choose"))) (dCons (dC (.str (Str.ofString "draw"))) (dCons (dC (.str (Str.ofString "spread"))) (dCons (dC (.str (Str.ofString "twochoose"))) (dCons (dC (.str (Str.ofString "twodraw"))) (dCons (dC (.str (Str.ofString "mixed"))) dNil)))))))) (dOp (dIC (fun _ j => 0 < j) fun i j => .int (i % j)) (dOp dIx (dVar 1) (dC (.int 0))) (dC (.int 7))))) (r_law_2 cs)
def r_law (cs : Cs) : RS := dSeq (dSet 1 (dCall S_law_row (dCons (dVar 0) (dCons (dC (.int 0)) (dCons (dC (.int 8)) dNil))))) (r_law_1 cs)
end My

set_option Elab.async false
set_option linter.all false
set_option maxRecDepth 100000
set_option maxHeartbeats 4000000
namespace My
open PySem PySem.Spec PyProof.Rows L2 DL
open Evl (Ex)
theorem ff {P : Prop} (h : false = true) : P := Bool.noConfusion h
theorem tf {P : Prop} (h : true = false) : P := Bool.noConfusion h
def TokOk (ts : List (List Nat)) : Prop := ts.length ≤ BL ∧ ∀ t ∈ ts, t.length ≤ BL
theorem nin {k : Nat} {z : Str} {w : List Nat} (hz : z.cps.toList = w) (h : (!decide (k ∈ z.cps.toList)) = true) : k ∉ w := by rw [hz] at h; simpa using h
theorem nin' {k : Nat} {z : Str} {w : List Nat} (hz : z.cps.toList = w) (h : (!decide (k ∈ z.cps.toList)) = false) : k ∈ w := by rw [hz] at h; simpa using h
theorem isin {k : Nat} {z : Str} {w : List Nat} (hz : z.cps.toList = w) (h : decide (k ∈ z.cps.toList) = true) : k ∈ w := by rw [hz] at h; simpa using h
theorem isin' {k : Nat} {z : Str} {w : List Nat} (hz : z.cps.toList = w) (h : decide (k ∈ z.cps.toList) = false) : k ∉ w := by rw [hz] at h; simpa using h
theorem stops_iff {c : Nat} : stops c = true ↔ c ∈ [32, 40, 41] := by
  unfold stops
  simp [or_assoc]
theorem last_at {fs : List (List Nat)} {t : List Nat} (h : fs.getLast? = some t) : atI (WS fs) (-1) = some (W t) := by
  have hn : fs ≠ [] := fun z => by rw [z] at h; cases h
  have hp : 0 < fs.length := List.length_pos_iff.mpr hn
  unfold atI ixN
  have hl : (WS fs).length = fs.length := by unfold WS; rw [List.length_map]
  rw [hl, if_neg (by decide), if_pos (by omega)]
  show (WS fs)[((-1 : Int) + (fs.length : Int)).toNat]? = _
  rw [show ((-1 : Int) + (fs.length : Int)).toNat = fs.length - 1 by omega]
  unfold WS
  rw [List.getElem?_map, ← List.getLast?_eq_getElem?, h] <;> rfl
theorem WS_empty {fs : List (List Nat)} : (WS fs).isEmpty = fs.isEmpty := by cases fs <;> rfl
theorem red_token_begin (cs : Cs) : ∀ ds M Φ Ψ, S_token_begin cs ds M Φ Ψ → r_token_begin cs (ends Φ) (startD 4 ds) M := by
  rintro ds M Φ Ψ ⟨l, i, p, fs, rfl, hM, hi, hl, q1, q2⟩
  have hz := st_sz hl
  refine ⟨hz, _, ix_sg hi, ?_⟩
  have A : opens fs = true → (dRet (dIf (dTest (dOp dEqA (dVar 3) (dC (.str (Str.ofString " "))))) (dNeg (dC (.int 1))) (dVar 1))) (ends Φ) [.d (W l), .d (.int (i : Nat)), .d (.ref p), .d (W [sg l i])] M := by
    intro o
    refine ⟨fun h => ?_, fun h => ?_⟩
    · have c := (List.cons.inj (eqT l_sp h)).1
      refine q2 ?_
      unfold begN
      rw [if_pos o, if_pos c]
    · have c : sg l i ≠ 32 := fun z => eqF l_sp h (by rw [z])
      refine q1 i ?_
      unfold begN
      rw [if_pos o, if_neg c]
  have B : opens fs = false → r_token_begin_2 cs (ends Φ) [.d (W l), .d (.int (i : Nat)), .d (.ref p), .d (W [sg l i])] M := by
    intro o
    have o' : ¬ opens fs = true := by rw [o]; decide
    refine ⟨fun h => ?_, fun h => ?_⟩
    · have c := (List.cons.inj (eqT l_cl h)).1
      refine q1 i ?_
      unfold begN
      rw [if_neg o', if_pos c]
    · have c : sg l i ≠ 41 := fun z => eqF l_cl h (by rw [z])
      have no : (¬ (sg l i = 32 ∧ i + 1 < l.length ∧ sg l (i + 1) ≠ 32 ∧ sg l (i + 1) ≠ 41)) → Φ (.int (-1)) M := fun n => by
        refine q2 ?_
        unfold begN
        rw [if_neg o', if_neg c, if_neg n]
      refine ⟨fun h => ?_, fun h => no fun z => eqF l_sp h (by rw [z.1])⟩
      have c1 := (List.cons.inj (eqT l_sp h)).1
      refine ⟨hz, fun h => ?_, fun h => no fun z => of_decide_eq_false h ?_⟩
      · have c2 := of_decide_eq_true h
        rw [st_len] at c2
        have c2' : i + 1 < l.length := by omega
        refine ⟨hz, _, ix_sg (i := i + 1) c2', _, rfl, fun h => ?_, fun h => no fun z => ?_⟩
        · have c3 : sg l (i + 1) ∉ [32, 41] := nin c_cl h
          refine q1 (i + 1) ?_
          unfold begN
          rw [if_neg o', if_neg c, if_pos ⟨c1, c2', fun z => c3 (by rw [z]; simp), fun z => c3 (by rw [z]; simp)⟩]
        · have c3 : sg l (i + 1) ∈ [32, 41] := nin' c_cl h
          rcases List.mem_cons.mp c3 with e | e
          · exact z.2.2.1 e
          · exact z.2.2.2 (List.mem_singleton.mp e)
      · rw [st_len]
        have := z.2.1
        omega
  cases hg : fs.getLast? with
  | none =>
    have e : fs = [] := List.getLast?_eq_none_iff.mp hg
    have o : opens fs = true := by unfold opens; rw [hg]
    subst e
    exact ⟨_, hM, ff, fun _ => A o⟩
  | some t =>
    have hne : (WS fs).isEmpty = false := by
      rw [WS_empty]
      cases fs with
      | nil => cases hg
      | cons _ _ => rfl
    refine ⟨_, hM, fun _ => ?_, fun h => ?_⟩
    · refine ⟨_, hM, _, last_at hg, fun h => ?_, fun h => ?_⟩
      · refine A ?_
        unfold opens
        rw [hg, eqT l_op h]
        rfl
      · refine B ?_
        unfold opens
        rw [hg]
        exact beq_false_of_ne (eqF l_op h)
    · rw [hne] at h
      cases h
theorem run_stop {l : List Nat} {i : Nat} (h : i < l.length) (hs : stops (sg l i) = true) : runN l i = 0 := by
  unfold runN
  rw [drop_sg h, List.takeWhile_cons_of_neg (by rw [hs]; decide)] <;> rfl
theorem run_go {l : List Nat} {i : Nat} (h : i < l.length) (hs : stops (sg l i) = false) : runN l i = runN l (i + 1) + 1 := by
  unfold runN
  rw [drop_sg h, List.takeWhile_cons_of_pos (by rw [hs]; decide)] <;> rfl
theorem run_end {l : List Nat} {i : Nat} (h : l.length ≤ i) : runN l i = 0 := by
  unfold runN
  rw [List.drop_eq_nil_of_le h] <;> rfl
theorem red_token_end (cs : Cs) : ∀ ds M Φ Ψ, S_token_end cs ds M Φ Ψ → r_token_end cs (ends Φ) (startD 3 ds) M := by
  rintro ds M Φ Ψ ⟨l, b, rfl, hb, hl, q⟩
  have hz := st_sz hl
  refine ⟨hz, _, ix_sg hb, _, rfl, fun h => ?_, fun h => ?_⟩
  · have c : sg l b ∈ [40, 41] := isin c_op h
    have e : endN l b = b + 1 := by
      unfold endN
      rw [if_pos]
      rcases List.mem_cons.mp c with e | e
      · exact .inl e
      · exact .inr (List.mem_singleton.mp e)
    rw [e] at q
    exact q
  · have c : sg l b ∉ [40, 41] := isin' c_op h
    have e : endN l b = b + 1 + runN l (b + 1) := by
      unfold endN
      rw [if_neg]
      rintro (z | z)
      · exact c (by rw [z]; simp)
      · exact c (by rw [z]; simp)
    refine ⟨fun m Δ M' => M' = M ∧ ∃ e : Nat, Δ = [.d (W l), .d (.int (b : Nat)), .d (.int (e : Nat))] ∧ m = l.length - e ∧ b + 1 ≤ e ∧ e ≤ l.length ∧ e + runN l e = b + 1 + runN l (b + 1), ⟨_, rfl, b + 1, rfl, rfl, Nat.le_refl _, hb, rfl⟩, ?_⟩
    rintro m Δ1 M1 ⟨rfl, k, rfl, rfl, k1, k2, k3⟩
    have stop : runN l k = 0 → Φ (.int (k : Nat)) M1 := fun z => by
      have : endN l b = k := by omega
      rw [this] at q
      exact q
    refine ⟨hz, fun h => ?_, fun h => ?_⟩
    · have h := of_decide_eq_true h
      rw [st_len] at h
      have hk : k < l.length := by omega
      refine ⟨hz, _, ix_sg hk, _, rfl, fun h => ?_, fun h => ?_⟩
      · have c : sg l k ∉ [32, 40, 41] := nin c_sp h
        have hs : stops (sg l k) = false := by
          cases z : stops (sg l k) with
          | false => rfl
          | true => exact absurd (stops_iff.mp z) c
        have r := run_go hk hs
        exact ⟨_, show l.length - (k + 1) < l.length - k by omega, rfl, k + 1, rfl, rfl, by omega, by omega, by omega⟩
      · exact stop (run_stop hk (stops_iff.mpr (nin' c_sp h)))
    · have h := of_decide_eq_false h
      rw [st_len] at h
      exact stop (run_end (by omega))
theorem scan_fuel (l : List Nat) : ∀ (k k' i : Nat) (fs : List (List Nat)), i ≤ l.length → l.length < k + i → l.length < k' + i → scanN l k i fs = scanN l k' i fs := by
  intro k
  induction k with
  | zero => intro k' i fs h1 h2; omega
  | succ k ih =>
    intro k' i fs h1 h2 h3
    match k', h3 with
    | 0, h3 => omega
    | k' + 1, h3 =>
      unfold scanN
      by_cases hi : i < l.length
      · rw [if_pos hi, if_pos hi]
        cases hb : begN l i (opens fs) with
        | none => rfl
        | some b =>
          dsimp only
          have : i ≤ b ∧ b < l.length := by
            unfold begN at hb
            split at hb
            · split at hb
              · cases hb
              · cases hb; exact ⟨Nat.le_refl _, hi⟩
            · split at hb
              · cases hb; exact ⟨Nat.le_refl _, hi⟩
              · split at hb
                · rename_i hc
                  cases hb
                  exact ⟨by omega, hc.2.1⟩
                · cases hb
          have e := endN_le this.2
          exact ih k' _ _ e.2 (by omega) (by omega)
      · rw [if_neg hi, if_neg hi]
theorem beg_le {l : List Nat} {i b : Nat} {o : Bool} (hi : i < l.length) (hb : begN l i o = some b) : i ≤ b ∧ b < l.length := by
  unfold begN at hb
  split at hb
  · split at hb
    · cases hb
    · cases hb; exact ⟨Nat.le_refl _, hi⟩
  · split at hb
    · cases hb; exact ⟨Nat.le_refl _, hi⟩
    · split at hb
      · rename_i hc
        cases hb
        exact ⟨by omega, hc.2.1⟩
      · cases hb
theorem cut_st {l : List Nat} {a b : Nat} (h : b ≤ l.length) (hab : a ≤ b) : cutS (st l) (some (a : Int)) (some (b : Int)) = st ((l.drop a).take (b - a)) := by
  unfold cutS
  rw [HT.sIx_nat, HT.sIx_nat, st_len, Nat.min_eq_left (show a ≤ l.length by omega), Nat.min_eq_left h] <;> rfl
theorem WS_snoc {fs : List (List Nat)} {t : List Nat} : WS fs ++ [W t] = WS (fs ++ [t]) := by
  unfold WS
  rw [List.map_append] <;> rfl
theorem WS_len {fs : List (List Nat)} : (WS fs).length = fs.length := by
  unfold WS
  rw [List.length_map]
theorem red_tokens_of (cs : Cs) : ∀ ds M Φ Ψ, S_tokens_of cs ds M Φ Ψ → r_tokens_of cs Ψ (ends Φ) (startD 5 ds) M := by
  rintro ds M Φ Ψ ⟨l, n, rfl, hl, q1, q2⟩
  have hz := st_sz hl
  refine fun p hp => ?_
  refine ⟨fun m Δ M' => ∃ (i : Nat) (fs : List (List Nat)), Δ = [.d (W l), .d (.int n), .d (.ref p), .d (.int (i : Nat)), .un] ∧ M' = updM M p (.lst (WS fs)) ∧ i ≤ l.length ∧ fs.length ≤ i ∧ m = l.length - i ∧ scanN l (l.length + 1 - i) i fs = scan l,
    ⟨_, 0, [], rfl, rfl, Nat.zero_le _, Nat.le_refl _, rfl, rfl⟩, ?_⟩
  rintro m Δ1 M1 ⟨i, fs, rfl, rfl, hi, hf, rfl, hs⟩
  refine ⟨hz, fun h => ?_, fun h => ?_⟩
  · have h := of_decide_eq_true h
    rw [st_len] at h
    have hlt : i < l.length := by omega
    have hs' := hs
    obtain ⟨k, hk⟩ : ∃ k, l.length + 1 - i = k + 1 := ⟨l.length - i, by omega⟩
    rw [hk] at hs'
    unfold scanN at hs'
    rw [if_pos hlt] at hs'
    refine ⟨l, i, p, fs, rfl, updM_same, hlt, hl, fun b hb => ?_, fun hb => ?_⟩
    · rw [hb] at hs'
      dsimp only at hs'
      obtain ⟨b1, b2⟩ := beg_le hlt hb
      obtain ⟨e1, e2⟩ := endN_le b2
      refine ⟨fun z => absurd (of_decide_eq_true z) (by omega), fun _ => ?_⟩
      refine ⟨l, b, rfl, b2, hl, ?_⟩
      refine ⟨⟨_, updM_same⟩, hz, ?_⟩
      rw [cut_st e2 (by omega)]
      refine ⟨_, updM_same, ?_, ?_⟩
      · rw [WS_len]
        have := BL_size
        omega
      · refine ⟨l.length - endN l b, by omega, endN l b, fs ++ [tokN l b], rfl, ?_, e2, ?_, rfl, ?_⟩
        · rw [updM_updM, ← WS_snoc] <;> rfl
        · rw [List.length_append]
          show fs.length + 1 ≤ _
          omega
        · rw [← hs']
          exact scan_fuel l _ _ _ _ e2 (by omega) (by omega)
    · rw [hb] at hs'
      refine ⟨fun _ => ?_, fun z => absurd (show ((-1 : Int) < 0) by decide) (of_decide_eq_false z)⟩
      refine ⟨_, updM_same, rfl, ?_⟩
      rw [WS_len]
      have e2 : (scan l).2 = fs.length + 1 := by rw [← hs']
      have := q2 (by omega) (updM M p (.lst (WS fs)))
      rw [e2] at this
      exact this
  · have h := of_decide_eq_false h
    rw [st_len] at h
    have e : i = l.length := by omega
    have hs' : (fs, 0) = scan l := by
      rw [← hs, e, show l.length + 1 - l.length = 1 by omega]
      unfold scanN
      rw [if_neg (by omega)]
    have := q1 (by rw [← hs']) p hp
    rw [← hs'] at this
    exact this
theorem scan_ok {l : List Nat} (h : l.length ≤ BL) : ∀ (k i : Nat) (fs : List (List Nat)), i ≤ l.length → fs.length ≤ i → (∀ t ∈ fs, t.length ≤ l.length) → (scanN l k i fs).1.length ≤ l.length ∧ ∀ t ∈ (scanN l k i fs).1, t.length ≤ l.length := by
  intro k
  induction k with
  | zero => intro i fs h1 h2 h3; exact ⟨by show fs.length ≤ _; omega, h3⟩
  | succ k ih =>
    intro i fs h1 h2 h3
    unfold scanN
    by_cases hi : i < l.length
    · rw [if_pos hi]
      cases hb : begN l i (opens fs) with
      | none => exact ⟨by show fs.length ≤ _; omega, h3⟩
      | some b =>
        dsimp only
        obtain ⟨b1, b2⟩ := beg_le hi hb
        obtain ⟨e1, e2⟩ := endN_le b2
        refine ih _ _ e2 ?_ ?_
        · rw [List.length_append]
          show fs.length + 1 ≤ _
          omega
        · intro t ht
          rcases List.mem_append.mp ht with ht | ht
          · exact h3 t ht
          · rw [List.mem_singleton.mp ht]
            unfold tokN
            rw [List.length_take, List.length_drop]
            omega
    · rw [if_neg hi]
      exact ⟨by show fs.length ≤ _; omega, h3⟩
theorem scan_tok {l : List Nat} (h : l.length ≤ BL) : TokOk (scan l).1 := by
  obtain ⟨a, b⟩ := scan_ok h (l.length + 1) 0 [] (Nat.zero_le _) (Nat.le_refl _) (fun _ z => by cases z)
  exact ⟨Nat.le_trans a h, fun t ht => Nat.le_trans (b t ht) h⟩
/-! ### words of numbers, names -/
theorem dig_asc : ((List.range 128).all fun c => Unicode.isDigit c == isDig c) = true := by decide +kernel
theorem low_asc : ((List.range 128).all fun c => (Unicode.isAlpha c && Unicode.isLower c && !(Unicode.isUpper c || Unicode.isTitle c)) == (decide (97 ≤ c) && decide (c ≤ 122))) = true := by decide +kernel
theorem asc_st (t : List Nat) : Txt.isascii (st t) = t.all (· < 128) := by
  unfold Txt.isascii st
  simp
theorem dgt_st (t : List Nat) : Txt.isdigit (st t) = (decide (0 < t.length) && t.all Unicode.isDigit) := by
  unfold Txt.isdigit
  rw [st_len]
  unfold st
  simp
theorem alp_st (t : List Nat) : Txt.isalpha (st t) = (decide (0 < t.length) && t.all Unicode.isAlpha) := by
  unfold Txt.isalpha
  rw [st_len]
  unfold st
  simp
theorem low_st (t : List Nat) : Txt.islower (st t) = (t.any Unicode.isLower && !t.any fun c => Unicode.isUpper c || Unicode.isTitle c) := by
  unfold Txt.islower st
  simp
theorem low1 : ((List.range 128).all fun c => (Unicode.isAlpha c && !(Unicode.isUpper c || Unicode.isTitle c)) == (decide (97 ≤ c) && decide (c ≤ 122))) = true := by decide +kernel
theorem low2 : ((List.range 128).all fun c => !(decide (97 ≤ c) && decide (c ≤ 122)) || Unicode.isLower c) = true := by decide +kernel
theorem asc_all {t : List Nat} (h : t.all (· < 128) = true) : ∀ c ∈ t, c < 128 := fun c hc => of_decide_eq_true (List.all_eq_true.mp h c hc)
theorem red_is_digits (cs : Cs) : ∀ ds M Φ Ψ, S_is_digits cs ds M Φ Ψ → r_is_digits cs (ends Φ) (startD 1 ds) M := by
  rintro ds M Φ Ψ ⟨t, rfl, q⟩
  refine ⟨fun h => ?_, fun h => ?_⟩
  · rw [asc_st] at h
    have ha := asc_all h
    have e : Txt.isdigit (st t) = digsOk t := by
      rw [dgt_st]
      unfold digsOk
      have e1 : t.all Unicode.isDigit = t.all isDig := by
        rw [Bool.eq_iff_iff, List.all_eq_true, List.all_eq_true]
        constructor
        · intro z c hc
          rw [← eq_of_beq (all_range dig_asc (ha c hc))]
          exact z c hc
        · intro z c hc
          rw [eq_of_beq (all_range dig_asc (ha c hc))]
          exact z c hc
      rw [e1]
      congr 1
      rw [decide_eq_decide, List.length_pos_iff]
    show Φ (.bl (Txt.isdigit (st t))) M
    rw [e]
    exact q
  · rw [asc_st] at h
    have e : digsOk t = false := by
      unfold digsOk
      rw [Bool.and_eq_false_iff]
      right
      rw [Bool.eq_false_iff]
      intro z
      rw [Bool.eq_false_iff] at h
      refine h (List.all_eq_true.mpr fun c hc => ?_)
      have := List.all_eq_true.mp z c hc
      unfold isDig at this
      rw [Bool.and_eq_true, decide_eq_true_iff, decide_eq_true_iff] at this
      exact decide_eq_true (by omega)
    rw [e] at q
    exact q
theorem numI_neg {t : List Nat} (h : numT t = none) : numI t = -1 := by unfold numI; rw [h]
theorem digsOk_iff {t : List Nat} : digsOk t = true ↔ t ≠ [] ∧ t.all isDig = true := by
  unfold digsOk
  rw [Bool.and_eq_true, decide_eq_true_iff]
theorem numT_int {t : List Nat} {v : Nat} (h : numT t = some v) : PySem.intText? (st t) = some ((v : Nat) : Int) := by
  obtain ⟨h1, h2⟩ := numT_some h
  have e : st t = Str.ofString (toString ((v : Nat) : Int)) := str_of_toList h1.symm
  rw [e]
  exact PySem.W.KIN.num_reads (by omega) (by omega)
theorem red_whole_in (cs : Cs) : ∀ ds M Φ Ψ, S_whole_in cs ds M Φ Ψ → r_whole_in cs (ends Φ) (startD 2 ds) M := by
  rintro ds M Φ Ψ ⟨t, rfl, hl, q⟩
  have hz := st_sz hl
  have no : numT t = none → Φ (.int (-1)) M := fun h => by
    rw [numI_neg h] at q
    exact q
  have nt : ¬ (t ≠ [] ∧ t.length ≤ 3 ∧ t.all isDig = true ∧ (sg t 0 = 48 → t.length = 1)) → numT t = none := fun h => by
    unfold numT
    rw [if_neg h]
  refine ⟨t, rfl, fun h => ?_, fun h => no (nt fun z => ?_)⟩
  · obtain ⟨h1, h2⟩ := digsOk_iff.mp h
    have hp : 0 < t.length := List.length_pos_iff.mpr h1
    refine ⟨hz, fun h3 => no (nt fun z => ?_), fun h3 => ?_⟩
    · have h3 := of_decide_eq_true h3
      rw [st_len] at h3
      omega
    · have h3 := of_decide_eq_false h3
      rw [st_len] at h3
      have last : (sg t 0 = 48 → t.length = 1) → r_whole_in_2 cs (ends Φ) [.d (W t), .d (.int 3)] M := fun h4 => by
        have e : numT t = some (valN t) := by
          unfold numT
          rw [if_pos ⟨h1, by omega, h2, h4⟩]
        refine ⟨_, numT_int e, ?_, ?_⟩
        · rw [st_len]; omega
        · have : numI t = ((valN t : Nat) : Int) := by unfold numI; rw [e]
          rw [this] at q
          exact q
      refine ⟨hz, _, ix_sg (i := 0) hp, fun h4 => ?_, fun h4 => last fun z => absurd z ?_⟩
      · have h5 : sg t 0 = 48 := (List.cons.inj (eqT l_0 h4)).1
        refine ⟨fun h6 => no (nt fun z => ?_), fun h6 => last fun _ => ?_⟩
        · have h7 : decide (st t = Str.ofString "0") = false := by simpa using h6
          refine eqF l_0 h7 ?_
          match t, z.2.2.2 h5, h5 with
          | [a], _, h5 => rw [show a = 48 from h5]
        · have h7 : decide (st t = Str.ofString "0") = true := by simpa using h6
          rw [eqT l_0 h7] <;> rfl
      · have : decide (st [sg t 0] = Str.ofString "0") = false := h4
        exact fun z => eqF l_0 this (by rw [z])
  · rw [digsOk_iff.mpr ⟨z.1, z.2.2.1⟩] at h
    cases h
theorem red_number_in (cs : Cs) : ∀ ds M Φ Ψ, S_number_in cs ds M Φ Ψ → r_number_in cs (ends Φ) (startD 1 ds) M := by
  rintro ds M Φ Ψ ⟨t, rfl, hl, q⟩
  exact ⟨t, rfl, hl, q⟩
theorem red_is_name (cs : Cs) : ∀ ds M Φ Ψ, S_is_name cs ds M Φ Ψ → r_is_name cs (ends Φ) (startD 1 ds) M := by
  rintro ds M Φ Ψ ⟨t, rfl, hl, q⟩
  have no : nameOk t = false → Φ (.bl false) M := fun h => by
    rw [h] at q
    exact q
  refine ⟨st_sz hl, fun h => ?_, fun h => no ?_⟩
  · have h := of_decide_eq_true h
    rw [st_len] at h
    have h6 : t.length ≤ 6 := by omega
    refine ⟨fun ha => ?_, fun ha => no ?_⟩
    · rw [asc_st] at ha
      have ha := asc_all ha
      refine ⟨fun hb => ?_, fun hb => no ?_⟩
      · rw [alp_st, Bool.and_eq_true, decide_eq_true_iff, List.all_eq_true] at hb
        have e : Txt.islower (st t) = nameOk t := by
          rw [low_st]
          unfold nameOk
          rw [decide_eq_true (show 1 ≤ t.length from hb.1), decide_eq_true h6, Bool.true_and, Bool.true_and, Bool.eq_iff_iff, Bool.and_eq_true, Bool.not_eq_true', Bool.eq_false_iff]
          unfold lowOk
          rw [List.all_eq_true]
          constructor
          · rintro ⟨_, z⟩ c hc
            have f := eq_of_beq (all_range low1 (ha c hc))
            rw [← f, hb.2 c hc, Bool.true_and, Bool.not_eq_true', Bool.eq_false_iff]
            exact fun w => z (List.any_eq_true.mpr ⟨c, hc, w⟩)
          · intro z
            constructor
            · obtain ⟨c, hc⟩ := List.exists_mem_of_length_pos hb.1
              refine List.any_eq_true.mpr ⟨c, hc, ?_⟩
              have f := all_range low2 (ha c hc)
              rw [z c hc] at f
              exact f
            · intro w
              obtain ⟨c, hc, w⟩ := List.any_eq_true.mp w
              have f := eq_of_beq (all_range low1 (ha c hc))
              rw [z c hc, w] at f
              simp at f
        show Φ (.bl (Txt.islower (st t))) M
        rw [e]
        exact q
      · rw [alp_st] at hb
        unfold nameOk
        rw [Bool.eq_false_iff] at hb ⊢
        intro z
        rw [Bool.and_eq_true, Bool.and_eq_true, decide_eq_true_iff] at z
        refine hb ?_
        rw [Bool.and_eq_true, decide_eq_true_iff, List.all_eq_true]
        refine ⟨z.1.1, fun c hc => ?_⟩
        have f := eq_of_beq (all_range low1 (ha c hc))
        rw [List.all_eq_true.mp z.2 c hc] at f
        rw [Bool.and_eq_true] at f
        exact f.1
    · rw [asc_st] at ha
      unfold nameOk
      rw [Bool.eq_false_iff] at ha ⊢
      intro z
      rw [Bool.and_eq_true] at z
      refine ha (List.all_eq_true.mpr fun c hc => ?_)
      have := List.all_eq_true.mp z.2 c hc
      rw [Bool.and_eq_true, decide_eq_true_iff, decide_eq_true_iff] at this
      exact decide_eq_true (by omega)
  · have h := of_decide_eq_false h
    rw [st_len] at h
    unfold nameOk
    rw [decide_eq_false (show ¬ t.length ≤ 6 by omega), Bool.and_false, Bool.false_and]
end My

set_option Elab.async false
set_option linter.all false
set_option maxRecDepth 100000
set_option maxHeartbeats 4000000
namespace My
open PySem PySem.Spec PyProof.Rows L2 DL
open Evl (Ex)
/-! ### small things -/
theorem bsI {k : Bool} {Φ : Bool → Prop} (h : Φ k) : bs k Φ := by
  cases k
  · exact ⟨ff, fun _ => h⟩
  · exact ⟨fun _ => h, tf⟩
theorem bsE {k b : Bool} {Φ : Bool → Prop} (e : k = b) (h : Φ b) : bs k Φ := by
  subst e
  exact bsI h
theorem ix_nat {xs : List D} {i : Nat} {k : Int} {x : D} (hk : k = (i : Nat)) (h : xs[i]? = some x) : atI xs k = some x := by
  rw [hk]
  exact atI_nat h
theorem row_at {r : List Nat} {i x : Nat} (h : r[i]? = some x) : (r.map ni)[i]? = some (ni x) := by
  rw [List.getElem?_map, h] <;> rfl
theorem tab_at {t : List (List Nat)} {i : Nat} {r : List Nat} (h : t[i]? = some r) : (t.map rowD)[i]? = some (rowD r) := by
  rw [List.getElem?_map, h] <;> rfl
theorem sz {n : Nat} (h : n ≤ 100000) : n ≤ sizeLine := by rw [sizeLine_eq]; omega
theorem szl {n : Nat} (h : n ≤ 100000) : n < sizeLine := by rw [sizeLine_eq]; omega
theorem dF {p : Prop} [Decidable p] {P : Prop} (h : p) (e : decide p = false) : P := absurd h (of_decide_eq_false e)
theorem bF {b : Bool} {P : Prop} (h : b = true) (e : b = false) : P := tf (h.symm.trans e)
theorem neI {i j : Int} {P : Prop} (e : i = j) (h : (!decide (i = j)) = true) : P := by
  rw [decide_eq_true e] at h
  cases h
theorem neT {i j : Int} (h : (!decide (i = j)) = true) : i ≠ j := by
  intro e
  rw [decide_eq_true e] at h
  cases h
theorem neN {i j : Int} (h : (!decide (i = j)) = false) : i = j := by
  rw [Bool.not_eq_false'] at h
  exact of_decide_eq_true h
theorem lt_of_some {α : Type} {L : List α} {i : Nat} {l : α} (h : L[i]? = some l) : i < L.length := (List.getElem?_eq_some_iff.mp h).1
theorem rangeD_len (lo : Int) (n : Nat) : (rangeD lo n).length = n := by
  unfold rangeD
  rw [List.length_map, List.length_range]
/-! ### kernels -/
theorem red_choices (cs : Cs) : ∀ ds M Φ Ψ, S_choices cs ds M Φ Ψ → r_choices cs (ends Φ) (startD 1 ds) M := by
  rintro ds M Φ Ψ ⟨j, rfl, hj, q⟩
  rcases j with _ | _ | _ | _ | _ | _ | _ | j
  all_goals first | exact ⟨_, rfl, _, rfl, q⟩ | exact absurd hj (by omega)
theorem red_draws (cs : Cs) : ∀ ds M Φ Ψ, S_draws cs ds M Φ Ψ → r_draws cs (ends Φ) (startD 1 ds) M := by
  rintro ds M Φ Ψ ⟨j, rfl, hj, q⟩
  rcases j with _ | _ | _ | _ | _ | _ | _ | j
  all_goals first | exact ⟨_, rfl, _, rfl, q⟩ | exact absurd hj (by omega)
/-! ### tables -/
theorem tabS_at {t : List (List Nat)} (h : TabS t) {a b : Nat} (ha : a < t.length) (hb : b < t.length) : ∃ r, t[a]? = some r ∧ r[b]? = some (tabAt t a b) := by
  refine ⟨t[a], List.getElem?_eq_getElem ha, ?_⟩
  have hl := (h.2.2 t[a] (List.getElem_mem ha)).1
  unfold tabAt
  rw [List.getD_eq_getElem?_getD, List.getD_eq_getElem?_getD, List.getElem?_eq_getElem ha]
  show (t[a])[b]? = some ((t[a])[b]?.getD 0)
  rw [List.getElem?_eq_getElem (show b < (t[a]).length by omega)] <;> rfl
theorem inB_lt {t : List (List Nat)} (h : TabS t) (hi : inB t = true) {a b : Nat} (ha : a < t.length) (hb : b < t.length) : tabAt t a b < t.length := by
  obtain ⟨r, h1, h2⟩ := tabS_at h ha hb
  unfold inB at hi
  rw [List.all_eq_true] at hi
  have := hi r (List.mem_of_getElem? h1)
  rw [List.all_eq_true] at this
  exact of_decide_eq_true (this _ (List.mem_of_getElem? h2))
theorem assA_false {t : List (List Nat)} {a b c : Nat} (ha : a < t.length) (hb : b < t.length) (hc : c < t.length) (h : assB t a b c = false) : assA t = false := by
  unfold assA
  exact allN_false ha (allN_false hb (allN_false hc h))
theorem assA_true {t : List (List Nat)} (h : ∀ a < t.length, ∀ b < t.length, ∀ c < t.length, assB t a b c = true) : assA t = true :=
  allN_true fun a ha => allN_true fun b hb => allN_true fun c hc => h a ha b hb c hc
/-- the look of a test of three members, here and in the law -/
theorem ass_ne {t : List (List Nat)} {a b c : Nat} (h : (!decide (((tabAt t (tabAt t a b) c : Nat) : Int) = (tabAt t a (tabAt t b c) : Nat))) = true) : assB t a b c = false := by
  have := neT h
  unfold assB
  exact decide_eq_false fun e => this (by rw [e])
theorem ass_eq {t : List (List Nat)} {a b c : Nat} (h : (!decide (((tabAt t (tabAt t a b) c : Nat) : Int) = (tabAt t a (tabAt t b c) : Nat))) = false) : assB t a b c = true := by
  have := neN h
  unfold assB
  exact decide_eq_true (by omega)
theorem red_is_associative (cs : Cs) : ∀ ds M Φ Ψ, S_is_associative cs ds M Φ Ψ → r_is_associative cs (ends Φ) (startD 5 ds) M := by
  rintro ds M Φ Ψ ⟨t, rfl, ht, hin, q⟩
  have h6 : t.length ≤ 4 := ht.2.1
  show r_is_associative_1 cs (ends Φ) [.d (tabD t), .d (.rng 0 ((t.map rowD).length : Nat)), .un, .un, .un] M
  rw [List.length_map]
  have bd : (-(2 ^ 62 : Int) ≤ 0 ∧ (0 : Int) < 2 ^ 62 ∧ -(2 ^ 62 : Int) ≤ (t.length : Nat) ∧ ((t.length : Nat) : Int) < 2 ^ 62) := ⟨by decide, by decide, by omega, by omega⟩
  have e0 : (((t.length : Nat) : Int) - 0).toNat = t.length := by omega
  refine ⟨bd, ?_⟩
  rw [e0]
  refine ⟨fun i Δ M' => Δ = [.d (tabD t), .d (.rng 0 (t.length : Nat)), .un, .un, .un] ∧ M' = M ∧ ∀ a < i, ∀ b < t.length, ∀ c < t.length, assB t a b c = true, ⟨rfl, rfl, fun _ h => absurd h (Nat.not_lt_zero _)⟩, ?_, ?_⟩
  · rintro a x Δ1 M1 hx ⟨rfl, rfl, ga⟩
    obtain ⟨hi, rfl⟩ := rangeD_some hx
    refine ⟨bd, ?_⟩
    rw [e0]
    refine ⟨fun i Δ M' => Δ = [.d (tabD t), .d (.rng 0 (t.length : Nat)), .d (.int (0 + (a : Int))), .un, .un] ∧ M' = M1 ∧ ∀ b < i, ∀ c < t.length, assB t a b c = true, ⟨rfl, rfl, fun _ h => absurd h (Nat.not_lt_zero _)⟩, ?_, ?_⟩
    · rintro b x Δ1 M2 hx ⟨rfl, rfl, gb⟩
      obtain ⟨hj, rfl⟩ := rangeD_some hx
      refine ⟨bd, ?_⟩
      rw [e0]
      refine ⟨fun i Δ M' => Δ = [.d (tabD t), .d (.rng 0 (t.length : Nat)), .d (.int (0 + (a : Int))), .d (.int (0 + (b : Int))), .un] ∧ M' = M2 ∧ ∀ c < i, assB t a b c = true, ⟨rfl, rfl, fun _ h => absurd h (Nat.not_lt_zero _)⟩, ?_, ?_⟩
      · rintro c x Δ1 M3 hx ⟨rfl, rfl, gc⟩
        obtain ⟨hk, rfl⟩ := rangeD_some hx
        have l1 := inB_lt ht hin hi hj
        have l3 := inB_lt ht hin hj hk
        obtain ⟨ra, a1, a2⟩ := tabS_at ht hi hj
        obtain ⟨rv, v1, v2⟩ := tabS_at ht l1 hk
        obtain ⟨rb, b1, b2⟩ := tabS_at ht hj hk
        obtain ⟨rc, c1, c2⟩ := tabS_at ht hi l3
        rw [a1] at c1
        cases c1
        refine ⟨_, ix_nat (Int.zero_add _) (tab_at a1), _, ix_nat (Int.zero_add _) (row_at a2), _, ix_nat rfl (tab_at v1), _, ix_nat (Int.zero_add _) (row_at v2), _, ix_nat (Int.zero_add _) (tab_at a1), _, ix_nat (Int.zero_add _) (tab_at b1), _, ix_nat (Int.zero_add _) (row_at b2), _, ix_nat rfl (row_at c2), fun h => ?_, fun h => ⟨rfl, rfl, fun c' hc' => ?_⟩⟩
        · rw [assA_false hi hj hk (ass_ne h)] at q
          exact q
        · rcases Nat.lt_succ_iff_lt_or_eq.mp hc' with hc' | rfl
          · exact gc c' hc'
          · exact ass_eq h
      · rintro Δ1 M3 ⟨rfl, rfl, gc⟩
        rw [rangeD_len] at gc
        refine ⟨rfl, rfl, fun b' hb' => ?_⟩
        rcases Nat.lt_succ_iff_lt_or_eq.mp hb' with hb' | rfl
        · exact gb b' hb'
        · exact gc
    · rintro Δ1 M2 ⟨rfl, rfl, gb⟩
      rw [rangeD_len] at gb
      refine ⟨rfl, rfl, fun a' ha' => ?_⟩
      rcases Nat.lt_succ_iff_lt_or_eq.mp ha' with ha' | rfl
      · exact ga a' ha'
      · exact gb
  · rintro Δ1 M1 ⟨rfl, rfl, ga⟩
    rw [rangeD_len] at ga
    rw [assA_true ga] at q
    exact q
end My

set_option Elab.async false
set_option linter.all false
set_option maxRecDepth 100000
set_option maxHeartbeats 4000000
namespace My
open PySem PySem.Spec PyProof.Rows L2 DL
open Evl (Ex)
/-! ### squares, monoids, layers -/
theorem fold_min (ns : List Int) : ∀ n : Int, ns.foldl min n ≤ n ∧ (∀ x ∈ ns, ns.foldl min n ≤ x) ∧ (ns.foldl min n = n ∨ ns.foldl min n ∈ ns) := by
  induction ns with
  | nil => exact fun n => ⟨Int.le_refl _, (fun x h => by cases h), .inl rfl⟩
  | cons m ns ih =>
    intro n
    obtain ⟨h1, h2, h3⟩ := ih (min n m)
    show ns.foldl min (min n m) ≤ n ∧ (∀ x ∈ m :: ns, ns.foldl min (min n m) ≤ x) ∧ (ns.foldl min (min n m) = n ∨ ns.foldl min (min n m) ∈ m :: ns)
    refine ⟨by omega, fun x hx => ?_, ?_⟩
    · rcases List.mem_cons.mp hx with rfl | hx
      · omega
      · exact h2 x hx
    · rcases h3 with h3 | h3
      · rw [h3]
        by_cases e : n ≤ m
        · left; omega
        · right
          rw [show min n m = m by omega]
          exact List.mem_cons_self
      · exact .inr (List.mem_cons_of_mem _ h3)
theorem fold_max (ns : List Int) : ∀ n : Int, n ≤ ns.foldl max n ∧ (∀ x ∈ ns, x ≤ ns.foldl max n) ∧ (ns.foldl max n = n ∨ ns.foldl max n ∈ ns) := by
  induction ns with
  | nil => exact fun n => ⟨Int.le_refl _, (fun x h => by cases h), .inl rfl⟩
  | cons m ns ih =>
    intro n
    obtain ⟨h1, h2, h3⟩ := ih (max n m)
    show n ≤ ns.foldl max (max n m) ∧ (∀ x ∈ m :: ns, x ≤ ns.foldl max (max n m)) ∧ (ns.foldl max (max n m) = n ∨ ns.foldl max (max n m) ∈ m :: ns)
    refine ⟨by omega, fun x hx => ?_, ?_⟩
    · rcases List.mem_cons.mp hx with rfl | hx
      · omega
      · exact h2 x hx
    · rcases h3 with h3 | h3
      · rw [h3]
        by_cases e : m ≤ n
        · left; omega
        · right
          rw [show max n m = m by omega]
          exact List.mem_cons_self
      · exact .inr (List.mem_cons_of_mem _ h3)
abbrev intsN (r : List Nat) : List Int := r.map fun x : Nat => (x : Int)
theorem min_mem {r : List Nat} (h : r ≠ []) : ∃ x ∈ r, foldI min (intsN r) = (x : Int) ∧ ∀ y ∈ r, x ≤ y := by
  cases r with
  | nil => exact absurd rfl h
  | cons n r =>
    obtain ⟨h1, h2, h3⟩ := fold_min (intsN r) (n : Int)
    have key : ∃ x ∈ n :: r, foldI min (intsN (n :: r)) = (x : Int) := by
      rcases h3 with h3 | h3
      · exact ⟨n, List.mem_cons_self, h3⟩
      · obtain ⟨x, hx, e⟩ := List.mem_map.mp h3
        exact ⟨x, List.mem_cons_of_mem _ hx, e.symm⟩
    obtain ⟨x, hx, e⟩ := key
    refine ⟨x, hx, e, fun y hy => ?_⟩
    have e' : (intsN r).foldl min (n : Int) = (x : Int) := e
    rw [e'] at h1 h2
    rcases List.mem_cons.mp hy with rfl | hy
    · omega
    · have := h2 (y : Int) (List.mem_map.mpr ⟨y, hy, rfl⟩)
      omega
theorem max_mem {r : List Nat} (h : r ≠ []) : ∃ x ∈ r, foldI max (intsN r) = (x : Int) ∧ ∀ y ∈ r, y ≤ x := by
  cases r with
  | nil => exact absurd rfl h
  | cons n r =>
    obtain ⟨h1, h2, h3⟩ := fold_max (intsN r) (n : Int)
    have key : ∃ x ∈ n :: r, foldI max (intsN (n :: r)) = (x : Int) := by
      rcases h3 with h3 | h3
      · exact ⟨n, List.mem_cons_self, h3⟩
      · obtain ⟨x, hx, e⟩ := List.mem_map.mp h3
        exact ⟨x, List.mem_cons_of_mem _ hx, e.symm⟩
    obtain ⟨x, hx, e⟩ := key
    refine ⟨x, hx, e, fun y hy => ?_⟩
    have e' : (intsN r).foldl max (n : Int) = (x : Int) := e
    rw [e'] at h1 h2
    rcases List.mem_cons.mp hy with rfl | hy
    · omega
    · have := h2 (y : Int) (List.mem_map.mpr ⟨y, hy, rfl⟩)
      omega
theorem row_ints (r : List Nat) : intsOf (r.map ni) = some (intsN r) := by
  have := intsOf_map (r.map fun x : Nat => (x : Int))
  rw [List.map_map] at this
  exact this
theorem ints_ne {r : List Nat} (h : r ≠ []) : intsN r ≠ [] := by
  intro e
  rw [List.map_eq_nil_iff] at e
  exact h e
theorem red_is_square (cs : Cs) : ∀ ds M Φ Ψ, S_is_square cs ds M Φ Ψ → r_is_square cs (ends Φ) (startD 3 ds) M := by
  rintro ds M Φ Ψ ⟨t, rfl, ht, q⟩
  have h2 := ht.1
  show r_is_square_1 cs (ends Φ) [.d (tabD t), .d (.int ((t.map rowD).length : Nat)), .un] M
  rw [List.length_map]
  refine ⟨fun i Δ M' => Δ = [.d (tabD t), .d (ni t.length), .un] ∧ M' = M ∧ ∀ r ∈ t.take i, (r.all fun x => decide (x < t.length)) = true, ⟨rfl, rfl, fun r h => by cases h⟩, ?_, ?_⟩
  · rintro i x Δ1 M1 hx ⟨rfl, rfl, g⟩
    rw [List.getElem?_map] at hx
    obtain ⟨r, hr, rfl⟩ := Option.map_eq_some_iff.mp hx
    have hm := ht.2.2 r (List.mem_of_getElem? hr)
    have ne : r ≠ [] := fun e => by
      have := hm.1
      rw [e, List.length_nil] at this
      omega
    obtain ⟨x1, m1, e1, g1⟩ := min_mem ne
    obtain ⟨x2, m2, e2, g2⟩ := max_mem ne
    refine ⟨fun h => neI (by rw [List.length_map, hm.1]) h, fun _ => ⟨_, row_ints r, ints_ne ne, fun h => ?_, fun _ => ⟨_, row_ints r, ints_ne ne, fun h => ?_, fun h => ⟨rfl, rfl, ?_⟩⟩⟩⟩
    · have h := of_decide_eq_true h
      rw [e1] at h
      omega
    · have h := of_decide_eq_true h
      have : inB t = false := by
        rw [Bool.eq_false_iff]
        intro z
        unfold inB at z
        rw [List.all_eq_true] at z
        have := z r (List.mem_of_getElem? hr)
        rw [List.all_eq_true] at this
        have := of_decide_eq_true (this x2 m2)
        have h : ((t.length : Nat) : Int) ≤ foldI max (intsN r) := h
        rw [e2] at h
        omega
      rw [this] at q
      exact q
    · intro r' hr'
      rw [List.take_add_one, hr] at hr'
      rcases List.mem_append.mp hr' with hr' | hr'
      · exact g r' hr'
      · rw [List.mem_singleton.mp hr', List.all_eq_true]
        intro y hy
        have h : ¬ ((t.length : Nat) : Int) ≤ foldI max (intsN r) := of_decide_eq_false h
        rw [e2] at h
        have := g2 y hy
        exact decide_eq_true (by omega)
  · rintro Δ1 M1 ⟨rfl, rfl, g⟩
    rw [List.length_map, List.take_length] at g
    have : inB t = true := by
      unfold inB
      rw [List.all_eq_true]
      exact g
    rw [this] at q
    exact q
theorem red_is_monoid (cs : Cs) : ∀ ds M Φ Ψ, S_is_monoid cs ds M Φ Ψ → r_is_monoid cs (ends Φ) (startD 2 ds) M := by
  rintro ds M Φ Ψ ⟨t, rfl, ht, q⟩
  have h2 : 2 ≤ t.length := ht.1
  have h6 : t.length ≤ 4 := ht.2.1
  have el : (t.map rowD).length = t.length := List.length_map ..
  refine ⟨fun _ => ⟨fun _ => ?_, fun e => dF (by show (((t.map rowD).length : Nat) : Int) ≤ 6; omega) e⟩, fun e => dF (by show (2 : Int) ≤ ((t.map rowD).length : Nat); omega) e⟩
  refine ⟨t, rfl, ht, bsI ?_⟩
  unfold monB at q
  cases hin : inB t with
  | false =>
    rw [hin] at q
    exact q
  | true =>
  rw [hin, Bool.true_and] at q
  show r_is_monoid_1 cs (ends Φ) [.d (tabD t), .un] M
  refine ⟨⟨by omega, by omega⟩, ?_⟩
  rw [el, Int.toNat_natCast]
  refine ⟨fun i Δ M' => Δ = [.d (tabD t), .un] ∧ M' = M ∧ ∀ m < i, unitB t m = true, ⟨rfl, rfl, fun _ h => absurd h (Nat.not_lt_zero _)⟩, ?_, ?_⟩
  · rintro m x Δ1 M1 hx ⟨rfl, rfl, g⟩
    obtain ⟨hi, rfl⟩ := rangeD_some hx
    obtain ⟨r0, a1, a2⟩ := tabS_at ht (show 0 < t.length by omega) hi
    obtain ⟨rm, b1, b2⟩ := tabS_at ht hi (show 0 < t.length by omega)
    have no : unitB t m = false → Φ (.bl false) M1 := fun e => by
      rw [allN_false hi e, Bool.false_and] at q
      exact q
    refine ⟨_, ix_nat rfl (tab_at a1), _, ix_nat (Int.zero_add _) (row_at a2), fun h => no ?_, fun h1 => ⟨_, ix_nat (Int.zero_add _) (tab_at b1), _, ix_nat rfl (row_at b2), fun h => no ?_, fun h => ⟨rfl, rfl, fun m' hm' => ?_⟩⟩⟩
    · have := neT h
      unfold unitB
      rw [decide_eq_false (fun e => this (by rw [e, Int.zero_add])), Bool.false_and]
    · have := neT h
      unfold unitB
      rw [decide_eq_false (p := tabAt t m 0 = m) (fun e => this (by rw [e, Int.zero_add])), Bool.and_false]
    · rcases Nat.lt_succ_iff_lt_or_eq.mp hm' with hm' | rfl
      · exact g m' hm'
      · have e1 := neN h1
        have e2 := neN h
        unfold unitB
        rw [decide_eq_true (show tabAt t 0 m' = m' by omega), decide_eq_true (show tabAt t m' 0 = m' by omega)] <;> rfl
  · rintro Δ1 M1 ⟨rfl, rfl, g⟩
    rw [rangeD_len] at g
    rw [allN_true g, Bool.true_and] at q
    exact ⟨t, rfl, ht, hin, q⟩
theorem w_in (l : Ly) : (!inD (W l.wd) [.str (Str.ofString "cell"), .str (Str.ofString "setting"), .str (Str.ofString "note"), .str (Str.ofString "fail"), .str (Str.ofString "outside")]) = false := by
  cases l <;> (simp only [Ly.wd]; decide +kernel)
theorem val_tab : ((List.range 5).all fun i => inD (W (sgs (WD.getD i ""))) [.str (Str.ofString "cell"), .str (Str.ofString "setting")] == decide (i < 2)) = true := by decide +kernel
theorem no_tab : ((List.range 5).all fun i => inD (W (sgs (WD.getD i ""))) [.str (Str.ofString "note"), .str (Str.ofString "outside")] == decide (i = 2 ∨ i = 4)) = true := by decide +kernel
theorem w_val (l : Ly) : inD (W l.wd) [.str (Str.ofString "cell"), .str (Str.ofString "setting")] = decide (l.tag < 2) := by
  rw [wd_eq]
  exact eq_of_beq (all_range val_tab (tag_lt l))
theorem w_no (l : Ly) : inD (W l.wd) [.str (Str.ofString "note"), .str (Str.ofString "outside")] = decide (l.tag = 2 ∨ l.tag = 4) := by
  rw [wd_eq]
  exact eq_of_beq (all_range no_tab (tag_lt l))
theorem red_is_layer (cs : Cs) : ∀ ds M Φ Ψ, S_is_layer cs ds M Φ Ψ → r_is_layer cs (ends Φ) (startD 4 ds) M := by
  rintro ds M Φ Ψ ⟨l, rfl, hok, q⟩
  have fin : ∀ {a b n : Int} {g : Bool}, g = (decide (a ≤ n) && decide (n ≤ b)) → Φ (.bl g) M → (decide (a ≤ n) = true → Φ (.bl (decide (n ≤ b))) M) ∧ (decide (a ≤ n) = false → Φ (.bl false) M) := fun e k => by
    rw [e] at k
    refine ⟨fun h => ?_, fun h => ?_⟩
    · rw [h, Bool.true_and] at k
      exact k
    · rw [h, Bool.false_and] at k
      exact k
  have two : ∀ {n a b : Nat}, (decide (a ≤ n) && decide (n ≤ b)) = (decide (((a : Nat) : Int) ≤ (n : Nat)) && decide (((n : Nat) : Int) ≤ (b : Nat))) := by
    intro n a b
    congr 1 <;> (rw [decide_eq_decide]; omega)
  refine ⟨rfl, l.nm, rfl, by have := hok.nm.len; show l.nm.length ≤ 2000000; omega, ?_⟩
  rw [hok.nm.name]
  refine bsI ⟨rfl, rfl, bsE (w_in l) ?_⟩
  cases l with
  | cell nm n =>
    exact ⟨fun h => tf (h.symm.trans (w_note (.cell nm n))), fun _ => ⟨fun h => tf (h.symm.trans (w_outside (.cell nm n))), fun _ => ⟨fun h => tf (h.symm.trans (w_fail (.cell nm n))), fun _ => fin (a := 2) (b := 3) two q⟩⟩⟩
  | setting nm n =>
    exact ⟨fun h => tf (h.symm.trans (w_note (.setting nm n))), fun _ => ⟨fun h => tf (h.symm.trans (w_outside (.setting nm n))), fun _ => ⟨fun h => tf (h.symm.trans (w_fail (.setting nm n))), fun _ => fin (a := 2) (b := 3) two q⟩⟩⟩
  | note nm t =>
    exact ⟨fun _ => ⟨t, rfl, hok.2, q⟩, fun h => tf ((w_note (.note nm t)).symm.trans h)⟩
  | fail nm n =>
    exact ⟨fun h => tf (h.symm.trans (w_note (.fail nm n))), fun _ => ⟨fun h => tf (h.symm.trans (w_outside (.fail nm n))), fun _ => ⟨fun _ => fin (a := 1) (b := 3) two q, fun h => tf ((w_fail (.fail nm n)).symm.trans h)⟩⟩⟩
  | outside nm ws =>
    obtain ⟨_, g1, g2, _⟩ := hok
    have el : (ws.map ni).length = ws.length := List.length_map ..
    have ne : ws ≠ [] := fun e => by
      rw [e, List.length_nil] at g1
      omega
    obtain ⟨x1, m1, e1, k1⟩ := min_mem ne
    obtain ⟨x2, m2, e2, k2⟩ := max_mem ne
    have no1 : ws.length ≤ 2 → (¬ 1 ≤ x1 ∨ ¬ x2 ≤ 3) → Φ (.bl false) M := fun h z => by
      have : Ly.goodB (.outside nm ws) = false := by
        rw [Bool.eq_false_iff]
        intro g
        have g : (decide (ws.length ≤ 2) && ws.all fun x => decide (1 ≤ x) && decide (x ≤ 3)) = true := g
        rw [Bool.and_eq_true, List.all_eq_true] at g
        have a := g.2 x1 m1
        have b := g.2 x2 m2
        rw [Bool.and_eq_true, decide_eq_true_iff, decide_eq_true_iff] at a b
        omega
      rw [this] at q
      exact q
    refine ⟨fun h => tf (h.symm.trans (w_note (.outside nm ws))), fun _ => ⟨fun _ => ?_, fun h => tf ((w_outside (.outside nm ws)).symm.trans h)⟩⟩
    refine ⟨fun _ => ⟨fun h => ?_, fun h => ?_⟩, fun e => dF (by show (1 : Int) ≤ ((ws.map ni).length : Nat); omega) e⟩
    · have h : (((ws.map ni).length : Nat) : Int) ≤ 2 := of_decide_eq_true h
      have h2 : ws.length ≤ 2 := by omega
      refine ⟨_, row_ints ws, ints_ne ne, fun h3 => ⟨_, row_ints ws, ints_ne ne, ?_⟩, fun h3 => no1 h2 (.inl ?_)⟩
      · have h3 : (1 : Int) ≤ foldI min (intsN ws) := of_decide_eq_true h3
        rw [e1] at h3
        show Φ (.bl (decide (foldI max (intsN ws) ≤ 3))) M
        rw [e2]
        by_cases z : x2 ≤ 3
        · rw [decide_eq_true (show ((x2 : Nat) : Int) ≤ 3 by omega)]
          have : Ly.goodB (.outside nm ws) = true := by
            show (decide (ws.length ≤ 2) && ws.all fun x => decide (1 ≤ x) && decide (x ≤ 3)) = true
            rw [Bool.and_eq_true, List.all_eq_true]
            refine ⟨decide_eq_true h2, fun y hy => ?_⟩
            have a := k1 y hy
            have b := k2 y hy
            rw [Bool.and_eq_true, decide_eq_true_iff, decide_eq_true_iff]
            omega
          rw [this] at q
          exact q
        · rw [decide_eq_false (show ¬ ((x2 : Nat) : Int) ≤ 3 by omega)]
          exact no1 h2 (.inr z)
      · have h3 : ¬ (1 : Int) ≤ foldI min (intsN ws) := of_decide_eq_false h3
        rw [e1] at h3
        omega
    · have h : ¬ (((ws.map ni).length : Nat) : Int) ≤ 2 := of_decide_eq_false h
      have : Ly.goodB (.outside nm ws) = false := by
        show (decide (ws.length ≤ 2) && ws.all fun x => decide (1 ≤ x) && decide (x ≤ 3)) = false
        rw [decide_eq_false (by omega), Bool.false_and]
      rw [this] at q
      exact q
end My

set_option Elab.async false
set_option linter.all false
set_option maxRecDepth 100000
set_option maxHeartbeats 4000000
namespace My
open PySem PySem.Spec PyProof.Rows L2 DL
open Evl (Ex)
/-! ### the states of a book, a new book -/
theorem take_succ {α : Type} {L : List α} {i : Nat} {l : α} (h : L[i]? = some l) : L.take (i + 1) = L.take i ++ [l] := by
  rw [List.take_add_one, h] <;> rfl
theorem prodF_app : ∀ (L K : List Ly), prodF (L ++ K) = prodF L * prodF K
  | [], K => (Nat.one_mul _).symm
  | l :: L, K => by
    show l.vals * prodF (L ++ K) = l.vals * prodF L * prodF K
    rw [prodF_app L K, Nat.mul_assoc]
theorem prodF_take {L : List Ly} {i : Nat} {l : Ly} (h : L[i]? = some l) : prodF (L.take (i + 1)) = prodF (L.take i) * l.vals := by
  rw [take_succ h, prodF_app]
  show _ * (l.vals * 1) = _
  rw [Nat.mul_one]
theorem vals_le {l : Ly} (h : l.goodB = true) : l.vals ≤ 3 := by
  cases l with
  | cell m n =>
    have h : (decide (2 ≤ n) && decide (n ≤ 3)) = true := h
    rw [Bool.and_eq_true, decide_eq_true_iff, decide_eq_true_iff] at h
    exact h.2
  | setting m n =>
    have h : (decide (2 ≤ n) && decide (n ≤ 3)) = true := h
    rw [Bool.and_eq_true, decide_eq_true_iff, decide_eq_true_iff] at h
    exact h.2
  | _ => exact (by decide : 1 ≤ 3)
theorem prodF_le {L : List Ly} (h : LGood L) : ∀ i, i ≤ 5 → prodF (L.take i) ≤ 3 ^ i
  | 0, _ => by rw [List.take_zero] <;> exact Nat.le_refl _
  | i + 1, hi => by
    have h1 := prodF_le h i (by omega)
    cases e : L[i]? with
    | none =>
      have g : L.length ≤ i := List.getElem?_eq_none_iff.mp e
      rw [List.take_of_length_le g] at h1
      rw [List.take_of_length_le (by omega), Nat.pow_succ]
      omega
    | some l =>
      rw [prodF_take e, Nat.pow_succ]
      exact Nat.mul_le_mul h1 (vals_le (h.2 l (List.mem_of_getElem? e)).2)
theorem pow5 {n : Nat} (h : n ≤ 5) : 3 ^ n ≤ 243 := Nat.le_trans (Nat.pow_le_pow_right (by decide) h) (by decide)
theorem red_states_of (cs : Cs) : ∀ ds M Φ Ψ, S_states_of cs ds M Φ Ψ → r_states_of cs (ends Φ) (startD 5 ds) M := by
  rintro ds M Φ Ψ ⟨L, rfl, hL, q⟩
  refine ⟨fun i Δ M' => Δ = [.d (lysD L), .d (ni (prodF (L.take i))), .un, .un, .un] ∧ M' = M, ⟨rfl, rfl⟩, ?_, ?_⟩
  · rintro i x Δ1 M1 hx ⟨rfl, rfl⟩
    rw [List.getElem?_map] at hx
    obtain ⟨l, hl, rfl⟩ := Option.map_eq_some_iff.mp hx
    have hi : i < L.length := lt_of_some hl
    have h5 := hL.1
    have p := prodF_le hL i (by omega)
    have p5 := pow5 (show i ≤ 5 by omega)
    have e1 := prodF_take hl
    have up : ∀ {k : Nat}, k = prodF (L.take (i + 1)) → ([.d (lysD L), .d (ni k), .un, .un, .un] : List Sl) = [.d (lysD L), .d (ni (prodF (L.take (i + 1)))), .un, .un, .un] := fun e => by rw [e]
    have hv := vals_le (hL.2 l (List.mem_of_getElem? hl)).2
    have big : ∀ {n : Nat}, prodF (L.take (i + 1)) = prodF (L.take i) * n → ([.d (lysD L), .d (.int (((prodF (L.take i) : Nat) : Int) * (n : Nat))), .un, .un, .un] : List Sl) = [.d (lysD L), .d (ni (prodF (L.take (i + 1)))), .un, .un, .un] := fun e => by
      rw [e]
      show _ = [_, Sl.d (.int (((prodF (L.take i) * _ : Nat)) : Int)), _, _, _]
      rw [Int.natCast_mul]
    refine ⟨rfl, rfl, rfl, bsE (w_val l) ?_⟩
    cases l with
    | cell nm n =>
      have hv : n ≤ 3 := hv
      exact ⟨.inl (.inl ⟨by omega, by omega⟩), big e1, rfl⟩
    | setting nm n =>
      have hv : n ≤ 3 := hv
      exact ⟨.inl (.inl ⟨by omega, by omega⟩), big e1, rfl⟩
    | _ => exact ⟨up (by rw [e1]; exact (Nat.mul_one _).symm), rfl⟩
  · rintro Δ1 M1 ⟨rfl, rfl⟩
    rw [List.length_map, List.take_length]
    exact q
theorem getD_none {kvs : List (Key × D)} {k : Key} (h : k ∉ kvs.map Prod.fst) : getD kvs k = none := by
  unfold getD
  rw [List.find?_eq_none.mpr]
  · rfl
  · intro x hx hd
    exact h (List.mem_map.mpr ⟨x, hx, of_decide_eq_true hd⟩)
theorem getD_some {kvs : List (Key × D)} {k : Key} (h : k ∈ kvs.map Prod.fst) : (getD kvs k).isSome = true := by
  unfold getD
  obtain ⟨x, hx, e⟩ := List.mem_map.mp h
  rw [Option.isSome_map, List.find?_isSome]
  exact ⟨x, hx, decide_eq_true e⟩
theorem putKD_new {kvs : List (Key × D)} {k : Key} {d : D} (h : k ∉ kvs.map Prod.fst) : putKD kvs k d = kvs ++ [(k, d)] := by
  unfold putKD
  rw [if_neg]
  intro ha
  obtain ⟨x, hx, hd⟩ := List.any_eq_true.mp ha
  exact h (List.mem_map.mpr ⟨x, hx, of_decide_eq_true hd⟩)
theorem nums_key : ∀ (k : Nat) (L : List Ly), (numsF k L).map Prod.fst = L.map fun l => (.inr (st l.nm) : Key)
  | _, [] => rfl
  | k, l :: r => by
    show _ :: (numsF (k + 1) r).map Prod.fst = _ :: _
    rw [nums_key (k + 1) r] <;> rfl
theorem nums_len (k : Nat) (L : List Ly) : (numsF k L).length = L.length := by
  have := congrArg List.length (nums_key k L)
  rw [List.length_map, List.length_map] at this
  exact this
theorem nums_snoc : ∀ (k : Nat) (L : List Ly) (l : Ly), numsF k (L ++ [l]) = numsF k L ++ [(.inr (st l.nm), ni (k + L.length + 1))]
  | _, [], _ => rfl
  | k, x :: r, l => by
    show _ :: numsF (k + 1) (r ++ [l]) = _ :: (numsF (k + 1) r ++ _)
    rw [nums_snoc (k + 1) r l, show k + 1 + r.length + 1 = k + (x :: r).length + 1 by rw [List.length_cons]; omega]
theorem nums_in {k : Nat} {L : List Ly} {m : List Nat} : (.inr (st m) : Key) ∈ (numsF k L).map Prod.fst ↔ m ∈ L.map Ly.nm := by
  rw [nums_key, List.mem_map, List.mem_map]
  constructor
  · rintro ⟨l, h, e⟩
    exact ⟨l, h, st_inj (Sum.inr.inj e)⟩
  · rintro ⟨l, h, rfl⟩
    exact ⟨l, h, rfl⟩
theorem nums_get : ∀ {k : Nat} {L : List Ly} {i : Nat} {l : Ly}, L[i]? = some l → l.nm ∉ (L.take i).map Ly.nm → getD (numsF k L) (.inr (st l.nm)) = some (ni (k + i + 1))
  | _, [], _, _, h, _ => by cases h
  | k, x :: r, 0, l, h, _ => by
    have : x = l := by simpa using h
    subst this
    unfold getD numsF
    rw [List.find?_cons_of_pos (by exact decide_eq_true rfl)] <;> rfl
  | k, x :: r, i + 1, l, h, hn => by
    have h' : r[i]? = some l := by simpa using h
    rw [List.take_succ_cons, List.map_cons, List.mem_cons, not_or] at hn
    have ih := nums_get (k := k + 1) h' hn.2
    unfold getD at ih ⊢
    rw [numsF, List.find?_cons_of_neg (by
      intro z
      exact hn.1 (st_inj (Sum.inr.inj (of_decide_eq_true z))).symm), ih, show k + 1 + i + 1 = k + (i + 1) + 1 by omega]
/-! what is due -/
theorem bad_of {L : List Ly} {i : Nat} {l : Ly} (h : L[i]? = some l) : badB L i = (!l.goodB || decide (l.nm ∈ (L.take i).map Ly.nm)) := by
  unfold badB
  rw [h]
theorem due_bad {L : List Ly} {i : Nat} (h5 : L.length ≤ 5) (hi : i < L.length) (hb : badB L i = true) (hf : ∀ j < i, badB L j = false) : dueF true L = (i : Int) + 1 := by
  unfold dueF firstBad
  rw [if_neg (by rintro (h | h); cases h; omega), find_first hi hb hf]
theorem due_none {L : List Ly} (h5 : L.length ≤ 5) (hf : ∀ j < L.length, badB L j = false) : dueF true L = if 12 < prodF L then 0 else -1 := by
  unfold dueF firstBad
  rw [if_neg (by rintro (h | h); cases h; omega), find_none hf]
theorem due_long {k : Bool} {L : List Ly} (h5 : k = false ∨ 5 < L.length) : dueF k L = 0 := by
  unfold dueF
  rw [if_pos h5]
theorem due_ok {L : List Ly} (h : dueF true L = -1) : L.length ≤ 5 ∧ (∀ j < L.length, badB L j = false) ∧ prodF L ≤ 12 := by
  have h5 : L.length ≤ 5 := by
    by_cases z : 5 < L.length
    · rw [due_long (.inr z)] at h
      cases h
    · omega
  have hb : ∀ j < L.length, badB L j = false := by
    cases e : firstBad L with
    | some i =>
      unfold dueF at h
      rw [if_neg (by rintro (z | z); cases z; omega), e] at h
      have h : (i : Int) + 1 = -1 := h
      omega
    | none =>
      unfold firstBad at e
      rw [List.find?_eq_none] at e
      intro j hj
      rw [Bool.eq_false_iff]
      exact e j (List.mem_range.mpr hj)
  refine ⟨h5, hb, ?_⟩
  rw [due_none h5 hb] at h
  by_cases z : 12 < prodF L
  · rw [if_pos z] at h
    cases h
  · omega
theorem book_good {L : List Ly} (h : LOk L) (hd : dueF true L = -1) : LGood L := by
  obtain ⟨h5, hb, _⟩ := due_ok hd
  refine ⟨h5, fun l hl => ⟨h l hl, ?_⟩⟩
  obtain ⟨i, hi⟩ := List.mem_iff_getElem?.mp hl
  have := hb i (lt_of_some hi)
  rw [bad_of hi, Bool.or_eq_false_iff, Bool.not_eq_false'] at this
  exact this.1
theorem book_fresh {L : List Ly} (hd : dueF true L = -1) {i : Nat} {l : Ly} (hl : L[i]? = some l) : l.nm ∉ (L.take i).map Ly.nm := by
  have := (due_ok hd).2.1 i (lt_of_some hl)
  rw [bad_of hl, Bool.or_eq_false_iff] at this
  exact of_decide_eq_false this.2
theorem red_Book_init (cs : Cs) : ∀ ds M Φ Ψ, S_Book_init cs ds M Φ Ψ → r_Book_init cs Ψ (ends Φ) (startD 5 ds) M := by
  rintro ds M Φ Ψ ⟨b, kn, L, rfl, hb, hk, hL, h6, q1, q2⟩
  have el : (L.map Ly.d).length = L.length := List.length_map ..
  have bad : ∀ {n : Int} {M' : Mem}, dueF true L = n → n ≠ -1 → Ψ cs.BookError [("layer", .int n)] M' := fun e h => by
    have := q2 (by rw [e]; exact h)
    rw [e] at this
    exact this _
  refine .inl ⟨kn_mem hk, fun h => ff h, fun _ => ⟨fun h => ?_, fun h => ?_⟩⟩
  · have h : ((L.map Ly.d).length : Nat) > (5 : Int) := of_decide_eq_true h
    exact ⟨rfl, bad (due_long (.inr (by omega))) (by decide)⟩
  have h : ¬ ((L.map Ly.d).length : Nat) > (5 : Int) := of_decide_eq_false h
  have h5 : L.length ≤ 5 := by omega
  refine ⟨_, hb, (by show 0 < 1000; decide), ?_⟩
  refine ⟨_, updM_same, (by show 1 < 1000; decide), ?_⟩
  refine ⟨_, _, updM_same, rfl, ?_⟩
  refine ⟨_, updM_same, (by show 2 < 1000; decide), ?_⟩
  intro d hd
  rw [updM_updM, updM_updM] at hd ⊢
  have db : d ≠ b := fun e => by
    subst e
    rw [updM_same] at hd
    cases hd
  have hMd : M d = none := by
    rw [updM_ne db] at hd
    exact hd
  refine ⟨_, by rw [updM_ne (Ne.symm db), updM_same], (by show 3 < 1000; decide), ?_⟩
  refine ⟨_, _, updM_same, rfl, ?_⟩
  refine ⟨fun i Δ M' => Δ = [.d (.ref b), .d (W kn), .d (lysL L), .un, .un] ∧ M' b = some (.ins cs.Book (bkF kn L d)) ∧ M' d = some (.dct (numsF 0 (L.take i))) ∧ (∀ a, a ≠ b → M a ≠ none → M' a = M a) ∧ ∀ j < i, badB L j = false, ⟨rfl, ?_, ?_, ?_, fun _ h => absurd h (Nat.not_lt_zero _)⟩, ?_, ?_⟩
  · rw [updM_same]
    unfold bkF
    rw [← el] <;> rfl
  · rw [updM_ne db, updM_same] <;> rfl
  · intro a ha hm
    rw [updM_ne ha, updM_ne (fun e => hm (by rw [e]; exact hMd)), updM_ne ha]
  · rintro i x Δ1 M1 hx ⟨rfl, h1, h2, h3, h4⟩
    obtain ⟨y, hy, rfl⟩ := enumD_get 0 i _ x hx
    rw [List.getElem?_map] at hy
    obtain ⟨l, hl, rfl⟩ := Option.map_eq_some_iff.mp hy
    have hi := lt_of_some hl
    have bo := bad_of hl
    have raise : badB L i = true → Ψ cs.BookError [("layer", .int (((0 + i : Nat) : Int) + 1))] M1 := fun e => by
      rw [Nat.zero_add]
      exact bad (due_bad h5 hi e h4) (by omega)
    refine ⟨rfl, l, rfl, hL l (List.mem_of_getElem? hl), ?_⟩
    cases hg : l.goodB with
    | false =>
      refine bsI ⟨rfl, raise ?_⟩
      rw [bo, hg] <;> rfl
    | true =>
    rw [hg, Bool.not_true, Bool.false_or] at bo
    refine bsI ⟨_, rfl, _, _, h1, rfl, _, _, h2, rfl, ?_⟩
    refine ⟨fun h => ⟨rfl, raise ?_⟩, fun h => ?_⟩
    · rw [bo]
      refine decide_eq_true ?_
      by_cases z : l.nm ∈ (L.take i).map Ly.nm
      · exact z
      · have h : (getD (numsF 0 (L.take i)) (.inr (st l.nm))).isSome = true := h
        rw [getD_none (fun w => z (nums_in.mp w))] at h
        cases h
    · have fresh : l.nm ∉ (L.take i).map Ly.nm := fun z => by
        have h : (getD (numsF 0 (L.take i)) (.inr (st l.nm))).isSome = false := h
        rw [getD_some (nums_in.mpr z)] at h
        cases h
      refine ⟨_, _, h1, rfl, _, rfl, _, _, h2, rfl, ?_, rfl, ?_, ?_, ?_, ?_⟩
      · rw [nums_len, List.length_take]
        omega
      · rw [updM_ne (Ne.symm db)]
        exact h1
      · rw [updM_same, take_succ hl, nums_snoc, putKD_new (fun w => fresh (nums_in.mp w)), List.length_take, show min i L.length = i by omega] <;> rfl
      · intro a ha hm
        rw [updM_ne (fun e => hm (by rw [e]; exact hMd))]
        exact h3 a ha hm
      · intro j hj
        rcases Nat.lt_succ_iff_lt_or_eq.mp hj with hj | rfl
        · exact h4 j hj
        · rw [bo]
          exact decide_eq_false fresh
  · rintro Δ1 M1 ⟨rfl, h1, h2, h3, h4⟩
    rw [enumD_len, el] at h2 h4
    rw [List.take_length] at h2
    have e := due_none h5 h4
    have hG : LGood L := ⟨h5, fun l hl => ⟨hL l hl, by
      obtain ⟨i, hi⟩ := List.mem_iff_getElem?.mp hl
      have := h4 i (lt_of_some hi)
      rw [bad_of hi, Bool.or_eq_false_iff, Bool.not_eq_false'] at this
      exact this.1⟩⟩
    refine ⟨_, _, h1, rfl, L, rfl, hG, fun h => ?_, fun h => ?_⟩
    · have h : ((prodF L : Nat) : Int) > 12 := of_decide_eq_true h
      rw [if_pos (by omega)] at e
      exact ⟨rfl, bad e (by decide)⟩
    · have h : ¬ ((prodF L : Nat) : Int) > 12 := of_decide_eq_false h
      rw [if_neg (by omega)] at e
      exact q1 e _ ⟨hL, e, d, h1, h2⟩ h3
end My

set_option Elab.async false
set_option linter.all false
set_option maxRecDepth 100000
set_option maxHeartbeats 4000000
namespace My
open PySem PySem.Spec PyProof.Rows L2 DL
open Evl (Ex)
/-! ### data that can be compared -/
structure Nice (n : Nat) (d : D) : Prop where
  p : d.pure = true
  c : d.py.canLay0 = true
  h : d.py.depth ≤ n
  e : PyData.eqv d.py d.py = true
theorem Nice.sh {n : Nat} {d : D} (h : Nice n d) (hn : n ≤ 64) : SeqAt.shaped d.py = true := by
  unfold SeqAt.shaped
  rw [h.c, decide_eq_true (Nat.le_trans h.h hn)] <;> rfl
theorem Nice.ne {n : Nat} {x y : D} {P : Prop} (h : Nice n x) (e : x = y) (g : (!PyData.eqv x.py y.py) = true) : P := by
  subst e
  rw [h.e] at g
  cases g
theorem Nice.int {n : Nat} (i : Int) : Nice n (.int i) := ⟨rfl, rfl, Nat.zero_le _, by show PyData.eqv (.int i) (.int i) = true; simp [PyData.eqv]⟩
theorem Nice.str {n : Nat} {x : Str} (h : PyData.strOk x = true) : Nice n (.str x) := ⟨rfl, h, Nat.zero_le _, by show PyData.eqv (.str x) (.str x) = true; simp [PyData.eqv]⟩
theorem nices {n : Nat} : ∀ {ds : List D}, (∀ d ∈ ds, Nice n d) → pures ds = true ∧ PyData.canLayAll0 (pys ds) = true ∧ PyData.depthAll (pys ds) ≤ n ∧ PyData.eqvAll (pys ds) (pys ds) = true
  | [], _ => ⟨rfl, rfl, Nat.zero_le _, rfl⟩
  | d :: ds, h => by
    have h1 := h d (List.mem_cons_self ..)
    obtain ⟨g1, g2, g3, g4⟩ := nices fun x hx => h x (List.mem_cons_of_mem _ hx)
    refine ⟨?_, ?_, ?_, ?_⟩
    · show (d.pure && pures ds) = true
      rw [h1.p, g1] <;> rfl
    · show (d.py.canLay0 && PyData.canLayAll0 (pys ds)) = true
      rw [h1.c, g2] <;> rfl
    · show max d.py.depth (PyData.depthAll (pys ds)) ≤ n
      have := h1.h
      omega
    · show (PyData.eqv d.py d.py && PyData.eqvAll (pys ds) (pys ds)) = true
      rw [h1.e, g4] <;> rfl
theorem Nice.tup {n : Nat} {ds : List D} (h : ∀ d ∈ ds, Nice n d) : Nice (n + 1) (.tup ds) := by
  obtain ⟨g1, g2, g3, g4⟩ := nices h
  refine ⟨g1, g2, ?_, ?_⟩
  · show PyData.depthAll (pys ds) + 1 ≤ n + 1
    omega
  · show PyData.eqv (.tuple (pys ds)) (.tuple (pys ds)) = true
    unfold PyData.eqv
    exact g4
theorem Nice.lst {n : Nat} {ds : List D} (h : ∀ d ∈ ds, Nice n d) : Nice (n + 1) (.lst ds) := by
  obtain ⟨g1, g2, g3, g4⟩ := nices h
  refine ⟨g1, g2, ?_, ?_⟩
  · show PyData.depthAll (pys ds) + 1 ≤ n + 1
    omega
  · show PyData.eqv (.list (pys ds)) (.list (pys ds)) = true
    unfold PyData.eqv
    exact g4
theorem Nice.nil {n : Nat} : ∀ d ∈ ([] : List D), Nice n d := fun _ h => absurd h List.not_mem_nil
theorem Nice.cons {n : Nat} {d : D} {ds : List D} (h : Nice n d) (g : ∀ x ∈ ds, Nice n x) : ∀ x ∈ d :: ds, Nice n x := List.forall_mem_cons.mpr ⟨h, g⟩
theorem strOk_st {t : List Nat} (h : ∀ c ∈ t, c < 1114112) : PyData.strOk (st t) = true := by
  unfold PyData.strOk st
  rw [Array.all_eq_true]
  intro i hi
  have hi : i < t.length := hi
  exact decide_eq_true (h _ (by simp))
theorem nice_W {n : Nat} {t : List Nat} (h : ∀ c ∈ t, c < 1114112) : Nice n (W t) := Nice.str (strOk_st h)
theorem nice_row (n : Nat) (r : List Nat) : Nice (n + 1) (rowD r) := Nice.tup fun d h => by
  obtain ⟨i, _, rfl⟩ := List.mem_map.mp h
  exact Nice.int _
theorem nice_ly {l : Ly} (h : l.Ok) : Nice 3 l.d := by
  have hw : ∀ c ∈ l.wd, c < 1114112 := by
    have key : ((List.range 5).all fun i => (sgs (WD.getD i "")).all fun c => decide (c < 1114112)) = true := by decide +kernel
    rw [wd_eq]
    have := all_range key (tag_lt l)
    rw [List.all_eq_true] at this
    exact fun c hc => of_decide_eq_true (this c hc)
  have hn : ∀ c ∈ l.nm, c < 1114112 := fun c hc => by
    have := h.nm.low c hc
    omega
  refine Nice.tup (Nice.cons (nice_W hw) (Nice.cons (nice_W hn) (Nice.cons ?_ Nice.nil)))
  cases l with
  | note m t =>
    exact Nice.tup (n := 1) fun d hd => by
      obtain ⟨r, _, rfl⟩ := List.mem_map.mp hd
      exact nice_row 0 r
  | outside m ws => exact nice_row 1 ws
  | _ => exact Nice.int _
theorem nice_lys {L : List Ly} (h : LOk L) : Nice 4 (lysD L) := Nice.tup fun d hd => by
  obtain ⟨l, hl, rfl⟩ := List.mem_map.mp hd
  exact nice_ly (h l hl)
/-! ### the book's answers -/
theorem ix_lay {L : List Ly} {k : Int} {i : Nat} {l : Ly} (h : LayAt L k i l) : atI (L.map Ly.d) (k - 1) = some l.d := by
  rw [h.1, show ((i : Int) + 1 - 1) = (i : Nat) by omega]
  refine atI_nat ?_
  rw [List.getElem?_map, h.2] <;> rfl
theorem red_Book_word_at (cs : Cs) : ∀ ds M Φ Ψ, S_Book_word_at cs ds M Φ Ψ → r_Book_word_at cs (ends Φ) (startD 2 ds) M := by
  rintro ds M Φ Ψ ⟨b, kn, L, k, i, l, rfl, ⟨_, _, d, hb, _⟩, hl, q⟩
  exact ⟨_, _, hb, rfl, _, ix_lay hl, _, rfl, q⟩
theorem red_Book_count_at (cs : Cs) : ∀ ds M Φ Ψ, S_Book_count_at cs ds M Φ Ψ → r_Book_count_at cs (ends Φ) (startD 5 ds) M := by
  rintro ds M Φ Ψ ⟨b, kn, L, k, i, l, rfl, ⟨_, _, d, hb, _⟩, hl, q⟩
  refine ⟨_, _, hb, rfl, _, ix_lay hl, rfl, rfl, rfl, bsE (w_no l) ?_⟩
  cases l with
  | note nm t =>
    have e : ((t.map rowD).length : Int) = (t.length : Nat) := by rw [List.length_map]
    show Φ (.int _) M
    rw [e]
    exact q
  | outside nm ar =>
    have e : ((ar.map ni).length : Int) = (ar.length : Nat) := by rw [List.length_map]
    show Φ (.int _) M
    rw [e]
    exact q
  | _ => exact q
theorem red_Book_product (cs : Cs) : ∀ ds M Φ Ψ, S_Book_product cs ds M Φ Ψ → r_Book_product cs (ends Φ) (startD 4 ds) M := by
  rintro ds M Φ Ψ ⟨b, kn, L, k, i, x, y, u, v, w, m, r, t, rfl, ⟨_, _, d, hb, _⟩, hl, hx, hy, h1, h2, q⟩
  exact ⟨_, _, hb, rfl, _, ix_lay hl, _, rfl, _, ix_nat hx (tab_at h1), _, ix_nat hy (row_at h2), q⟩
theorem red_Book_ways_at (cs : Cs) : ∀ ds M Φ Ψ, S_Book_ways_at cs ds M Φ Ψ → r_Book_ways_at cs (ends Φ) (startD 3 ds) M := by
  rintro ds M Φ Ψ ⟨b, kn, L, k, i, x, d', w, m, ws, rfl, ⟨_, _, d, hb, _⟩, hl, hx, h3, q⟩
  exact ⟨_, _, hb, rfl, _, ix_lay hl, _, rfl, _, ix_nat hx (row_at h3), q⟩
theorem red_Book_number_of (cs : Cs) : ∀ ds M Φ Ψ, S_Book_number_of cs ds M Φ Ψ → r_Book_number_of cs (ends Φ) (startD 2 ds) M := by
  rintro ds M Φ Ψ ⟨b, kn, L, m, rfl, ⟨_, hd, d, hb, hn⟩, q1, q2⟩
  refine ⟨_, _, hb, rfl, ⟨_, hn⟩, _, _, hn, rfl, ?_⟩
  show Φ ((getD (numsF 0 L) (.inr (st m))).getD (.int 0)) M
  by_cases z : m ∈ L.map Ly.nm
  · obtain ⟨i0, h0⟩ := List.mem_iff_getElem?.mp z
    rw [List.getElem?_map] at h0
    obtain ⟨l, hl, rfl⟩ := Option.map_eq_some_iff.mp h0
    rw [nums_get hl (book_fresh hd hl), Nat.zero_add]
    exact q1 i0 l hl rfl
  · rw [getD_none (fun w => z (nums_in.mp w))]
    exact q2 fun l hl e => z (List.mem_map.mpr ⟨l, hl, e⟩)
theorem red_like_books (cs : Cs) : ∀ ds M Φ Ψ, S_like_books cs ds M Φ Ψ → r_like_books cs (ends Φ) (startD 2 ds) M := by
  rintro ds M Φ Ψ ⟨b, c, kn, L, rfl, ⟨hL, _, d, hb, _⟩, ⟨_, _, d2, hc, _⟩, q⟩
  have nl := nice_lys hL
  refine ⟨_, _, hb, rfl, _, _, hc, rfl, fun _ => ?_, fun h => dF rfl h⟩
  refine ⟨_, _, hb, rfl, _, _, hc, rfl, nl.p, nl.p, nl.sh (by decide), nl.sh (by decide), ?_⟩
  rw [nl.e]
  exact q
/-! ### faults of lines -/
theorem inD_strs {z : Str} : ∀ {xs : List Str}, inD (.str z) (xs.map D.str) = decide (z ∈ xs)
  | [] => by rfl
  | x :: xs => by
    have ih := inD_strs (z := z) (xs := xs)
    unfold inD inV at ih ⊢
    rw [List.map_cons, List.map_cons, List.any_cons, ih]
    show (decide (x = z) || decide (z ∈ xs)) = _
    by_cases e : x = z
    · rw [decide_eq_true e, decide_eq_true (show z ∈ x :: xs by rw [e]; exact List.mem_cons_self)] <;> rfl
    · rw [decide_eq_false e, Bool.false_or, decide_eq_decide, List.mem_cons]
      constructor
      · exact .inr
      · rintro (h | h)
        · exact absurd h.symm e
        · exact h
theorem inD_wd (w : List Nat) : inD (W w) [.str (Str.ofString "cell"), .str (Str.ofString "setting"), .str (Str.ofString "note"), .str (Str.ofString "fail"), .str (Str.ofString "outside")] = isWd w := inD_strs (xs := ["cell", "setting", "note", "fail", "outside"])
theorem inD_one (w : List Nat) : inD (W w) [.str (Str.ofString "cell"), .str (Str.ofString "setting"), .str (Str.ofString "fail")] = isOne w := inD_strs (xs := ["cell", "setting", "fail"])
theorem red_is_extent (cs : Cs) : ∀ ds M Φ Ψ, S_is_extent cs ds M Φ Ψ → r_is_extent cs (ends Φ) (startD 2 ds) M := by
  rintro ds M Φ Ψ ⟨w, t, rfl, ht, q⟩
  unfold extOk at q
  refine ⟨fun h => ?_, fun h => ?_⟩
  · have e : w = sgs "note" := st_inj (of_decide_eq_true h)
    rw [if_pos e] at q
    exact ⟨t, rfl, q⟩
  · have e : w ≠ sgs "note" := fun e => of_decide_eq_false h (by rw [e]; rfl)
    rw [if_neg e] at q
    exact ⟨t, rfl, ht, q⟩
theorem red_kernel_fault (cs : Cs) : ∀ ds M Φ Ψ, S_kernel_fault cs ds M Φ Ψ → r_kernel_fault cs (ends Φ) (startD 1 ds) M := by
  rintro ds M Φ Ψ ⟨p, a, b, rfl, hp, hb, q1, q2, q3⟩
  refine ⟨_, hp, fun _ => ?_, fun h => tf h⟩
  refine ⟨_, hp, _, rfl, fun h => ?_, fun h => ?_⟩
  · refine q1 fun e => ?_
    rw [e] at h
    rw [show decide (st (sgs "kernel") = Str.ofString "kernel") = true from decide_eq_true rfl] at h
    cases h
  · have e : a = sgs "kernel" := by
      rw [Bool.not_eq_false'] at h
      exact st_inj (of_decide_eq_true h)
    refine ⟨_, hp, fun h => absurd (show ((2 : Nat) : Int) < 2 from of_decide_eq_true h) (by decide), fun _ => ⟨_, hp, _, rfl, ?_⟩⟩
    rcases hb with hb | hb
    · exact .inl ⟨kn_mem hb, fun h => ff h, fun _ => ⟨_, hp, fun h => absurd (show ((2 : Nat) : Int) > 2 from of_decide_eq_true h) (by decide), fun _ => q3 e hb⟩⟩
    · refine .inr ⟨?_, fun _ => q2 e hb, fun h => tf h⟩
      rcases hb with rfl | rfl
      · exact List.mem_cons_self
      · exact List.mem_cons_of_mem _ List.mem_cons_self
theorem ws_at {ts : List (List Nat)} {i : Nat} {t : List Nat} (h : ts[i]? = some t) : (WS ts)[i]? = some (W t) := by
  unfold WS
  rw [List.getElem?_map, h] <;> rfl
/-- the fault of a row of at least two good words -/
theorem red_layer_fault (cs : Cs) : ∀ ds M Φ Ψ, S_layer_fault cs ds M Φ Ψ → r_layer_fault cs (ends Φ) (startD 2 ds) M := by
  rintro ds M Φ Ψ ⟨p, ts, rfl, hp, hl, hs, q⟩
  have bl : ∀ t ∈ ts, t.length ≤ BL := fun t ht => by
    have := hs t ht
    show t.length ≤ 2000000
    omega
  cases ts with
  | nil => exact ⟨_, hp, fun h => ff h, fun _ => q⟩
  | cons w r =>
  refine ⟨_, hp, fun _ => ?_, fun h => tf h⟩
  refine ⟨_, hp, W w, ix_nat (i := 0) rfl rfl, rfl, rfl, ?_⟩
  unfold layF at q
  dsimp only at q
  refine bsE (b := !isWd w) (by rw [← inD_wd] <;> rfl) ?_
  cases hw : isWd w with
  | false =>
    rw [if_pos hw] at q
    exact q
  | true =>
  rw [if_neg (by rw [hw]; decide)] at q
  show r_layer_fault_1 cs (ends Φ) [.d (.ref p), .un] M
  cases r with
  | nil => exact ⟨_, hp, fun _ => q, fun h => dF (show ((1 : Nat) : Int) < 2 by decide) h⟩
  | cons m es =>
  have e2 : ((WS (w :: m :: es)).length : Nat) = es.length + 2 := WS_len
  have hes : es.length ≤ 98 := by
    rw [List.length_cons, List.length_cons] at hl
    omega
  refine ⟨_, hp, fun h => ?_, fun _ => ?_⟩
  · have h : (((WS (w :: m :: es)).length : Nat) : Int) < 2 := of_decide_eq_true h
    omega
  refine ⟨_, hp, W m, ix_nat (i := 1) rfl rfl, m, rfl, bl m (by simp), ?_⟩
  cases hm : nameOk m with
  | false =>
    dsimp only at q
    rw [if_pos hm] at q
    exact bsI q
  | true =>
  dsimp only at q
  rw [if_neg (by rw [hm]; decide)] at q
  refine bsI ?_
  show r_layer_fault_2 cs (ends Φ) [.d (.ref p), .un] M
  refine ⟨_, hp, ⟨by decide, by decide, by omega, by omega⟩, ?_⟩
  rw [e2, show (((es.length + 2 : Nat) : Int) - 2).toNat = es.length by omega]
  refine ⟨fun i Δ M' => Δ = [.d (.ref p), .un] ∧ M' = M ∧ ∀ t ∈ es.take i, extOk w t = true, ⟨rfl, rfl, fun r h => by cases h⟩, ?_, ?_⟩
  · rintro i x Δ1 M1 hx ⟨rfl, rfl, g⟩
    obtain ⟨hi, rfl⟩ := rangeD_some hx
    obtain ⟨t, ht⟩ : ∃ t, es[i]? = some t := ⟨_, List.getElem?_eq_getElem hi⟩
    have hat : (w :: m :: es)[i + 2]? = some t := by simpa using ht
    refine ⟨_, hp, W w, ix_nat (i := 0) rfl rfl, _, hp, W t, ix_nat (show (2 : Int) + (i : Nat) = ((i + 2 : Nat) : Int) by omega) (ws_at hat), w, t, rfl, bl t (List.mem_of_getElem? hat), ?_⟩
    cases ht2 : extOk w t with
    | false =>
      have hf : es.findIdx? (fun t => !extOk w t) = some i := by
        rw [List.findIdx?_eq_some_iff_getElem]
        refine ⟨hi, ?_, fun j hj => ?_⟩
        · rw [List.getElem?_eq_getElem hi] at ht
          rw [Option.some.inj ht, ht2] <;> rfl
        · have : es[j] ∈ es.take i := List.mem_take_iff_getElem.mpr ⟨j, by omega, rfl⟩
          rw [g _ this]
          decide
      rw [hf] at q
      refine bsI ?_
      show Φ (.int (2 + (i : Nat) + 1)) M1
      rw [show (2 : Int) + (i : Nat) + 1 = ((i + 3 : Nat) : Int) by omega]
      exact q
    | true =>
      refine bsI ⟨rfl, rfl, fun t' h' => ?_⟩
      rw [take_succ ht] at h'
      rcases List.mem_append.mp h' with h' | h'
      · exact g t' h'
      · rw [List.mem_singleton.mp h']
        exact ht2
  · rintro Δ1 M1 ⟨rfl, rfl, g⟩
    rw [rangeD_len, List.take_length] at g
    have hf : es.findIdx? (fun t => !extOk w t) = none := by
      rw [List.findIdx?_eq_none_iff]
      intro t ht
      rw [g t ht] <;> rfl
    rw [hf] at q
    dsimp only at q
    refine ⟨_, hp, fun h => ?_, fun h => ?_⟩
    · have h : (((WS (w :: m :: es)).length : Nat) : Int) < 3 := of_decide_eq_true h
      have : es = [] := List.length_eq_zero_iff.mp (by omega)
      rw [if_pos this] at q
      exact q
    · have h : ¬ (((WS (w :: m :: es)).length : Nat) : Int) < 3 := of_decide_eq_false h
      have ne : es ≠ [] := fun e => by
        have z := congrArg List.length e
        rw [List.length_nil] at z
        omega
      rw [if_neg ne] at q
      refine ⟨_, hp, W w, ix_nat (i := 0) rfl rfl, rfl, rfl, bsE (inD_one w) ?_⟩
      cases h1 : isOne w with
      | false =>
        rw [if_neg (by rw [h1]; rintro ⟨z, _⟩; cases z)] at q
        exact q
      | true =>
        refine ⟨_, hp, fun h => ?_, fun h => ?_⟩
        · have h : (((WS (w :: m :: es)).length : Nat) : Int) > 3 := of_decide_eq_true h
          rw [if_pos ⟨h1, by omega⟩] at q
          exact q
        · have h : ¬ (((WS (w :: m :: es)).length : Nat) : Int) > 3 := of_decide_eq_false h
          rw [if_neg (by rintro ⟨_, z⟩; omega)] at q
          exact q
end My

set_option Elab.async false
set_option linter.all false
set_option maxRecDepth 100000
set_option maxHeartbeats 4000000
namespace My
open PySem PySem.Spec PyProof.Rows L2 DL
open Evl (Ex)
/-! ### comprehensions -/
theorem lcGo_by {α : Type} {vs : List Nat} {tg : RG} {r : RE} {f g : α → D} {Δ0 : List Sl} {M : Mem} {Ψ : List D → List Sl → Mem → Prop} : ∀ {as : List α} {acc : List D},
    (∀ a ∈ as, ∀ (Θ : D → List Sl → Mem → Prop), (∀ Δ3, wipeD Δ3 vs = Δ0 → Θ (g a) Δ3 M) → tg (f a) Δ0 fun Δ1 => r Δ1 M Θ) → Ψ (acc ++ as.map g) Δ0 M → lcGo vs tg dYes r (as.map f) Δ0 acc M Ψ
  | [], acc, _, k => by
    rw [List.map_nil, List.append_nil] at k
    exact k
  | a :: as, acc, h, k => by
    refine h a List.mem_cons_self (fun d Δ3 M3 => lcGo vs tg dYes r (as.map f) (wipeD Δ3 vs) (acc ++ [d]) M3 Ψ) ?_
    intro Δ3 e
    show lcGo vs tg dYes r (as.map f) (wipeD Δ3 vs) (acc ++ [g a]) M Ψ
    rw [e]
    refine lcGo_by (fun b hb => h b (List.mem_cons_of_mem _ hb)) ?_
    rw [List.map_cons] at k
    rw [List.append_assoc]
    exact k
/-! ### rows of digits -/
theorem low10 {n : Nat} (h : n < 10) : ((n : Nat) : Int).natAbs.log2 < 1920 := by
  have key : ((List.range 10).all fun n => decide (n.log2 < 1920)) = true := by decide +kernel
  rw [Int.natAbs_natCast]
  exact of_decide_eq_true (all_range key h)
theorem dg_len (n : Nat) : (st (dg n)).length = 1 := st_len _
theorem ints_dg {r : List Nat} (h : ∀ x ∈ r, x < 10) : ((r.map fun x => st (dg x)).map fun z => D.int ((PySem.intText? z).getD 0)) = r.map ni := by
  rw [List.map_map]
  refine List.map_congr_left fun x hx => ?_
  show D.int ((PySem.intText? (st (dg x))).getD 0) = ni x
  rw [int_dg (h x hx)] <;> rfl
theorem dgs_some {r : List Nat} (h : ∀ x ∈ r, x < 10) : ∀ z ∈ r.map fun x => st (dg x), (PySem.intText? z).isSome = true ∧ z.length ≤ 640 := by
  intro z hz
  obtain ⟨x, hx, rfl⟩ := List.mem_map.mp hz
  rw [int_dg (h x hx), dg_len]
  exact ⟨rfl, by decide⟩
theorem dgs_txt {r : List Nat} (h : ∀ x ∈ r, x < 10) : ((intsN r).map fun n => (toString n : Str)) = (r.map dg).map st := by
  rw [List.map_map, List.map_map]
  exact List.map_congr_left fun x hx => str_dg (h x hx)
theorem dgs_sum : ∀ r : List Nat, ((((r.map dg).map st).map (·.length)).sum) = r.length
  | [] => rfl
  | x :: r => by
    rw [List.map_cons, List.map_cons, List.map_cons, List.sum_cons, dgs_sum r, dg_len, List.length_cons]
    omega
theorem rowT_flat : ∀ r : List Nat, (r.map dg).flatten = rowT r
  | [] => rfl
  | x :: r => by
    rw [List.map_cons, List.flatten_cons, rowT_flat r] <;> rfl
theorem red_layer_of (cs : Cs) : ∀ ds M Φ Ψ, S_layer_of cs ds M Φ Ψ → r_layer_of cs (ends Φ) (startD 5 ds) M := by
  rintro ds M Φ Ψ ⟨p, l, rfl, hp, hok, q⟩
  have hl := Ly.words_len hok
  refine ⟨_, hp, ?_, ?_, ?_⟩
  · rw [WS_len]
    show 2 ≤ _
    omega
  · rw [WS_len]
    omega
  show r_layer_of_1 cs (ends Φ) [.d (.ref p), .d (W l.wd), .d (W l.nm), .d (.lst (WS l.ex)), .un] M
  cases l with
  | note m t =>
    have ht : TabS t := hok.2
    refine ⟨fun _ => ?_, fun h => tf ((w_note (.note m t)).symm.trans h)⟩
    refine ⟨szl (by rw [WS_len]; show (t.map rowT).length ≤ _; rw [List.length_map]; have := ht.2.1; omega), ?_⟩
    show lcGo [4] (tgN 4) dYes (dTupMapI (dVar 4)) (WS (t.map rowT)) [.d (.ref p), .d (W (Ly.note m t).wd), .d (W m), .d (.lst (WS (t.map rowT))), .un] [] M _
    rw [show WS (t.map rowT) = t.map fun r => W (rowT r) from List.map_map]
    refine lcGo_by (g := rowD) (fun r hr Θ k => ?_) q
    have h9 : ∀ x ∈ r, x < 10 := (ht.2.2 r hr).2
    refine ⟨sz ?_, r.map fun x => st (dg x), ?_, dgs_some h9, ?_⟩
    · show (st (rowT r)).length ≤ _
      rw [st_len, rowT, List.length_map, (ht.2.2 r hr).1]
      have := ht.2.1
      omega
    · show (rowT r).map _ = _
      rw [rowT, List.map_map, List.map_map] <;> rfl
    · rw [ints_dg h9]
      exact k _ rfl
  | outside m ws =>
    have h9 : ∀ x ∈ ws, x < 10 := hok.2.2.2
    refine ⟨fun h => tf (h.symm.trans (w_note (.outside m ws))), fun _ => ⟨fun _ => ?_, fun h => tf ((w_outside (.outside m ws)).symm.trans h)⟩⟩
    refine ⟨ws.map fun x => st (dg x), ?_, dgs_some h9, ?_⟩
    · show WS (ws.map dg) = _
      unfold WS
      rw [List.map_map, List.map_map] <;> rfl
    · rw [ints_dg h9]
      exact q
  | cell m n => exact ⟨fun h => tf (h.symm.trans (w_note (.cell m n))), fun _ => ⟨fun h => tf (h.symm.trans (w_outside (.cell m n))), fun _ => ⟨_, rfl, _, int_dg hok.2, by rw [dg_len]; decide, q⟩⟩⟩
  | setting m n => exact ⟨fun h => tf (h.symm.trans (w_note (.setting m n))), fun _ => ⟨fun h => tf (h.symm.trans (w_outside (.setting m n))), fun _ => ⟨_, rfl, _, int_dg hok.2, by rw [dg_len]; decide, q⟩⟩⟩
  | fail m n => exact ⟨fun h => tf (h.symm.trans (w_note (.fail m n))), fun _ => ⟨fun h => tf (h.symm.trans (w_outside (.fail m n))), fun _ => ⟨_, rfl, _, int_dg hok.2, by rw [dg_len]; decide, q⟩⟩⟩
theorem join_sp (ts : List (List Nat)) : Txt.join (Str.ofString " ") (ts.map st) = st (joinS 32 ts) := by
  rw [l_sp]
  exact join_st 32 ts
theorem l_nl : Str.ofString "\n" = st [10] := lit (by decide +kernel)
theorem join_nl (ts : List (List Nat)) : Txt.join (Str.ofString "\n") (ts.map st) = st (joinS 10 ts) := by
  rw [l_nl]
  exact join_st 10 ts
theorem sum_le {b : Nat} : ∀ {ts : List (List Nat)}, (∀ t ∈ ts, t.length ≤ b) → ((ts.map st).map (·.length)).sum ≤ ts.length * b
  | [], _ => Nat.zero_le _
  | t :: r, h => by
    have h1 := h t List.mem_cons_self
    have h2 := sum_le (ts := r) fun x hx => h x (List.mem_cons_of_mem _ hx)
    rw [List.map_cons, List.map_cons, List.sum_cons, st_len, List.length_cons, Nat.add_mul, Nat.one_mul]
    omega
theorem red_extent_text (cs : Cs) : ∀ ds M Φ Ψ, S_extent_text cs ds M Φ Ψ → r_extent_text cs (ends Φ) (startD 3 ds) M := by
  rintro ds M Φ Ψ ⟨l, rfl, hok, q⟩
  cases l with
  | note m t =>
    have ht : TabS t := hok.2
    have hl := ht.2.1
    refine ⟨fun _ => ?_, fun h => tf ((w_note (.note m t)).symm.trans h)⟩
    refine ⟨trivial, szl (by rw [List.length_map]; omega), ?_⟩
    show lcGo [2] (tgN 2) dYes (dJoinMapI (dC (.str (Str.ofString ""))) (dVar 2)) (t.map rowD) [.d (W (Ly.note m t).wd), .d (tabD t), .un] [] M _
    have hr4 : ∀ r ∈ t, r.length ≤ 4 := fun r hr => by
      rw [(ht.2.2 r hr).1]
      exact hl
    refine lcGo_by (g := fun r => W (rowT r)) (fun r hr Θ k => ?_) ?_
    · have h9 : ∀ x ∈ r, x < 10 := (ht.2.2 r hr).2
      refine ⟨trivial, intsN r, ?_, ?_, ?_, ?_⟩
      · show r.map ni = _
        rw [List.map_map] <;> rfl
      · intro n hn
        obtain ⟨x, hx, rfl⟩ := List.mem_map.mp hn
        exact low10 (h9 x hx)
      · rw [dgs_txt h9, dgs_sum, l_no, st_len, List.length_nil, Nat.mul_zero]
        have := hr4 r hr
        omega
      · rw [dgs_txt h9, l_no, join_nil, rowT_flat]
        exact k _ rfl
    · refine ⟨(t.map rowT).map st, ?_, ?_, ?_⟩
      · rw [List.nil_append, List.map_map, List.map_map] <;> rfl
      · have := sum_le (b := 4) (ts := t.map rowT) fun x hx => by
          obtain ⟨r, hr, rfl⟩ := List.mem_map.mp hx
          rw [rowT, List.length_map]
          exact hr4 r hr
        rw [List.length_map] at this
        rw [List.length_map, List.length_map, l_sp, st_len]
        show _ + _ * 1 ≤ _
        omega
      · rw [join_sp]
        exact q
  | outside m ws =>
    have h9 : ∀ x ∈ ws, x < 10 := hok.2.2.2
    refine ⟨fun h => tf (h.symm.trans (w_note (.outside m ws))), fun _ => ⟨fun _ => ?_, fun h => tf ((w_outside (.outside m ws)).symm.trans h)⟩⟩
    refine ⟨trivial, intsN ws, ?_, ?_, ?_, ?_⟩
    · show ws.map ni = _
      rw [List.map_map] <;> rfl
    · intro n hn
      obtain ⟨x, hx, rfl⟩ := List.mem_map.mp hn
      exact low10 (h9 x hx)
    · rw [dgs_txt h9, dgs_sum, l_sp, st_len, List.length_map]
      have := hok.2.2.1
      show _ + _ * 1 ≤ _
      omega
    · rw [dgs_txt h9, join_sp]
      exact q
  | cell m n =>
    refine ⟨fun h => tf (h.symm.trans (w_note (.cell m n))), fun _ => ⟨fun h => tf (h.symm.trans (w_outside (.cell m n))), fun _ => ⟨low10 hok.2, ?_⟩⟩⟩
    rw [str_dg hok.2]
    exact q
  | setting m n =>
    refine ⟨fun h => tf (h.symm.trans (w_note (.setting m n))), fun _ => ⟨fun h => tf (h.symm.trans (w_outside (.setting m n))), fun _ => ⟨low10 hok.2, ?_⟩⟩⟩
    rw [str_dg hok.2]
    exact q
  | fail m n =>
    refine ⟨fun h => tf (h.symm.trans (w_note (.fail m n))), fun _ => ⟨fun h => tf (h.symm.trans (w_outside (.fail m n))), fun _ => ⟨low10 hok.2, ?_⟩⟩⟩
    rw [str_dg hok.2]
    exact q
end My

set_option Elab.async false
set_option linter.all false
set_option maxRecDepth 100000
set_option maxHeartbeats 4000000
namespace My
open PySem PySem.Spec PyProof.Rows L2 DL
open Evl (Ex)
/-! ### a book's text -/
theorem app_len (x y : Str) : (x ++ y).length = x.length + y.length := by
  show (x.cps ++ y.cps).size = _
  rw [Array.size_append] <;> rfl
theorem emp_app (x : Str) : Str.empty ++ x = x := str_ext (by
  show (Str.empty.cps ++ x.cps).toList = _
  rw [Array.toList_append] <;> rfl)
theorem emp_len : (Str.empty).length = 0 := rfl
theorem kn_len {kn : List Nat} (h : KnOk kn) : kn.length ≤ 9 := h.tok.2.2
theorem ker_sp : Str.ofString "kernel " = st (sgs "kernel" ++ [32]) := lit (by decide +kernel)
theorem tok_sum {ts : List (List Nat)} (h : ∀ t ∈ ts, Tok9 t) (h6 : ts.length ≤ 6) : (joinS 32 ts).length ≤ 60 := by
  have := joinS_len 32 (b := 9) fun t ht => (h t ht).2.2
  omega
theorem line_len {k : Bool} {kn : List Nat} {L : List Ly} (hk : KnIn k kn) (hL : LOk L) : ∀ t ∈ (linesF kn L).map (joinS 32), t.length ≤ 60 := by
  intro t ht
  obtain ⟨ts, hts, rfl⟩ := List.mem_map.mp ht
  obtain ⟨_, h1, h2⟩ := lines_tok hk hL ts hts
  exact tok_sum h2 h1
theorem lines_len (kn : List Nat) (L : List Ly) : (linesF kn L).length = L.length + 1 := by
  unfold linesF
  rw [List.length_cons, List.length_map]
theorem text_len {k : Bool} {kn : List Nat} {L : List Ly} (hk : KnIn k kn) (hL : LOk L) (h6 : L.length ≤ 6) : (textF kn L).length ≤ 427 := by
  have := joinS_len 10 (b := 60) (line_len hk hL)
  rw [List.length_map, lines_len] at this
  unfold textF
  omega
theorem knin {kn : List Nat} (h : KnOk kn) : KnIn true kn := by
  unfold KnIn
  rw [if_pos rfl]
  exact h
theorem red_write_book (cs : Cs) : ∀ ds M Φ Ψ, S_write_book cs ds M Φ Ψ → r_write_book cs (ends Φ) (startD 5 ds) M := by
  rintro ds M Φ Ψ ⟨b, kn, L, rfl, ⟨hL, hd, d, hb, _⟩, hk, q⟩
  have h5 := (due_ok hd).1
  have kl := kn_len hk
  have k6 : (Str.ofString "kernel ").length = 7 := by rw [ker_sp, st_len] <;> decide +kernel
  have lk : (st kn).length = kn.length := st_len kn
  refine ⟨sz (by rw [app_len, k6, emp_len]; omega), _, _, hb, rfl, sz (by rw [lk]; omega), sz (by rw [app_len, app_len, k6, lk, emp_len]; omega), ?_⟩
  have e0 : Str.empty ++ Str.ofString "kernel " ++ st kn = st (joinS 32 [sgs "kernel", kn]) := by
    rw [emp_app, ker_sp, st_app, List.append_assoc] <;> rfl
  show r_write_book_1 cs (ends Φ) [.d (.ref b), .own [.str (Str.empty ++ Str.ofString "kernel " ++ st kn)], .un, .un, .un] M
  rw [e0]
  refine ⟨_, _, hb, rfl, ?_⟩
  refine ⟨fun i Δ M' => Δ = [.d (.ref b), .own (WS ((linesF kn (L.take i)).map (joinS 32))), .un, .un, .un] ∧ M' = M, ⟨rfl, rfl⟩, ?_, ?_⟩
  · rintro i x Δ1 M1 hx ⟨rfl, rfl⟩
    rw [List.getElem?_map] at hx
    obtain ⟨l, hl, rfl⟩ := Option.map_eq_some_iff.mp hx
    have hi := lt_of_some hl
    have hok := hL l (List.mem_of_getElem? hl)
    have t1 : l.wd.length ≤ 9 := l.wd_tok.2.2
    have t2 : l.nm.length ≤ 9 := hok.nm.tok.2.2
    have t3 : (joinS 32 l.ex).length ≤ 60 := tok_sum (Ly.ex_tok hok) (by have := Ly.ex_len hok; omega)
    have b1 : (st l.wd).length = l.wd.length := st_len _
    have b2 : (st l.nm).length = l.nm.length := st_len _
    have b3 : (st (joinS 32 l.ex)).length = (joinS 32 l.ex).length := st_len _
    have b4 : (Str.ofString " ").length = 1 := by rw [l_sp, st_len] <;> rfl
    refine ⟨rfl, ⟨_, rfl⟩, ?_⟩
    refine ⟨sz (by omega), sz (by rw [app_len, emp_len]; omega), sz (by rw [app_len, app_len, emp_len]; omega), sz (by omega), sz (by rw [app_len, app_len, app_len, emp_len]; omega), sz (by rw [app_len, app_len, app_len, app_len, emp_len]; omega), l, rfl, hok, sz (by omega), sz (by rw [app_len, app_len, app_len, app_len, app_len, emp_len]; omega), ?_, ?_, rfl⟩
    · rw [WS_len, List.length_map, lines_len, List.length_take]
      exact szl (by omega)
    · have e : Str.empty ++ st l.wd ++ Str.ofString " " ++ st l.nm ++ Str.ofString " " ++ st (joinS 32 l.ex) = st (joinS 32 l.words) := by
        rw [emp_app, l_sp, st_app, st_app, st_app, st_app]
        congr 1
        have hne : l.ex ≠ [] := fun z => by
          have := (Ly.ex_len hok).1
          rw [z] at this
          exact absurd this (by decide)
        unfold Ly.words
        cases hex : l.ex with
        | nil => exact absurd hex hne
        | cons u r =>
          show _ = l.wd ++ 32 :: (l.nm ++ 32 :: joinS 32 (u :: r))
          simp
      show [_, Sl.own (WS ((linesF kn (L.take i)).map (joinS 32)) ++ [.str (Str.empty ++ st l.wd ++ Str.ofString " " ++ st l.nm ++ Str.ofString " " ++ st (joinS 32 l.ex))]), _, _, _] = _
      rw [e, take_succ hl]
      have : WS ((linesF kn (L.take i)).map (joinS 32)) ++ [.str (st (joinS 32 l.words))] = WS ((linesF kn (L.take i ++ [l])).map (joinS 32)) := by
        unfold linesF WS
        simp [W]
      rw [this] <;> rfl
  · rintro Δ1 M1 ⟨rfl, rfl⟩
    rw [List.length_map, List.take_length]
    refine ⟨trivial, ((linesF kn L).map (joinS 32)).map st, ?_, ?_, ?_⟩
    · unfold WS
      rw [List.map_map, List.map_map, List.map_map] <;> rfl
    · have s1 := sum_le (line_len (knin hk) hL)
      have b5 : (Str.ofString "\n").length = 1 := by rw [l_nl, st_len] <;> rfl
      rw [List.length_map, lines_len] at s1
      rw [List.length_map, List.length_map, lines_len, b5]
      omega
    · rw [join_nl]
      exact q
end My

set_option Elab.async false
set_option linter.all false
set_option maxRecDepth 100000
set_option maxHeartbeats 4000000
namespace My
open PySem PySem.Spec PyProof.Rows L2 DL
open Evl (Ex)
/-! ### good lines -/
theorem ext_dg {w : List Nat} {n : Nat} (h : n < 10) (hw : w ≠ sgs "note") : extOk w (dg n) = true := by
  unfold extOk
  rw [if_neg hw]
  unfold numI
  rw [num_dg h]
  exact decide_eq_true (by show (0 : Int) ≤ (n : Nat); omega)
theorem ext_row {r : List Nat} (h : ∀ x ∈ r, x < 10) (hr : r ≠ []) : extOk (sgs "note") (rowT r) = true := by
  unfold extOk
  rw [if_pos rfl]
  unfold digsOk
  rw [decide_eq_true (by intro z; rw [rowT, List.map_eq_nil_iff] at z; exact hr z), Bool.true_and, List.all_eq_true]
  intro c hc
  obtain ⟨x, hx, rfl⟩ := List.mem_map.mp hc
  have := h x hx
  unfold isDig
  rw [decide_eq_true (show 48 ≤ 48 + x by omega), decide_eq_true (show 48 + x ≤ 57 by omega)] <;> rfl
theorem wd_is (l : Ly) : isWd l.wd = true := by
  have key : ((List.range 5).all fun i => isWd (sgs (WD.getD i ""))) = true := by decide +kernel
  rw [wd_eq]
  exact all_range key (tag_lt l)
theorem wd_one (l : Ly) : isOne l.wd = decide (l.tag ≠ 2 ∧ l.tag ≠ 4) := by
  have key : ((List.range 5).all fun i => isOne (sgs (WD.getD i "")) == decide (i ≠ 2 ∧ i ≠ 4)) = true := by decide +kernel
  rw [wd_eq]
  exact eq_of_beq (all_range key (tag_lt l))
theorem wd_ne {l : Ly} (h : l.tag ≠ 2) : l.wd ≠ sgs "note" := by
  intro e
  have := w_note l
  rw [e, show decide (st (sgs "note") = Str.ofString "note") = true from decide_eq_true rfl] at this
  exact h (of_decide_eq_true this.symm)
theorem ex_ok {l : Ly} (h : l.Ok) : ∀ t ∈ l.ex, extOk l.wd t = true := by
  cases l with
  | note m t =>
    intro u hu
    obtain ⟨r, hr, rfl⟩ := List.mem_map.mp hu
    obtain ⟨_, h2, _, h4⟩ := h
    refine ext_row (h4 r hr).2 fun e => ?_
    have := (h4 r hr).1
    rw [e, List.length_nil] at this
    omega
  | outside m ws =>
    intro u hu
    obtain ⟨x, hx, rfl⟩ := List.mem_map.mp hu
    exact ext_dg (h.2.2.2 x hx) (wd_ne (l := .outside m ws) (by show 4 ≠ 2; decide))
  | cell m n =>
    intro u hu
    rw [List.mem_singleton.mp hu]
    exact ext_dg h.2 (wd_ne (l := .cell m n) (by show 0 ≠ 2; decide))
  | setting m n =>
    intro u hu
    rw [List.mem_singleton.mp hu]
    exact ext_dg h.2 (wd_ne (l := .setting m n) (by show 1 ≠ 2; decide))
  | fail m n =>
    intro u hu
    rw [List.mem_singleton.mp hu]
    exact ext_dg h.2 (wd_ne (l := .fail m n) (by show 3 ≠ 2; decide))
theorem lay_ok {l : Ly} (h : l.Ok) : layF l.words = 0 := by
  unfold Ly.words layF
  dsimp only
  rw [if_neg (by rw [wd_is]; decide), if_neg (by rw [h.nm.name]; decide)]
  have hf : l.ex.findIdx? (fun t => !extOk l.wd t) = none := by
    rw [List.findIdx?_eq_none_iff]
    intro t ht
    rw [ex_ok h t ht] <;> rfl
  rw [hf]
  dsimp only
  have h1 := Ly.ex_len h
  rw [if_neg (fun e => by rw [e, List.length_nil] at h1; omega), if_neg]
  rintro ⟨z1, z2⟩
  rw [wd_one] at z1
  have z1 := of_decide_eq_true z1
  cases l with
  | note m t => exact z1.1 rfl
  | outside m ws => exact z1.2 rfl
  | _ => exact absurd z2 (by show ¬ 1 < 1; decide)
theorem scan_line {ts : List (List Nat)} (h0 : ts ≠ []) (h : ∀ t ∈ ts, Tok9 t) : scan (joinS 32 ts) = (ts, 0) := by
  cases ts with
  | nil => exact absurd rfl h0
  | cons t ts => exact scan_plain (h t List.mem_cons_self).plain fun x hx => (h x (List.mem_cons_of_mem _ hx)).plain
theorem scan_of {k : Bool} {kn : List Nat} {L : List Ly} (hk : KnIn k kn) (hL : LOk L) {i : Nat} {ts : List (List Nat)} (h : (linesF kn L)[i]? = some ts) : scan (joinS 32 ts) = (ts, 0) := by
  obtain ⟨h1, _, h3⟩ := lines_tok hk hL ts (List.mem_of_getElem? h)
  exact scan_line h1 h3
theorem line_good {kn : List Nat} {L : List Ly} (hk : KnOk kn) (hL : LOk L) {i : Nat} {ts : List (List Nat)} (h : (linesF kn L)[i]? = some ts) : LineF i (joinS 32 ts) 0 := by
  have sc := scan_of (knin hk) hL h
  cases i with
  | zero =>
    have e : ts = [sgs "kernel", kn] := by
      have : [sgs "kernel", kn] = ts := by simpa [linesF] using h
      exact this.symm
    unfold LineF HeadF
    rw [if_pos rfl, sc]
    exact .inr ⟨rfl, sgs "kernel", kn, e, .inl hk, .inr (.inr ⟨rfl, hk, rfl⟩)⟩
  | succ i =>
    obtain ⟨l, hl, rfl⟩ : ∃ l, L[i]? = some l ∧ l.words = ts := by
      have h : (L.map Ly.words)[i]? = some ts := by simpa [linesF] using h
      rw [List.getElem?_map] at h
      exact Option.map_eq_some_iff.mp h
    have hok := hL l (List.mem_of_getElem? hl)
    have hw := Ly.words_len hok
    unfold LineF RestF
    rw [if_neg (by omega), sc]
    refine .inr ⟨rfl, by show l.words.length ≤ 100; omega, fun t ht => ?_, (lay_ok hok).symm⟩
    have := (Ly.words_tok hok t ht).2.2
    omega
theorem kn_not {b : List Nat} (h : b = sgs "chance" ∨ b = sgs "A") : ¬ KnOk b := by
  rintro ⟨k, hk, e⟩
  have key : (KS.all fun k => decide (sgs k ≠ sgs "chance") && decide (sgs k ≠ sgs "A")) = true := by decide +kernel
  have := List.all_eq_true.mp key k hk
  rw [Bool.and_eq_true, decide_eq_true_iff, decide_eq_true_iff] at this
  rcases h with h | h
  · exact this.1 (by rw [← e, h])
  · exact this.2 (by rw [← e, h])
/-! ### the reading of a book -/
theorem rb_step {cs : Cs} {Ψ : DX} {De : DE} {M : Mem} {txt : D} {rows : List D} {z4 z5 : Sl} {i n : Nat} {l : List Nat} (hl : l.length ≤ 100) (hf : LineF i l n) (hr : rows.length ≤ 100)
    (k0 : n = 0 → ∀ p, M p = none → De.nx [.d txt, .own (rows ++ [.ref p]), .d (ni i), .d (W l), .d (.ref p), .d (ni 0)] (updM M p (.lst (WS (scan l).1)))) (k1 : n ≠ 0 → ∀ M', Ψ cs.TextError (errD n ((i : Int) + 1)) M') :
    b_read_book_2 cs Ψ De [.d txt, .own rows, .d (ni i), .d (W l), z4, z5] M := by
  refine ⟨l, (i : Int) + 1, rfl, by show l.length ≤ 2000000; omega, fun hs p hp => ?_, fun hs M' => ?_⟩
  · have fin : ∀ m : Nat, m = n → (bs ((m : Int) != 0) fun k => (match k with
          | true => dRaise cs.TextError ["line", "token"] (flatX Ψ) (dCons (dOp dAddT (dVar 2) (dC (.int 1))) (dCons (dVar 5) dNil))
          | false => dNext) { De with nx := fun Δ1 M1 => dApp 1 (dVar 4) De Δ1 M1 } [.d txt, .own rows, .d (ni i), .d (W l), .d (.ref p), .d (ni m)] (updM M p (.lst (WS (scan l).1)))) := by
      intro m hm
      subst hm
      by_cases z : m = 0
      · subst z
        exact bsE (b := false) rfl ⟨⟨_, rfl⟩, szl (by omega), k0 rfl p hp⟩
      · refine bsE (b := true) (by rw [bne_iff_ne]; omega) ?_
        exact ⟨rfl, k1 z _⟩
    unfold LineF at hf
    cases i with
    | zero =>
      rw [if_pos rfl] at hf
      rcases hf with ⟨z, _⟩ | ⟨_, a, b, e, hb, hw⟩
      · exact absurd hs z
      refine ⟨fun h => absurd (show ((0 : Int) != 0) = true from h) (by decide), fun _ => ?_⟩
      refine ⟨p, a, b, rfl, by rw [← e]; exact updM_same, hb, fun h => ?_, fun h g => ?_, fun h g => ?_⟩
      · refine fin 1 ?_
        rcases hw with ⟨_, rfl⟩ | ⟨z, _⟩ | ⟨z, _⟩
        · rfl
        · exact absurd z h
        · exact absurd z h
      · refine fin 2 ?_
        rcases hw with ⟨z, _⟩ | ⟨_, _, rfl⟩ | ⟨_, z, _⟩
        · exact absurd h z
        · rfl
        · exact absurd z (kn_not g)
      · refine fin 0 ?_
        rcases hw with ⟨z, _⟩ | ⟨_, z, _⟩ | ⟨_, _, rfl⟩
        · exact absurd h z
        · exact absurd g (kn_not z)
        · rfl
    | succ i =>
      rw [if_neg (by omega)] at hf
      rcases hf with ⟨z, _⟩ | ⟨_, h1, h2, h3⟩
      · exact absurd hs z
      refine ⟨fun _ => ?_, fun h => absurd (show (((i + 1 : Nat) : Int) != 0) = false from h) (by rw [bne_eq_false_iff_eq]; omega)⟩
      exact ⟨p, _, rfl, updM_same, h1, h2, fin _ h3.symm⟩
  · have : n = (scan l).2 := by
      unfold LineF at hf
      split at hf
      · rcases hf with ⟨_, e⟩ | ⟨z, _⟩
        · exact e
        · exact absurd z hs
      · rcases hf with ⟨_, e⟩ | ⟨z, _⟩
        · exact e
        · exact absurd z hs
    rw [← this]
    exact k1 (by rw [this]; exact hs) M'
end My

set_option Elab.async false
set_option linter.all false
set_option maxRecDepth 100000
set_option maxHeartbeats 4000000
namespace My
open PySem PySem.Spec PyProof.Rows L2 DL
open Evl (Ex)
/-! ### read_book -/
theorem keeps_refl (M : Mem) : Keeps M M := fun _ _ => rfl
theorem keeps_new {M M' : Mem} {p : Addr} {o : OD} (h : Keeps M M') (hp : M' p = none) : Keeps M (updM M' p o) := by
  intro a ha
  have := h a ha
  rw [updM_ne (fun e => ha (by rw [← this, e]; exact hp))]
  exact this
theorem zip_fst {α β : Type} : ∀ {as : List α} {bs : List β}, as.length = bs.length → (as.zip bs).map Prod.fst = as
  | [], [], _ => rfl
  | a :: as, b :: bs, h => by
    rw [List.zip_cons_cons, List.map_cons, zip_fst (by simpa using h)]
theorem zip_snd {α β : Type} : ∀ {as : List α} {bs : List β}, as.length = bs.length → (as.zip bs).map Prod.snd = bs
  | [], [], _ => rfl
  | a :: as, b :: bs, h => by
    rw [List.zip_cons_cons, List.map_cons, zip_snd (by simpa using h)]
theorem cut_tail (ds : List D) : DL.cutD ds (some 1) none = ds.drop 1 := by
  unfold DL.cutD
  rw [show ((1 : Int)) = ((1 : Nat) : Int) from rfl, HT.sIx_nat, HT.sIx_none]
  by_cases h : 1 ≤ ds.length
  · rw [Nat.min_eq_left h, List.take_of_length_le (by rw [List.length_drop]; exact Nat.le_refl _)]
  · have : ds = [] := List.length_eq_zero_iff.mp (by omega)
    subst this
    rfl
theorem red_read_book (cs : Cs) : ∀ ds M Φ Ψ, S_read_book cs ds M Φ Ψ → r_read_book cs Ψ (ends Φ) (startD 6 ds) M := by
  rintro ds M Φ Ψ ⟨ls, rfl, ⟨hne, hnl, hlen, hsz⟩, way⟩
  have tl : (joinS 10 ls).length ≤ 2020 := by
    have := joinS_len 10 hsz
    omega
  have spl : (Txt.split (st (joinS 10 ls)) (Str.ofString "\n")).map D.str = ls.map W := by
    rw [l_nl, split_st hne hnl, List.map_map] <;> rfl
  refine ⟨trivial, by rw [l_nl] <;> rfl, ?_, ?_⟩
  · rw [st_len]
    exact sz (by omega)
  rw [spl]
  -- where it stops
  obtain ⟨stop, hstop, hgood, hbad, hend⟩ : ∃ stop, stop ≤ ls.length ∧ (∀ i l, i < stop → ls[i]? = some l → LineF i l 0) ∧ (stop < ls.length → ∃ n, n ≠ 0 ∧ (∀ l, ls[stop]? = some l → LineF stop l n) ∧ ∀ M', Ψ cs.TextError (errD n ((stop : Int) + 1)) M') ∧ (ls.length ≤ stop → ∃ (kn : List Nat) (L : List Ly), ls = (linesF kn L).map (joinS 32) ∧ KnOk kn ∧ LOk L ∧ L.length ≤ 6 ∧ (dueF true L = -1 → ∀ b M', BookAt cs M' b kn L → Keeps M M' → Φ (.ref b) M') ∧ (dueF true L ≠ -1 → ∀ M', Ψ cs.BookError (layE (dueF true L)) M')) := by
    rcases way with ⟨kn, L, rfl, hk, hL, hr⟩ | ⟨j, n, hj, h1, h2, h3, h4⟩
    · refine ⟨_, Nat.le_refl _, fun i l _ hl => ?_, fun h => absurd h (Nat.lt_irrefl _), fun _ => ⟨kn, L, rfl, hk, hL, hr⟩⟩
      rw [List.getElem?_map] at hl
      obtain ⟨ts, hts, rfl⟩ := Option.map_eq_some_iff.mp hl
      exact line_good hk hL hts
    · exact ⟨j, Nat.le_of_lt hj, h1, fun _ => ⟨n, h3, h2, h4⟩, fun h => absurd h (by omega)⟩
  refine ⟨fun i Δ M' => ∃ (z4 : Sl) (ps : List Addr), Δ = [.d (W (joinS 10 ls)), .own (ps.map .ref), .un, .un, z4, .un] ∧ ps.length = i ∧ i ≤ stop ∧ (∀ (k : Nat) (p : Addr) (l : List Nat), ps[k]? = some p → ls[k]? = some l → M' p = some (.lst (WS (scan l).1))) ∧ Keeps M M', ⟨.un, [], rfl, rfl, Nat.zero_le _, (fun (k : Nat) (p : Addr) (l : List Nat) (h : ([] : List Addr)[k]? = some p) => by simp at h), keeps_refl M⟩, ?_, ?_⟩
  · rintro i x Δ1 M1 hx ⟨z4, ps, rfl, hp, hi, hm, hk⟩
    obtain ⟨y, hy, rfl⟩ := enumD_get 0 i _ x hx
    rw [List.getElem?_map] at hy
    obtain ⟨l, hl, rfl⟩ := Option.map_eq_some_iff.mp hy
    have hil := lt_of_some hl
    refine ⟨rfl, ?_⟩
    rw [Nat.zero_add]
    obtain ⟨n, hf, h0, h1⟩ : ∃ n, LineF i l n ∧ (n = 0 → i < stop) ∧ (n ≠ 0 → ∀ M', Ψ cs.TextError (errD n ((i : Int) + 1)) M') := by
      by_cases z : i < stop
      · exact ⟨0, hgood i l z hl, fun _ => z, fun h => absurd rfl h⟩
      · have e : i = stop := by omega
        subst e
        obtain ⟨n, g1, g2, g3⟩ := hbad hil
        exact ⟨n, g2 l hl, fun h => absurd h g1, fun _ => g3⟩
    refine rb_step (rows := ps.map .ref) (z5 := .un) (hsz l (List.mem_of_getElem? hl)) hf (by rw [List.length_map]; omega) (fun h p hnew => ?_) h1
    refine ⟨.d (.ref p), ps ++ [p], ?_, ?_, h0 h, ?_, keeps_new hk hnew⟩
    · rw [List.map_append] <;> rfl
    · rw [List.length_append, hp] <;> rfl
    · intro k p' l' h1 h2
      rcases Nat.lt_or_ge k ps.length with z | z
      · rw [List.getElem?_append_left z] at h1
        have := hm k p' l' h1 h2
        rw [updM_ne (fun e => by rw [e, hnew] at this; cases this)]
        exact this
      · rw [List.getElem?_append_right z] at h1
        have e : k - ps.length = 0 := by
          have := lt_of_some h1
          rw [List.length_singleton] at this
          omega
        rw [e] at h1
        have e2 : p = p' := by simpa using h1
        have e3 : k = i := by omega
        subst e2
        rw [e3, hl] at h2
        cases h2
        exact updM_same
  · rintro Δ1 M1 ⟨z4, ps, rfl, hp, hi, hm, hkp⟩
    rw [enumD_len, List.length_map] at hp hi
    obtain ⟨kn, L, rfl, hk, hL, h6, q1, q2⟩ := hend hi
    have pl : ps.length = L.length + 1 := by
      rw [hp, List.length_map, lines_len]
    have at_ : ∀ {k : Nat} {p : Addr} {ts : List (List Nat)}, ps[k]? = some p → (linesF kn L)[k]? = some ts → M1 p = some (.lst (WS ts)) := by
      intro k p ts g1 g2
      have := hm k p (joinS 32 ts) g1 (by rw [List.getElem?_map, g2] <;> rfl)
      rw [scan_of (knin hk) hL g2] at this
      exact this
    cases ps with
    | nil => cases pl
    | cons p0 ps =>
    have pl : ps.length = L.length := by simpa using pl
    have m0 : M1 p0 = some (.lst (WS [sgs "kernel", kn])) := at_ (k := 0) rfl rfl
    refine ⟨⟨_, rfl⟩, .ref p0, ix_nat (i := 0) rfl rfl, _, m0, W kn, rfl, ?_⟩
    show (DL.cutD ((p0 :: ps).map D.ref) (some 1) none).length < sizeLine ∧ lcGo [4] (tgN 4) dYes (dCall (S_layer_of cs) (dCons (dVar 4) dNil)) (DL.cutD ((p0 :: ps).map D.ref) (some 1) none) [.d (W (joinS 10 ((linesF kn L).map (joinS 32)))), .d (.lst ((p0 :: ps).map .ref)), .un, .un, .un, .un] [] M1 _
    rw [show DL.cutD ((p0 :: ps).map D.ref) (some 1) none = (ps.zip L).map (fun x => D.ref x.1) by
      rw [cut_tail, List.map_cons, List.drop_one, List.tail_cons]
      conv => lhs; rw [← zip_fst pl]
      rw [List.map_map] <;> rfl]
    refine ⟨szl (by rw [List.length_map, List.length_zip]; omega), ?_⟩
    refine lcGo_by (g := fun x => x.2.d) (fun x hx Θ k => ?_) ?_
    · obtain ⟨i, hi⟩ := List.mem_iff_getElem?.mp hx
      obtain ⟨a, l⟩ := x
      rw [List.getElem?_zip_eq_some] at hi
      obtain ⟨g1, g2⟩ := hi
      refine ⟨a, l, rfl, at_ (k := i + 1) (by simpa using g1) (by simp [linesF]; exact ⟨l, g2, rfl⟩), hL l (List.mem_of_getElem? g2), k _ rfl⟩
    · have ez : (ps.zip L).map (fun x => x.2.d) = L.map Ly.d := by
        conv => rhs; rw [← zip_snd pl]
        rw [List.map_map] <;> rfl
      rw [List.nil_append, ez]
      intro x hx
      refine ⟨x, kn, L, rfl, updM_same, hk, hL, h6, fun hd M2 hB hK => ⟨rfl, q1 hd x M2 hB ?_⟩, fun hd M' => q2 hd M'⟩
      intro a ha
      have e := hkp a ha
      have ne : a ≠ x := fun z => by
        rw [z, hx] at e
        rw [z] at ha
        exact ha e.symm
      rw [hK a ne (by rw [updM_ne ne, e]; exact ha), updM_ne ne]
      exact e
end My

set_option Elab.async false
set_option linter.all false
set_option maxRecDepth 100000
set_option maxHeartbeats 4000000
namespace My
open PySem PySem.Spec PyProof.Rows L2 DL
open Evl (Ex)
/-! ### what the law draws -/
theorem mod_nat {k n : Int} {N : Nat} (hn : n = (N : Nat)) (h : 0 < N) : ∃ i : Nat, k % n = (i : Int) ∧ i < N := by
  subst hn
  have h1 := Int.emod_nonneg k (b := (N : Int)) (by omega)
  have h2 := Int.emod_lt_of_pos k (b := (N : Int)) (by omega)
  exact ⟨(k % (N : Int)).toNat, by omega, by omega⟩
theorem ki_i : kitB "int" "int" = some true := by decide +kernel
theorem kb_i : kitB "int" "bool" = some false := by decide +kernel
theorem red_law_is_integer (cs : Cs) : ∀ ds M Φ Ψ, S_law_is_integer cs ds M Φ Ψ → r_law_is_integer cs (ends Φ) (startD 1 ds) M := by
  rintro ds M Φ Ψ ⟨i, rfl, q⟩
  exact ⟨_, ki_i, fun _ => ⟨_, kb_i, q⟩, tf⟩
theorem fold_app (L : List (Array Nat)) : ∀ a : Array Nat, (L.foldl (fun x y => x ++ y) a).toList = a.toList ++ (L.map Array.toList).flatten := by
  induction L with
  | nil =>
    intro a
    rw [List.foldl_nil, List.map_nil, List.flatten_nil, List.append_nil]
  | cons x L ih =>
    intro a
    rw [List.foldl_cons, ih, Array.toList_append, List.map_cons, List.flatten_cons, List.append_assoc]
theorem rep_flat (c : Nat) : ∀ k : Nat, ((List.replicate k ([c].toArray)).map Array.toList).flatten = List.replicate k c
  | 0 => rfl
  | k + 1 => by
    rw [List.replicate_succ, List.map_cons, List.flatten_cons, rep_flat c k, List.replicate_succ] <;> rfl
theorem mul_st (c : Nat) {k : Nat} (h : 1 ≤ k) : Txt.mul (st [c]) (k : Nat) = st (List.replicate k c) := by
  unfold Txt.mul
  rw [if_neg (by omega)]
  by_cases e : k = 1
  · subst e
    rw [if_pos (by rfl)] <;> rfl
  · rw [if_neg]
    · refine str_ext ?_
      show (List.foldl (fun x y => x ++ y) #[] (List.replicate (k : Int).toNat [c].toArray)).toList = List.replicate k c
      rw [fold_app, Int.toNat_natCast, rep_flat] <;> rfl
    · intro z
      rw [Bool.or_eq_true] at z
      rcases z with z | z
      · have := eq_of_beq z
        omega
      · cases z
def abc : List Nat := sgs "abcdefghijklmnopqrstuvwxyz"
theorem abc_len : abc.length = 26 := by decide +kernel
theorem abc_sg {i : Nat} (h : i < 26) : sg abc i = 97 + i := by
  have key : ((List.range 26).all fun i => sg abc i == 97 + i) = true := by decide +kernel
  exact eq_of_beq (all_range key h)
theorem abc_ix {i : Nat} {k : Int} (h : i < 26) (hk : k = (i : Nat)) : atI (st abc).cps.toList k = some (97 + i) := by
  rw [hk, ← abc_sg h]
  exact ix_sg (l := abc) (by rw [abc_len]; exact h)
theorem p3 : (0 : Int) < 3 := by decide
theorem p8 : (0 : Int) < 8 := by decide
theorem p5 : (0 : Int) < 5 := by decide
theorem p26 : (0 : Int) < 26 := by decide
theorem red_law_name (cs : Cs) : ∀ ds M Φ Ψ, S_law_name cs ds M Φ Ψ → r_law_name cs (ends Φ) (startD 4 ds) M := by
  rintro ds M Φ Ψ ⟨a, b, c, rfl, ha, hb, hc, q⟩
  obtain ⟨i, ei, hi⟩ := mod_nat (k := a) (n := 26) (N := 26) rfl (by decide)
  obtain ⟨j, ej, hj⟩ := mod_nat (k := b) (n := 26) (N := 26) rfl (by decide)
  obtain ⟨u, eu, hu⟩ := mod_nat (k := c) (n := 5) (N := 5) rfl (by decide)
  have z : (st abc).length ≤ sizeLine := sz (by rw [st_len, abc_len]; decide)
  refine ⟨p3, fun _ => ?_, fun _ => ?_⟩
  · refine ⟨p26, z, _, abc_ix hi ei, ?_⟩
    exact q [97 + i] ⟨97 + i, 97, 0, rfl, by decide, by omega, by omega, by decide, by decide⟩
  · refine ⟨p26, z, _, abc_ix hi ei, p26, z, _, abc_ix hj ej, p5, ?_⟩
    show dMulS (W [97 + j]) (.int (1 + c % 5)) fun d => dAddT (W [97 + i]) d fun d => Φ d M
    rw [eu, show (1 : Int) + (u : Nat) = ((u + 1 : Nat) : Int) by omega]
    refine ⟨by rw [st_len]; exact (by decide : 1 ≤ 1000), ⟨by omega, by omega⟩, ?_⟩
    rw [mul_st (97 + j) (by omega)]
    refine ⟨sz (by rw [st_len, st_len, List.length_replicate]; show 1 + _ ≤ _; omega), ?_⟩
    show Φ (.str (st [97 + i] ++ st (List.replicate (u + 1) (97 + j)))) M
    rw [st_app]
    exact q _ ⟨97 + i, 97 + j, u + 1, rfl, by omega, by omega, by omega, by omega, by omega⟩
theorem tabS_of {t : List (List Nat)} (h : (decide (2 ≤ t.length) && decide (t.length ≤ 4) && t.all fun r => decide (r.length = t.length) && r.all fun x => decide (x < 10)) = true) : TabS t := by
  simp only [Bool.and_eq_true, decide_eq_true_iff, List.all_eq_true] at h
  exact ⟨h.1.1, h.1.2, fun r hr => ⟨(h.2 r hr).1, (h.2 r hr).2⟩⟩
theorem red_law_table (cs : Cs) : ∀ ds M Φ Ψ, S_law_table cs ds M Φ Ψ → r_law_table cs (ends Φ) (startD 3 ds) M := by
  rintro ds M Φ Ψ ⟨a, b, rfl, ha, hb, q⟩
  obtain ⟨i, ei, hi⟩ := mod_nat (k := a) (n := 8) (N := 8) rfl (by decide)
  obtain ⟨j0, e0, h0⟩ := mod_nat (k := b) (n := 3) (N := 3) rfl (by decide)
  obtain ⟨j1, e1, h1⟩ := mod_nat (k := b / 3) (n := 3) (N := 3) rfl (by decide)
  obtain ⟨j2, e2, h2⟩ := mod_nat (k := b / 9) (n := 3) (N := 3) rfl (by decide)
  obtain ⟨j3, e3, h3⟩ := mod_nat (k := b / 27) (n := 3) (N := 3) rfl (by decide)
  refine ⟨⟨_, rfl⟩, szl (by decide), ⟨_, rfl⟩, szl (by decide), p8, fun h => ?_, fun h => ⟨p8, fun _ => ?_, fun _ => ?_⟩⟩
  · refine ⟨⟨_, rfl⟩, p8, ?_⟩
    have h : a % 8 < 6 := of_decide_eq_true h
    show ∃ d, atI _ (a % 8) = some d ∧ Φ d M
    rw [ei] at h ⊢
    rcases i with _ | _ | _ | _ | _ | _ | i
    · exact ⟨_, rfl, q [[0, 1], [1, 0]] (tabS_of (by decide))⟩
    · exact ⟨_, rfl, q [[0, 1], [1, 1]] (tabS_of (by decide))⟩
    · exact ⟨_, rfl, q [[0, 1, 2], [1, 2, 0], [2, 0, 1]] (tabS_of (by decide))⟩
    · exact ⟨_, rfl, q [[0, 1, 2], [1, 1, 1], [2, 2, 2]] (tabS_of (by decide))⟩
    · exact ⟨_, rfl, q [[0, 1, 2, 3], [1, 0, 3, 2], [2, 3, 0, 1], [3, 2, 1, 0]] (tabS_of (by decide))⟩
    · exact ⟨_, rfl, q [[0, 1, 2], [1, 1, 2], [2, 1, 2]] (tabS_of (by decide))⟩
    · omega
  · refine ⟨p3, ⟨p3, .inl (by show (3 : Int) < 1073741824; decide)⟩, p3, ⟨(by show (0 : Int) < 9; decide), .inl (by show (9 : Int) < 1073741824; decide)⟩, p3, ⟨(by show (0 : Int) < 27; decide), .inl (by show (27 : Int) < 1073741824; decide)⟩, p3, ?_⟩
    show Φ (.tup [.tup [.int 0, .int 1, .int 2], .tup [.int 1, .int (b % 3), .int (b / 3 % 3)], .tup [.int 2, .int (b / 9 % 3), .int (b / 27 % 3)]]) M
    rw [e0, e1, e2, e3]
    refine q [[0, 1, 2], [1, j0, j1], [2, j2, j3]] ⟨(by decide : 2 ≤ 3), (by decide : 3 ≤ 4), fun r hr => ?_⟩
    simp only [List.mem_cons, List.not_mem_nil, or_false] at hr
    rcases hr with rfl | rfl | rfl
    all_goals
      refine ⟨rfl, fun x hx => ?_⟩
      simp only [List.mem_cons, List.not_mem_nil, or_false] at hx
      omega
  · refine ⟨p3, ?_⟩
    show Φ (.tup [.tup [.int 0, .int 1], .tup [.int (b % 3), .int 0]]) M
    rw [e0]
    refine q [[0, 1], [j0, 0]] ⟨(by decide : 2 ≤ 2), (by decide : 2 ≤ 4), fun r hr => ?_⟩
    simp only [List.mem_cons, List.not_mem_nil, or_false] at hr
    rcases hr with rfl | rfl
    all_goals
      refine ⟨rfl, fun x hx => ?_⟩
      simp only [List.mem_cons, List.not_mem_nil, or_false] at hx
      omega
end My

set_option Elab.async false
set_option linter.all false
set_option maxRecDepth 100000
set_option maxHeartbeats 4000000
namespace My
open PySem PySem.Spec PyProof.Rows L2 DL
open Evl (Ex)
theorem stD_at {r : List Int} {i : Nat} {x : Int} (h : r[i]? = some x) : (stD r)[i]? = some (.int x) := by
  unfold stD
  rw [List.getElem?_map, h] <;> rfl
theorem row_get {n : Nat} {r : List Int} (h : Row n r) {i : Nat} (hi : i < n) : ∃ x : Int, (stD r)[i]? = some (.int x) ∧ 0 ≤ x ∧ x < 1000 := by
  have hl := h.1
  have h1 : r[i]? = some r[i] := List.getElem?_eq_getElem (by omega)
  exact ⟨r[i], stD_at h1, h.2 _ (List.getElem_mem _)⟩
def wdN (i : Nat) : List Nat := sgs (WD.getD i "")
theorem wdN_at {i j : Nat} (hi : i < 5) (hj : j < 5) : decide (st (wdN i) = Str.ofString (WD.getD j "")) = decide (i = j) := eq_of_beq (all_range (all_range wd_tab hi) hj)
section
variable {cs : Cs} {Φ : D → Mem → Prop} {M : Mem} {r : List Int} {m : List Nat} {zb z2 z5 : Sl}
abbrev wayR : RS := dRet (dTup (dCons (dVar 2) (dCons (dVar 3) (dCons (dTpl (dVar 5)) dNil))))
abbrev wayO : RS := dSeq (dIfS (dTruth (dVar 4)) (dApp 5 (dOp (dIC (fun _ j => 0 < j) fun i j => .int (i % j)) (dOp (dIC CDivA fun i j => .int (i / j)) (dOp dIx (dVar 0) (dC (.int 6))) (dC (.int 3))) (dC (.int 5)))) dNext) wayR
theorem ways_fin {De : DE} (q : ∀ l : Ly, l.Ok → De.rt l.d M) (hm : NmOk m) {o : Sl} {ws : List Nat} (h1 : 1 ≤ ws.length) (h2 : ws.length ≤ 3) (h3 : ∀ x ∈ ws, x < 10) :
    wayR De [.d (.lst (stD r)), zb, .d (W (wdN 4)), .d (W m), o, .own (ws.map ni)] M := q (.outside m ws) ⟨hm, h1, h2, h3⟩
/-- the last way, if it is odd -/
theorem ways_mid {De : DE} (q : ∀ l : Ly, l.Ok → De.rt l.d M) (hm : NmOk m) {o : Bool} {x6 : Int} (a6 : atI (stD r) 6 = some (.int x6)) {ws : List Nat} (h1 : 1 ≤ ws.length) (h2 : ws.length ≤ 2) (h3 : ∀ x ∈ ws, x < 10) :
    wayO De [.d (.lst (stD r)), zb, .d (W (wdN 4)), .d (W m), .d (.bl o), .own (ws.map ni)] M := by
  obtain ⟨k6, f6, l6⟩ := mod_nat (k := x6 / 3) (n := 5) (N := 5) rfl (by decide)
  refine ⟨fun _ => ?_, fun _ => ways_fin (De := De) (r := r) (zb := zb) (o := .d (.bl o)) q hm h1 (by omega) h3⟩
  refine ⟨⟨_, rfl⟩, _, a6, ⟨p3, .inl (by show (3 : Int) < 1073741824; decide)⟩, p5, szl (by rw [List.length_map]; omega), ?_⟩
  show wayR De [.d (.lst (stD r)), zb, .d (W (wdN 4)), .d (W m), .d (.bl o), .own (ws.map ni ++ [.int (x6 / 3 % 5)])] M
  rw [f6, show ws.map ni ++ [D.int ((k6 : Nat) : Int)] = (ws ++ [k6]).map ni by rw [List.map_append] <;> rfl]
  refine ways_fin (De := De) q hm (by rw [List.length_append]; omega) (by rw [List.length_append]; show _ + 1 ≤ 3; omega) fun x hx => ?_
  rcases List.mem_append.mp hx with hx | hx
  · exact h3 x hx
  · rw [List.mem_singleton.mp hx]
    omega
theorem lay_tail (q : ∀ l : Ly, l.Ok → Φ l.d M) (hr : Row 8 r) (hm : NmOk m) {i : Nat} (hi : i < 5) : r_law_layer_3 cs (ends Φ) [.d (.lst (stD r)), zb, .d (W (wdN i)), .d (W m), .un, .un] M := by
  obtain ⟨x5, e5, g5, u5⟩ := row_get hr (show 5 < 8 by decide)
  obtain ⟨x6, e6, g6, u6⟩ := row_get hr (show 6 < 8 by decide)
  obtain ⟨x7, e7, g7, u7⟩ := row_get hr (show 7 < 8 by decide)
  have a5 := ix_nat (k := 5) rfl e5
  have a6 := ix_nat (k := 6) rfl e6
  have a7 := ix_nat (k := 7) rfl e7
  obtain ⟨k3, f3, l3⟩ := mod_nat (k := x6) (n := 3) (N := 3) rfl (by decide)
  obtain ⟨k4, f4, l4⟩ := mod_nat (k := x6) (n := 4) (N := 4) rfl (by decide)
  obtain ⟨k2, f2, l2⟩ := mod_nat (k := x6) (n := 2) (N := 2) rfl (by decide)
  obtain ⟨k9, f9, l9⟩ := mod_nat (k := x7 / 2) (n := 3) (N := 3) rfl (by decide)
  obtain ⟨k6, f6, l6⟩ := mod_nat (k := x6 / 3) (n := 5) (N := 5) rfl (by decide)
  have hN := wdN_at hi (show 2 < 5 by decide)
  have hO := wdN_at hi (show 4 < 5 by decide)
  have hF := wdN_at hi (show 3 < 5 by decide)
  refine ⟨fun h => ?_, fun h => ?_⟩
  · have e : i = 2 := of_decide_eq_true (hN.symm.trans h)
    subst e
    exact ⟨_, a5, _, a6, x5, x6, rfl, g5, g6, fun t ht => q (.note m t) ⟨hm, ht⟩⟩
  have n2 : i ≠ 2 := of_decide_eq_false (hN.symm.trans h)
  refine ⟨_, a5, (by show (0 : Int) < 12; decide), ?_⟩
  show r_law_layer_5 cs (ends Φ) [.d (.lst (stD r)), zb, .d (W (wdN i)), .d (W m), .d (.bl (decide (x5 % 12 = 0))), .un] M
  generalize decide (x5 % 12 = 0) = o
  refine ⟨fun h => ?_, fun h => ?_⟩
  · have e : i = 4 := of_decide_eq_true (hO.symm.trans h)
    subst e
    refine ⟨_, a6, p3, ?_⟩
    have e1 : D.int (1 + x6 % 3) = ni (1 + k3) := by
      rw [f3]
      show D.int _ = D.int _
      rw [Int.natCast_add] <;> rfl
    refine ⟨_, a7, (by show (0 : Int) < 2; decide), fun _ => ?_, fun _ => ?_⟩
    · refine ⟨⟨_, rfl⟩, _, a7, ⟨(by show (0 : Int) < 2; decide), .inl (by show (2 : Int) < 1073741824; decide)⟩, p3, szl (by show 1 ≤ 100000; decide), ?_⟩
      show wayO _ [.d (.lst (stD r)), zb, .d (W (wdN 4)), .d (W m), .d (.bl o), .own [.int (1 + x6 % 3), .int (1 + x7 / 2 % 3)]] M
      have e2 : D.int (1 + x7 / 2 % 3) = ni (1 + k9) := by
        rw [f9]
        show D.int _ = D.int _
        rw [Int.natCast_add] <;> rfl
      rw [e1, e2]
      refine ways_mid (ws := [1 + k3, 1 + k9]) q hm a6 (by show 1 ≤ 2; decide) (by show 2 ≤ 2; decide) fun x hx => ?_
      simp only [List.mem_cons, List.not_mem_nil, or_false] at hx
      omega
    · show wayO _ [.d (.lst (stD r)), zb, .d (W (wdN 4)), .d (W m), .d (.bl o), .own [.int (1 + x6 % 3)]] M
      rw [e1]
      refine ways_mid (ws := [1 + k3]) q hm a6 (by show 1 ≤ 1; decide) (by show 1 ≤ 2; decide) fun x hx => ?_
      simp only [List.mem_cons, List.not_mem_nil, or_false] at hx
      omega
  have n4 : i ≠ 4 := of_decide_eq_false (hO.symm.trans h)
  have one : ∀ n : Nat, n < 10 → Φ (.tup [W (wdN i), W m, ni n]) M := by
    intro n hn
    rcases i with _ | _ | _ | _ | _ | i
    · exact q (.cell m n) ⟨hm, hn⟩
    · exact q (.setting m n) ⟨hm, hn⟩
    · exact absurd rfl n2
    · exact q (.fail m n) ⟨hm, hn⟩
    · exact absurd rfl n4
    · omega
  refine ⟨fun _ => ?_, fun _ => ⟨fun _ => ?_, fun _ => ?_⟩⟩
  · refine ⟨_, a6, (by show (0 : Int) < 4; decide), ?_⟩
    show ∃ d, atI _ (x6 % 4) = some d ∧ Φ (.tup [W (wdN i), W m, d]) M
    rw [f4]
    rcases k4 with _ | _ | _ | _ | k4
    · exact ⟨_, rfl, one 0 (by decide)⟩
    · exact ⟨_, rfl, one 1 (by decide)⟩
    · exact ⟨_, rfl, one 4 (by decide)⟩
    · exact ⟨_, rfl, one 7 (by decide)⟩
    · omega
  · refine ⟨_, a6, p3, ?_⟩
    show Φ (.tup [W (wdN i), W m, .int (1 + x6 % 3)]) M
    rw [f3, show (1 : Int) + (k3 : Nat) = ((1 + k3 : Nat) : Int) by omega]
    exact one _ (by omega)
  · refine ⟨_, a6, (by show (0 : Int) < 2; decide), ?_⟩
    show Φ (.tup [W (wdN i), W m, .int (2 + x6 % 2)]) M
    rw [f2, show (2 : Int) + (k2 : Nat) = ((2 + k2 : Nat) : Int) by omega]
    exact one _ (by omega)
theorem red_law_layer (cs : Cs) : ∀ ds M Φ Ψ, S_law_layer cs ds M Φ Ψ → r_law_layer cs (ends Φ) (startD 6 ds) M := by
  rintro ds M Φ Ψ ⟨r, mb, rfl, hr, hb, q⟩
  obtain ⟨x0, e0, g0, u0⟩ := row_get hr (show 0 < 8 by decide)
  obtain ⟨x1, e1, g1, u1⟩ := row_get hr (show 1 < 8 by decide)
  obtain ⟨x2, e2, g2, u2⟩ := row_get hr (show 2 < 8 by decide)
  obtain ⟨x3, e3, g3, u3⟩ := row_get hr (show 3 < 8 by decide)
  obtain ⟨x4, e4, g4, u4⟩ := row_get hr (show 4 < 8 by decide)
  obtain ⟨i, f0, hi⟩ := mod_nat (k := x0) (n := 5) (N := 5) rfl (by decide)
  refine ⟨_, ix_nat (i := 0) rfl e0, p5, ?_⟩
  have wx : ∃ d, atI [D.str (Str.ofString "cell"), .str (Str.ofString "setting"), .str (Str.ofString "note"), .str (Str.ofString "fail"), .str (Str.ofString "outside")] (x0 % 5) = some d ∧ d = W (wdN i) := by
    rw [f0]
    rcases i with _ | _ | _ | _ | _ | i
    · exact ⟨_, rfl, rfl⟩
    · exact ⟨_, rfl, rfl⟩
    · exact ⟨_, rfl, rfl⟩
    · exact ⟨_, rfl, rfl⟩
    · exact ⟨_, rfl, rfl⟩
    · omega
  obtain ⟨d, hd, rfl⟩ := wx
  refine ⟨_, hd, ?_⟩
  refine ⟨_, ix_nat (i := 1) rfl e1, _, ix_nat (i := 2) rfl e2, _, ix_nat (i := 3) rfl e3, x1, x2, x3, rfl, g1, g2, g3, fun m hm => ?_⟩
  refine ⟨_, ix_nat (i := 4) rfl e4, (by show (0 : Int) < 11; decide), fun _ => ⟨fun h => ?_, fun _ => lay_tail q hr hm hi⟩, fun _ => lay_tail q hr hm hi⟩
  rcases hb with rfl | hb
  · rw [l_no] at h
    rw [show decide (st [] = st []) = true from decide_eq_true rfl] at h
    cases h
  · exact lay_tail q hr hb hi
end
end My

set_option Elab.async false
set_option linter.all false
set_option maxRecDepth 100000
set_option maxHeartbeats 4000000
namespace My
open PySem PySem.Spec PyProof.Rows L2 DL
open Evl (Ex)
/-! ### the law's looks -/
theorem inB_false {t : List (List Nat)} {r : List Nat} {x : Nat} (hr : r ∈ t) (hx : x ∈ r) (h : t.length ≤ x) : inB t = false := by
  rw [Bool.eq_false_iff]
  intro z
  unfold inB at z
  rw [List.all_eq_true] at z
  have := z r hr
  rw [List.all_eq_true] at this
  have := of_decide_eq_true (this x hx)
  omega
section
variable {cs : Cs} {Φ : D → Mem → Prop} {M : Mem} {t : List (List Nat)}
/-- the look at unit and brackets -/
theorem mon_two (ht : TabS t) (hin : inB t = true) (q : Φ (.bl (monB t)) M) : r_law_monoid_2 cs (ends Φ) [.d (tabD t), .d (ni t.length), .un, .un, .un, .un, .un] M := by
  have h2 : 2 ≤ t.length := ht.1
  have h4 : t.length ≤ 4 := ht.2.1
  unfold monB at q
  rw [hin, Bool.true_and] at q
  have bd : (-(2 ^ 62 : Int) ≤ (t.length : Nat) ∧ ((t.length : Nat) : Int) < 2 ^ 62) := ⟨by omega, by omega⟩
  refine ⟨bd, ?_⟩
  rw [Int.toNat_natCast]
  refine ⟨fun i Δ M' => Δ = [.d (tabD t), .d (ni t.length), .un, .un, .un, .un, .un] ∧ M' = M ∧ ∀ a < i, unitB t a = true ∧ ∀ b < t.length, ∀ c < t.length, assB t a b c = true, ⟨rfl, rfl, fun _ h => absurd h (Nat.not_lt_zero _)⟩, ?_, ?_⟩
  · rintro m x Δ1 M1 hx ⟨rfl, rfl, g⟩
    obtain ⟨hi, rfl⟩ := rangeD_some hx
    obtain ⟨r0, a1, a2⟩ := tabS_at ht (show 0 < t.length by omega) hi
    obtain ⟨rm, b1, b2⟩ := tabS_at ht hi (show 0 < t.length by omega)
    have no : unitB t m = false → Φ (.bl false) M1 := fun e => by
      rw [allN_false hi e, Bool.false_and] at q
      exact q
    refine ⟨_, ix_nat (i := 0) rfl (tab_at a1), _, ix_nat (Int.zero_add _) (row_at a2), fun h => no ?_, fun h1 => ⟨_, ix_nat (Int.zero_add _) (tab_at b1), _, ix_nat (i := 0) rfl (row_at b2), fun h => no ?_, fun h => ?_⟩⟩
    · have := neT h
      unfold unitB
      rw [decide_eq_false (fun e => this (by rw [e, Int.zero_add])), Bool.false_and]
    · have := neT h
      unfold unitB
      rw [decide_eq_false (p := tabAt t m 0 = m) (fun e => this (by rw [e, Int.zero_add])), Bool.and_false]
    · have um : unitB t m = true := by
        have e1 := neN h1
        have e2 := neN h
        unfold unitB
        rw [decide_eq_true (show tabAt t 0 m = m by omega), decide_eq_true (show tabAt t m 0 = m by omega)] <;> rfl
      refine ⟨bd, ?_⟩
      rw [Int.toNat_natCast]
      refine ⟨fun i Δ M' => Δ = [.d (tabD t), .d (ni t.length), .un, .un, .d (.int (0 + (m : Int))), .un, .un] ∧ M' = M1 ∧ ∀ b < i, ∀ c < t.length, assB t m b c = true, ⟨rfl, rfl, fun _ h => absurd h (Nat.not_lt_zero _)⟩, ?_, ?_⟩
      · rintro b x Δ1 M2 hx ⟨rfl, rfl, gb⟩
        obtain ⟨hj, rfl⟩ := rangeD_some hx
        refine ⟨bd, ?_⟩
        rw [Int.toNat_natCast]
        refine ⟨fun i Δ M' => Δ = [.d (tabD t), .d (ni t.length), .un, .un, .d (.int (0 + (m : Int))), .d (.int (0 + (b : Int))), .un] ∧ M' = M2 ∧ ∀ c < i, assB t m b c = true, ⟨rfl, rfl, fun _ h => absurd h (Nat.not_lt_zero _)⟩, ?_, ?_⟩
        · rintro c x Δ1 M3 hx ⟨rfl, rfl, gc⟩
          obtain ⟨hk, rfl⟩ := rangeD_some hx
          have l1 := inB_lt ht hin hi hj
          have l3 := inB_lt ht hin hj hk
          obtain ⟨ra, a1, a2⟩ := tabS_at ht hi hj
          obtain ⟨rv, v1, v2⟩ := tabS_at ht l1 hk
          obtain ⟨rb, b1, b2⟩ := tabS_at ht hj hk
          obtain ⟨rc, c1, c2⟩ := tabS_at ht hi l3
          rw [a1] at c1
          cases c1
          refine ⟨_, ix_nat (Int.zero_add _) (tab_at a1), _, ix_nat (Int.zero_add _) (row_at a2), _, ix_nat rfl (tab_at v1), _, ix_nat (Int.zero_add _) (row_at v2), _, ix_nat (Int.zero_add _) (tab_at a1), _, ix_nat (Int.zero_add _) (tab_at b1), _, ix_nat (Int.zero_add _) (row_at b2), _, ix_nat rfl (row_at c2), fun h => ?_, fun h => ⟨rfl, rfl, fun c' hc' => ?_⟩⟩
          · rw [assA_false hi hj hk (ass_ne h), Bool.and_false] at q
            exact q
          · rcases Nat.lt_succ_iff_lt_or_eq.mp hc' with hc' | rfl
            · exact gc c' hc'
            · exact ass_eq h
        · rintro Δ1 M3 ⟨rfl, rfl, gc⟩
          rw [rangeD_len] at gc
          refine ⟨rfl, rfl, fun b' hb' => ?_⟩
          rcases Nat.lt_succ_iff_lt_or_eq.mp hb' with hb' | rfl
          · exact gb b' hb'
          · exact gc
      · rintro Δ1 M2 ⟨rfl, rfl, gb⟩
        rw [rangeD_len] at gb
        refine ⟨rfl, rfl, fun a' ha' => ?_⟩
        rcases Nat.lt_succ_iff_lt_or_eq.mp ha' with ha' | rfl
        · exact g a' ha'
        · exact ⟨um, gb⟩
  · rintro Δ1 M1 ⟨rfl, rfl, g⟩
    rw [rangeD_len] at g
    rw [allN_true fun i hi => (g i hi).1, assA_true fun a ha => (g a ha).2] at q
    exact q
end
theorem red_law_monoid (cs : Cs) : ∀ ds M Φ Ψ, S_law_monoid cs ds M Φ Ψ → r_law_monoid cs (ends Φ) (startD 7 ds) M := by
  rintro ds M Φ Ψ ⟨t, rfl, ht, q⟩
  show r_law_monoid_1 cs (ends Φ) [.d (tabD t), .d (.int ((t.map rowD).length : Nat)), .un, .un, .un, .un, .un] M
  rw [List.length_map]
  refine ⟨fun i Δ M' => Δ = [.d (tabD t), .d (ni t.length), .un, .un, .un, .un, .un] ∧ M' = M ∧ ∀ r ∈ t.take i, ∀ x ∈ r, x < t.length, ⟨rfl, rfl, fun r h => by cases h⟩, ?_, ?_⟩
  · rintro i x Δ1 M1 hx ⟨rfl, rfl, g⟩
    rw [List.getElem?_map] at hx
    obtain ⟨r, hr, rfl⟩ := Option.map_eq_some_iff.mp hx
    have hm := ht.2.2 r (List.mem_of_getElem? hr)
    refine ⟨fun h => neI (by rw [List.length_map, hm.1]) h, fun _ => ?_⟩
    refine ⟨fun k Δ M' => Δ = [.d (tabD t), .d (ni t.length), .d (rowD r), .un, .un, .un, .un] ∧ M' = M1 ∧ ∀ x ∈ r.take k, x < t.length, ⟨rfl, rfl, fun x h => by cases h⟩, ?_, ?_⟩
    · rintro k y Δ1 M2 hy ⟨rfl, rfl, gk⟩
      rw [List.getElem?_map] at hy
      obtain ⟨v, hv, rfl⟩ := Option.map_eq_some_iff.mp hy
      refine ⟨fun h => ?_, fun h => ⟨rfl, rfl, fun w hw => ?_⟩⟩
      · have h : ((t.length : Nat) : Int) ≤ (v : Nat) := of_decide_eq_true h
        unfold monB at q
        rw [inB_false (List.mem_of_getElem? hr) (List.mem_of_getElem? hv) (by omega), Bool.false_and] at q
        exact q
      · have h : ¬ ((t.length : Nat) : Int) ≤ (v : Nat) := of_decide_eq_false h
        rw [take_succ hv] at hw
        rcases List.mem_append.mp hw with hw | hw
        · exact gk w hw
        · rw [List.mem_singleton.mp hw]
          omega
    · rintro Δ1 M2 ⟨rfl, rfl, gk⟩
      rw [List.length_map, List.take_length] at gk
      refine ⟨rfl, rfl, fun r' hr' => ?_⟩
      rw [take_succ hr] at hr'
      rcases List.mem_append.mp hr' with hr' | hr'
      · exact g r' hr'
      · rw [List.mem_singleton.mp hr']
        exact gk
  · rintro Δ1 M1 ⟨rfl, rfl, g⟩
    rw [List.length_map, List.take_length] at g
    refine mon_two ht ?_ q
    unfold inB
    rw [List.all_eq_true]
    intro r hr
    rw [List.all_eq_true]
    exact fun x hx => decide_eq_true (g r hr x hx)
theorem two_le {n a b : Nat} : (decide (a ≤ n) && decide (n ≤ b)) = (decide (((a : Nat) : Int) ≤ (n : Nat)) && decide (((n : Nat) : Int) ≤ (b : Nat))) := by
  congr 1 <;> (rw [decide_eq_decide]; omega)
theorem red_law_good (cs : Cs) : ∀ ds M Φ Ψ, S_law_good cs ds M Φ Ψ → r_law_good cs (ends Φ) (startD 1 ds) M := by
  rintro ds M Φ Ψ ⟨l, rfl, hok, q⟩
  have fin : ∀ {a b n : Int} {g : Bool}, g = (decide (a ≤ n) && decide (n ≤ b)) → Φ (.bl g) M → bs (decide (a ≤ n)) fun k => match k with
      | true => Φ (.bl (decide (n ≤ b))) M
      | false => Φ (.bl false) M := fun e k => by
    rw [e] at k
    refine ⟨fun h => ?_, fun h => ?_⟩
    · rw [h, Bool.true_and] at k
      exact k
    · rw [h, Bool.false_and] at k
      exact k
  cases l with
  | note nm t => exact ⟨_, rfl, fun _ => ⟨_, rfl, t, rfl, hok.2, q⟩, fun h => tf ((w_note (.note nm t)).symm.trans h)⟩
  | cell nm n => exact ⟨_, rfl, fun h => tf (h.symm.trans (w_note (.cell nm n))), fun _ => ⟨_, rfl, fun h => tf (h.symm.trans (w_outside (.cell nm n))), fun _ => ⟨_, rfl, fun h => tf (h.symm.trans (w_fail (.cell nm n))), fun _ => ⟨_, rfl, (fin (a := 2) (b := 3) (n := (n : Nat)) two_le q).1 |> fun h => fun e => ⟨_, rfl, h e⟩, (fin (a := 2) (b := 3) (n := (n : Nat)) two_le q).2⟩⟩⟩⟩
  | setting nm n => exact ⟨_, rfl, fun h => tf (h.symm.trans (w_note (.setting nm n))), fun _ => ⟨_, rfl, fun h => tf (h.symm.trans (w_outside (.setting nm n))), fun _ => ⟨_, rfl, fun h => tf (h.symm.trans (w_fail (.setting nm n))), fun _ => ⟨_, rfl, (fin (a := 2) (b := 3) (n := (n : Nat)) two_le q).1 |> fun h => fun e => ⟨_, rfl, h e⟩, (fin (a := 2) (b := 3) (n := (n : Nat)) two_le q).2⟩⟩⟩⟩
  | fail nm n => exact ⟨_, rfl, fun h => tf (h.symm.trans (w_note (.fail nm n))), fun _ => ⟨_, rfl, fun h => tf (h.symm.trans (w_outside (.fail nm n))), fun _ => ⟨_, rfl, fun _ => ⟨_, rfl, (fin (a := 1) (b := 3) (n := (n : Nat)) two_le q).1 |> fun h => fun e => ⟨_, rfl, h e⟩, (fin (a := 1) (b := 3) (n := (n : Nat)) two_le q).2⟩, fun h => tf ((w_fail (.fail nm n)).symm.trans h)⟩⟩⟩
  | outside nm ws =>
    obtain ⟨_, g1, g2, _⟩ := hok
    have el : (ws.map ni).length = ws.length := List.length_map ..
    have ne : ws ≠ [] := fun e => by
      rw [e, List.length_nil] at g1
      omega
    obtain ⟨x1, m1, e1, k1⟩ := min_mem ne
    obtain ⟨x2, m2, e2, k2⟩ := max_mem ne
    have no1 : (¬ 1 ≤ x1 ∨ ¬ x2 ≤ 3) → Φ (.bl false) M := fun z => by
      have : Ly.goodB (.outside nm ws) = false := by
        rw [Bool.eq_false_iff]
        intro g
        have g : (decide (ws.length ≤ 2) && ws.all fun x => decide (1 ≤ x) && decide (x ≤ 3)) = true := g
        rw [Bool.and_eq_true, List.all_eq_true] at g
        have a := g.2 x1 m1
        have b := g.2 x2 m2
        rw [Bool.and_eq_true, decide_eq_true_iff, decide_eq_true_iff] at a b
        omega
      rw [this] at q
      exact q
    refine ⟨_, rfl, fun h => tf (h.symm.trans (w_note (.outside nm ws))), fun _ => ⟨_, rfl, fun _ => ?_, fun h => tf ((w_outside (.outside nm ws)).symm.trans h)⟩⟩
    refine ⟨_, rfl, fun h => ?_, fun h => ?_⟩
    · have h : (((ws.map ni).length : Nat) : Int) ≤ 2 := of_decide_eq_true h
      have h2 : ws.length ≤ 2 := by omega
      refine ⟨_, rfl, _, row_ints ws, ints_ne ne, fun h3 => ⟨_, rfl, _, row_ints ws, ints_ne ne, ?_⟩, fun h3 => no1 (.inl ?_)⟩
      · have h3 : (1 : Int) ≤ foldI min (intsN ws) := of_decide_eq_true h3
        rw [e1] at h3
        show Φ (.bl (decide (foldI max (intsN ws) ≤ 3))) M
        rw [e2]
        by_cases z : x2 ≤ 3
        · rw [decide_eq_true (show ((x2 : Nat) : Int) ≤ 3 by omega)]
          have : Ly.goodB (.outside nm ws) = true := by
            show (decide (ws.length ≤ 2) && ws.all fun x => decide (1 ≤ x) && decide (x ≤ 3)) = true
            rw [Bool.and_eq_true, List.all_eq_true]
            refine ⟨decide_eq_true h2, fun y hy => ?_⟩
            have a := k1 y hy
            have b := k2 y hy
            rw [Bool.and_eq_true, decide_eq_true_iff, decide_eq_true_iff]
            omega
          rw [this] at q
          exact q
        · rw [decide_eq_false (show ¬ ((x2 : Nat) : Int) ≤ 3 by omega)]
          exact no1 (.inr z)
      · have h3 : ¬ (1 : Int) ≤ foldI min (intsN ws) := of_decide_eq_false h3
        rw [e1] at h3
        omega
    · have h : ¬ (((ws.map ni).length : Nat) : Int) ≤ 2 := of_decide_eq_false h
      have : Ly.goodB (.outside nm ws) = false := by
        show (decide (ws.length ≤ 2) && ws.all fun x => decide (1 ≤ x) && decide (x ≤ 3)) = false
        rw [decide_eq_false (by omega), Bool.false_and]
      rw [this] at q
      exact q
theorem red_law_due (cs : Cs) : ∀ ds M Φ Ψ, S_law_due cs ds M Φ Ψ → r_law_due cs (ends Φ) (startD 6 ds) M := by
  rintro ds M Φ Ψ ⟨k, kn, L, rfl, hk, hL, h6, q⟩
  have el : (L.map Ly.d).length = L.length := List.length_map ..
  refine ⟨fun h => ?_, fun h => ?_⟩
  · have e : kn = sgs "chance" := st_inj (of_decide_eq_true h)
    have : k = false := by
      cases k with
      | false => rfl
      | true =>
        unfold KnIn at hk
        rw [if_pos rfl] at hk
        exact absurd hk (kn_not (.inl e))
    rw [due_long (.inl this)] at q
    exact q
  have hkt : k = true := by
    cases k with
    | true => rfl
    | false =>
      unfold KnIn at hk
      rw [if_neg (by decide)] at hk
      subst hk
      exact dF (rfl : st (sgs "chance") = Str.ofString "chance") h
  subst hkt
  refine ⟨fun h => ?_, fun h => ?_⟩
  · have h : (((L.map Ly.d).length : Nat) : Int) > 5 := of_decide_eq_true h
    rw [due_long (.inr (by omega))] at q
    exact q
  have h : ¬ (((L.map Ly.d).length : Nat) : Int) > 5 := of_decide_eq_false h
  have h5 : L.length ≤ 5 := by omega
  refine ⟨⟨by omega, by omega⟩, ?_⟩
  rw [el, Int.toNat_natCast]
  refine ⟨fun i Δ M' => Δ = [.d (W kn), .d (lysL L), .own ((L.take i).map fun l => W l.nm), .d (ni (prodF (L.take i))), .un, .un] ∧ M' = M ∧ ∀ j < i, badB L j = false, ⟨rfl, rfl, fun _ h => absurd h (Nat.not_lt_zero _)⟩, ?_, ?_⟩
  · rintro i x Δ1 M1 hx ⟨rfl, rfl, g⟩
    obtain ⟨hi, rfl⟩ := rangeD_some hx
    obtain ⟨l, hl⟩ : ∃ l, L[i]? = some l := ⟨_, List.getElem?_eq_getElem hi⟩
    have bo := bad_of hl
    have hok := hL l (List.mem_of_getElem? hl)
    have raise : badB L i = true → Φ (.int (0 + (i : Int) + 1)) M1 := fun e => by
      rw [Int.zero_add, ← due_bad h5 hi e g]
      exact q
    refine ⟨_, ix_nat (Int.zero_add _) (show (L.map Ly.d)[i]? = some l.d by rw [List.getElem?_map, hl] <;> rfl), l, rfl, hok, ?_⟩
    cases hg : l.goodB with
    | false =>
      refine bsI (raise ?_)
      rw [bo, hg] <;> rfl
    | true =>
    rw [hg, Bool.not_true, Bool.false_or] at bo
    have en : inD (W l.nm) ((L.take i).map fun l => W l.nm) = decide (l.nm ∈ (L.take i).map Ly.nm) := by
      have := inD_strs (z := st l.nm) (xs := (L.take i).map fun l => st l.nm)
      rw [List.map_map] at this
      rw [show (L.take i).map (fun l => W l.nm) = (L.take i).map (D.str ∘ fun l => st l.nm) from rfl]
      show inD (.str (st l.nm)) _ = _
      rw [this, decide_eq_decide, List.mem_map, List.mem_map]
      constructor
      · rintro ⟨x, hx, e⟩
        exact ⟨x, hx, st_inj e⟩
      · rintro ⟨x, hx, e⟩
        exact ⟨x, hx, by rw [e]⟩
    refine bsI ⟨_, rfl, rfl, ?_, bsE en ?_⟩
    · rw [List.all_eq_true]
      intro d hd
      obtain ⟨x, _, rfl⟩ := List.mem_map.mp hd
      rfl
    rw [← bo]
    cases hb : badB L i with
    | true => exact raise hb
    | false =>
    have hG : LGood (L.take (i + 1)) := by
      refine ⟨by rw [List.length_take]; omega, fun l' hl' => ?_⟩
      rw [take_succ hl] at hl'
      rcases List.mem_append.mp hl' with hl' | hl'
      · obtain ⟨j, hj⟩ := List.mem_iff_getElem?.mp hl'
        have hji : j < i := by
          have := lt_of_some hj
          rw [List.length_take] at this
          omega
        rw [List.getElem?_take, if_pos hji] at hj
        have := g j hji
        rw [bad_of hj, Bool.or_eq_false_iff, Bool.not_eq_false'] at this
        exact ⟨hL l' (List.mem_of_getElem? hj), this.1⟩
      · rw [List.mem_singleton.mp hl']
        exact ⟨hok, hg⟩
    have pb : prodF (L.take i) ≤ 243 := by
      have := prodF_le hG i (by omega)
      rw [List.take_take, show min i (i + 1) = i by omega] at this
      have := pow5 (show i ≤ 5 by omega)
      omega
    have e1 := prodF_take hl
    have hv := vals_le hg
    have done : ∀ {n : Int}, n = ((prodF (L.take (i + 1)) : Nat) : Int) → ([.d (W kn), .d (lysL L), .own ((L.take i).map (fun l => W l.nm) ++ [W l.nm]), .d (.int n), .un, .un] : List Sl) = [.d (W kn), .d (lysL L), .own ((L.take (i + 1)).map fun l => W l.nm), .d (ni (prodF (L.take (i + 1)))), .un, .un] := fun e => by
      rw [e, take_succ hl, List.map_append] <;> rfl
    have gg : ∀ j < i + 1, badB L j = false := fun j hj => by
      rcases Nat.lt_succ_iff_lt_or_eq.mp hj with hj | rfl
      · exact g j hj
      · exact hb
    refine ⟨⟨_, rfl⟩, _, rfl, szl (by rw [List.length_map, List.length_take]; omega), ?_⟩
    have keep : l.vals = 1 → ((prodF (L.take i) : Nat) : Int) = ((prodF (L.take (i + 1)) : Nat) : Int) := fun e => by
      rw [e1, e, Nat.mul_one]
    cases l with
    | cell nm n =>
      have hv : n ≤ 3 := hv
      exact ⟨_, rfl, fun _ => ⟨_, rfl, .inl (.inl ⟨by omega, by omega⟩), done (by rw [e1]; exact (Int.natCast_mul ..).symm), rfl, gg⟩, fun h => tf ((w_cell (.cell nm n)).symm.trans h)⟩
    | setting nm n =>
      have hv : n ≤ 3 := hv
      exact ⟨_, rfl, fun h => tf (h.symm.trans (w_cell (.setting nm n))), fun _ => ⟨_, rfl, fun _ => ⟨_, rfl, .inl (.inl ⟨by omega, by omega⟩), done (by rw [e1]; exact (Int.natCast_mul ..).symm), rfl, gg⟩, fun h => tf ((w_setting (.setting nm n)).symm.trans h)⟩⟩
    | note nm t => exact ⟨_, rfl, fun h => tf (h.symm.trans (w_cell (.note nm t))), fun _ => ⟨_, rfl, fun h => tf (h.symm.trans (w_setting (.note nm t))), fun _ => ⟨done (keep rfl), rfl, gg⟩⟩⟩
    | fail nm n => exact ⟨_, rfl, fun h => tf (h.symm.trans (w_cell (.fail nm n))), fun _ => ⟨_, rfl, fun h => tf (h.symm.trans (w_setting (.fail nm n))), fun _ => ⟨done (keep rfl), rfl, gg⟩⟩⟩
    | outside nm ws => exact ⟨_, rfl, fun h => tf (h.symm.trans (w_cell (.outside nm ws))), fun _ => ⟨_, rfl, fun h => tf (h.symm.trans (w_setting (.outside nm ws))), fun _ => ⟨done (keep rfl), rfl, gg⟩⟩⟩
  · rintro Δ1 M1 ⟨rfl, rfl, g⟩
    rw [rangeD_len] at g
    rw [rangeD_len, List.take_length]
    have e := due_none h5 g
    refine ⟨fun h => ?_, fun h => ?_⟩
    · have h : ((prodF L : Nat) : Int) > 12 := of_decide_eq_true h
      rw [e, if_pos (by omega)] at q
      exact q
    · have h : ¬ ((prodF L : Nat) : Int) > 12 := of_decide_eq_false h
      rw [e, if_neg (by omega)] at q
      exact q
end My

set_option Elab.async false
set_option linter.all false
set_option maxRecDepth 100000
set_option maxHeartbeats 4000000
namespace My
open PySem PySem.Spec PyProof.Rows L2 DL
open Evl (Ex)
/-! ### the law's lines -/
theorem join_no {r : List Nat} : Txt.join (Str.ofString "") ((r.map dg).map st) = st (rowT r) := by
  rw [l_no, join_nil, rowT_flat]
section
variable {cs : Cs} {M : Mem} {kn : List Nat} {L : List Ly} {ls : List D} {De : DE}
theorem ll_note {m : List Nat} {t : List (List Nat)} (ht : TabS t)
    (k : De.nx [.d (W kn), .d (lysL L), .own ls, .d (Ly.note m t).d, .own (WS (Ly.note m t).words), .un, .un, .un] M) :
    dFor 5 [5] (dOp dIx (dVar 3) (dC (.int 2))) (b_law_lines_5 cs) De [.d (W kn), .d (lysL L), .own ls, .d (Ly.note m t).d, .own [W (Ly.note m t).wd, W m], .un, .un, .un] M := by
  refine ⟨_, rfl, ?_⟩
  refine loop_by (j := 5) (fun i => [.d (W kn), .d (lysL L), .own ls, .d (Ly.note m t).d, .own (WS ((Ly.note m t).wd :: m :: (t.take i).map rowT)), .un, .un, .un]) rfl ?_ ?_
  · intro i x hx
    rw [List.getElem?_map] at hx
    obtain ⟨r, hr, rfl⟩ := Option.map_eq_some_iff.mp hx
    have hm := ht.2.2 r (List.mem_of_getElem? hr)
    have h4 : r.length ≤ 4 := by
      have := ht.2.1
      omega
    have hi := lt_of_some hr
    refine ⟨⟨_, rfl⟩, trivial, szl (by rw [List.length_map]; omega), ?_⟩
    show lcGo [6] (tgN 6) dYes (dCB dStrA (dCons (dVar 6) dNil)) (r.map ni) [.d (W kn), .d (lysL L), .own ls, .d (Ly.note m t).d, .own (WS ((Ly.note m t).wd :: m :: (t.take i).map rowT)), .d (rowD r), .un, .un] [] M _
    refine lcGo_by (g := fun x => W (dg x)) (fun x hx Θ k => ⟨low10 (hm.2 x hx), ?_⟩) ?_
    · rw [str_dg (hm.2 x hx)]
      exact k _ rfl
    · refine ⟨(r.map dg).map st, ?_, ?_, ?_⟩
      · rw [List.nil_append, List.map_map, List.map_map] <;> rfl
      · rw [dgs_sum, l_no, st_len, List.length_nil, Nat.mul_zero]
        omega
      · rw [join_no]
        refine ⟨szl ?_, ?_, rfl⟩
        · rw [WS_len, List.length_cons, List.length_cons, List.length_map, List.length_take]
          have := ht.2.1
          omega
        · show [_, _, _, _, Sl.own (WS ((Ly.note m t).wd :: m :: (t.take i).map rowT) ++ [W (rowT r)]), _, _, _] = _
          rw [WS_snoc, take_succ hr, List.map_append] <;> rfl
  · rw [List.length_map, List.take_length]
    exact k
theorem ll_out {m ws : List Nat} (h3 : ws.length ≤ 3) (h9 : ∀ x ∈ ws, x < 10)
    (k : De.nx [.d (W kn), .d (lysL L), .own ls, .d (Ly.outside m ws).d, .own (WS (Ly.outside m ws).words), .un, .un, .un] M) :
    dFor 7 [7] (dOp dIx (dVar 3) (dC (.int 2))) (b_law_lines_8 cs) De [.d (W kn), .d (lysL L), .own ls, .d (Ly.outside m ws).d, .own [W (Ly.outside m ws).wd, W m], .un, .un, .un] M := by
  refine ⟨_, rfl, ?_⟩
  refine loop_by (j := 7) (fun i => [.d (W kn), .d (lysL L), .own ls, .d (Ly.outside m ws).d, .own (WS ((Ly.outside m ws).wd :: m :: (ws.take i).map dg)), .un, .un, .un]) rfl ?_ ?_
  · intro i x hx
    rw [List.getElem?_map] at hx
    obtain ⟨r, hr, rfl⟩ := Option.map_eq_some_iff.mp hx
    have hm := h9 r (List.mem_of_getElem? hr)
    have hi := lt_of_some hr
    refine ⟨⟨_, rfl⟩, low10 hm, szl ?_, ?_, rfl⟩
    · rw [WS_len, List.length_cons, List.length_cons, List.length_map, List.length_take]
      omega
    · rw [str_dg hm]
      show [_, _, _, _, Sl.own (WS ((Ly.outside m ws).wd :: m :: (ws.take i).map dg) ++ [W (dg r)]), _, _, _] = _
      rw [WS_snoc, take_succ hr, List.map_append] <;> rfl
  · rw [List.length_map, List.take_length]
    exact k
end
theorem red_law_lines (cs : Cs) : ∀ ds M Φ Ψ, S_law_lines cs ds M Φ Ψ → r_law_lines cs (ends Φ) (startD 8 ds) M := by
  rintro ds M Φ Ψ ⟨kb, kn, L, rfl, hk, hL, h6, q⟩
  refine loop_by (j := 3) (fun i => [.d (W kn), .d (lysL L), .own ((linesF kn (L.take i)).map fun ts => .lst (WS ts)), .un, .un, .un, .un, .un]) rfl ?_ ?_
  · intro i x hx
    rw [List.getElem?_map] at hx
    obtain ⟨l, hl, rfl⟩ := Option.map_eq_some_iff.mp hx
    have hi := lt_of_some hl
    have hok := hL l (List.mem_of_getElem? hl)
    refine ⟨_, rfl, _, rfl, ?_⟩
    have last : ∀ z : List D, z = WS l.words → dApp 2 (dVar 4) { ends Φ with nx := fun Δ2 M2 => fgt [3, 4] Δ2 = [.d (W kn), .d (lysL L), .own ((linesF kn (L.take (i + 1))).map fun ts => .lst (WS ts)), .un, .un, .un, .un, .un] ∧ M2 = M, ct := fun Δ2 M2 => fgt [3, 4] Δ2 = [.d (W kn), .d (lysL L), .own ((linesF kn (L.take (i + 1))).map fun ts => .lst (WS ts)), .un, .un, .un, .un, .un] ∧ M2 = M, bk := fun Δ1 M1 => r_law_lines_2 cs (ends Φ) Δ1 M1 }
        [.d (W kn), .d (lysL L), .own ((linesF kn (L.take i)).map fun ts => .lst (WS ts)), .d l.d, .own z, .un, .un, .un] M := by
      intro z hz
      subst hz
      refine ⟨⟨_, rfl⟩, szl ?_, ?_, rfl⟩
      · rw [List.length_map, lines_len, List.length_take]
        omega
      · show [_, _, Sl.own ((linesF kn (L.take i)).map (fun ts => D.lst (WS ts)) ++ [D.lst (WS l.words)]), _, _, _, _, _] = _
        rw [take_succ hl]
        have : (linesF kn (L.take i)).map (fun ts => D.lst (WS ts)) ++ [D.lst (WS l.words)] = (linesF kn (L.take i ++ [l])).map fun ts => D.lst (WS ts) := by
          unfold linesF
          simp
        rw [this] <;> rfl
    cases l with
    | note m t => exact ⟨_, rfl, fun _ => ll_note hok.2 (last _ rfl), fun h => tf ((w_note (.note m t)).symm.trans h)⟩
    | outside m ws => exact ⟨_, rfl, fun h => tf (h.symm.trans (w_note (.outside m ws))), fun _ => ⟨_, rfl, fun _ => ll_out hok.2.2.1 hok.2.2.2 (last _ rfl), fun h => tf ((w_outside (.outside m ws)).symm.trans h)⟩⟩
    | cell m n =>
      refine ⟨_, rfl, fun h => tf (h.symm.trans (w_note (.cell m n))), fun _ => ⟨_, rfl, fun h => tf (h.symm.trans (w_outside (.cell m n))), fun _ => ⟨⟨_, rfl⟩, _, rfl, low10 hok.2, szl (by show 2 ≤ 100000; decide), ?_⟩⟩⟩
      rw [str_dg hok.2]
      exact last _ rfl
    | setting m n =>
      refine ⟨_, rfl, fun h => tf (h.symm.trans (w_note (.setting m n))), fun _ => ⟨_, rfl, fun h => tf (h.symm.trans (w_outside (.setting m n))), fun _ => ⟨⟨_, rfl⟩, _, rfl, low10 hok.2, szl (by show 2 ≤ 100000; decide), ?_⟩⟩⟩
      rw [str_dg hok.2]
      exact last _ rfl
    | fail m n =>
      refine ⟨_, rfl, fun h => tf (h.symm.trans (w_note (.fail m n))), fun _ => ⟨_, rfl, fun h => tf (h.symm.trans (w_outside (.fail m n))), fun _ => ⟨⟨_, rfl⟩, _, rfl, low10 hok.2, szl (by show 2 ≤ 100000; decide), ?_⟩⟩⟩
      rw [str_dg hok.2]
      exact last _ rfl
  · rw [List.length_map, List.take_length]
    exact q
/-! ### the law's look at a book -/
theorem kt_t : kitB "tuple" "tuple" = some true := by decide +kernel
theorem nm_uniq {L : List Ly} (hd : dueF true L = -1) : ∀ {i j : Nat} {l l' : Ly}, L[i]? = some l → L[j]? = some l' → l'.nm = l.nm → j = i := by
  have half : ∀ {i j : Nat} {l l' : Ly}, L[i]? = some l → L[j]? = some l' → l'.nm = l.nm → ¬ i < j := by
    intro i j l l' h1 h2 e h
    refine book_fresh hd h2 ?_
    rw [e]
    exact List.mem_map.mpr ⟨l, List.mem_of_getElem? (i := i) (by rw [List.getElem?_take, if_pos h, h1]), rfl⟩
  intro i j l l' h1 h2 e
  have a := half h1 h2 e
  have b := half h2 h1 e.symm
  omega
theorem neS {x y : Str} {P : Prop} (e : x = y) (h : (!decide (x = y)) = true) : P := by
  rw [decide_eq_true e] at h
  cases h
section
variable {cs : Cs} {M : Mem} {b : Addr} {kn : List Nat} {L : List Ly} {De : DE}
theorem bi_body (hB : BookAt cs M b kn L) {i : Nat} {l : Ly} (hl : L[i]? = some l) {c : Nat} (hc : c < l.cnt) {z7 : Sl}
    (k : De.nx [.d (.ref b), .d (W kn), .d (lysL L), .d (.int (0 + (i : Int))), .d l.d, .d (ni l.cnt), .d (.int (0 + (c : Int))), .un] M) :
    b_law_book_is_14 cs De [.d (.ref b), .d (W kn), .d (lysL L), .d (.int (0 + (i : Int))), .d l.d, .d (ni l.cnt), .d (.int (0 + (c : Int))), .un] M := by
  have hok := hB.1 l (List.mem_of_getElem? hl)
  obtain ⟨hL, hd, d, hb, hn⟩ := id hB
  have ei : (0 : Int) + (i : Int) + 1 = (i : Int) + 1 := by omega
  cases l with
  | outside m ws =>
    have hc : c < ws.length := hc
    obtain ⟨w, hw⟩ : ∃ w, ws[c]? = some w := ⟨_, List.getElem?_eq_getElem hc⟩
    refine ⟨_, rfl, fun _ => ?_, fun h => tf ((w_outside (.outside m ws)).symm.trans h)⟩
    refine ⟨⟨_, hb, rfl⟩, b, kn, L, _, i, _, c, w, m, ws, rfl, hB, ⟨ei, hl⟩, Int.zero_add _, hw, ?_⟩
    refine ⟨_, rfl, _, ix_nat (Int.zero_add _) (row_at hw), fun h => neI rfl h, fun _ => ?_⟩
    exact ⟨_, rfl, fun h => tf (h.symm.trans (w_note (.outside m ws))), fun _ => k⟩
  | note m t =>
    have ht : TabS t := hok.2
    have hc : c < t.length := hc
    have h4 : t.length ≤ 4 := ht.2.1
    refine ⟨_, rfl, fun h => tf (h.symm.trans (w_outside (.note m t))), fun _ => ?_⟩
    refine ⟨_, rfl, fun _ => ?_, fun h => tf ((w_note (.note m t)).symm.trans h)⟩
    show dForR 7 [7] (dVar 5) (b_law_book_is_18 cs) De [.d (.ref b), .d (W kn), .d (lysL L), .d (.int (0 + (i : Int))), .d (Ly.note m t).d, .d (ni t.length), .d (.int (0 + (c : Int))), .un] M
    refine ⟨⟨by omega, by omega⟩, ?_⟩
    rw [Int.toNat_natCast]
    refine loop_by (j := 7) (fun _ => [.d (.ref b), .d (W kn), .d (lysL L), .d (.int (0 + (i : Int))), .d (Ly.note m t).d, .d (ni t.length), .d (.int (0 + (c : Int))), .un]) rfl ?_ k
    intro e x hx
    obtain ⟨he, rfl⟩ := rangeD_some hx
    obtain ⟨r, h1, h2⟩ := tabS_at ht hc he
    refine ⟨⟨_, hb, rfl⟩, b, kn, L, _, i, _, _, c, e, _, m, r, t, rfl, hB, ⟨ei, hl⟩, Int.zero_add _, Int.zero_add _, h1, h2, ?_⟩
    exact ⟨_, rfl, _, ix_nat (Int.zero_add _) (tab_at h1), _, ix_nat (Int.zero_add _) (row_at h2), fun h => neI rfl h, fun _ => ⟨rfl, rfl⟩⟩
  | cell m n => exact ⟨_, rfl, fun h => tf (h.symm.trans (w_outside (.cell m n))), fun _ => ⟨_, rfl, fun h => tf (h.symm.trans (w_note (.cell m n))), fun _ => k⟩⟩
  | setting m n => exact ⟨_, rfl, fun h => tf (h.symm.trans (w_outside (.setting m n))), fun _ => ⟨_, rfl, fun h => tf (h.symm.trans (w_note (.setting m n))), fun _ => k⟩⟩
  | fail m n => exact ⟨_, rfl, fun h => tf (h.symm.trans (w_outside (.fail m n))), fun _ => ⟨_, rfl, fun h => tf (h.symm.trans (w_note (.fail m n))), fun _ => k⟩⟩
theorem cnt_le {l : Ly} (h : l.Ok) : l.cnt < 10 := by
  cases l with
  | note m t =>
    have := h.2.2.1
    show t.length < 10
    omega
  | outside m ws =>
    have := h.2.2.1
    show ws.length < 10
    omega
  | cell m n => exact h.2
  | setting m n => exact h.2
  | fail m n => exact h.2
abbrev g_bi (cs : Cs) : RS := dSeq (dIfS (dOr (dNot (dTruth (dCall (S_law_is_integer cs) (dCons (dMeth cs.Book "count_at" (S_Book_count_at cs) (dVar 0) (dCons (dOp dAddT (dVar 3) (dC (.int 1))) dNil)) dNil)))) (dTest (dOp dNeA (dMeth cs.Book "count_at" (S_Book_count_at cs) (dVar 0) (dCons (dOp dAddT (dVar 3) (dC (.int 1))) dNil)) (dVar 5)))) (dRet (dC (.bl false))) dNext)
    (dForR 6 [6] (dVar 5) (b_law_book_is_14 cs))
theorem bi_step (hB : BookAt cs M b kn L) {i : Nat} {l : Ly} (hl : L[i]? = some l)
    (k : De.nx [.d (.ref b), .d (W kn), .d (lysL L), .d (.int (0 + (i : Int))), .d l.d, .d (ni l.cnt), .un, .un] M) :
    b_law_book_is_5 cs De [.d (.ref b), .d (W kn), .d (lysL L), .d (.int (0 + (i : Int))), .un, .un, .un, .un] M := by
  have hok := hB.1 l (List.mem_of_getElem? hl)
  obtain ⟨hL, hd, d, hb, hn⟩ := id hB
  have ei : (0 : Int) + (i : Int) + 1 = (i : Int) + 1 := by omega
  refine ⟨_, ix_nat (Int.zero_add _) (show (L.map Ly.d)[i]? = some l.d by rw [List.getElem?_map, hl] <;> rfl), ?_⟩
  have la : LayAt L (0 + (i : Int) + 1) i l := ⟨ei, hl⟩
  refine ⟨⟨_, hb, rfl⟩, _, rfl, b, kn, L, l.nm, rfl, hB, fun i' l' h' e => ?_, fun h => absurd rfl (h l (List.mem_of_getElem? hl))⟩
  have := nm_uniq hd hl h' e
  subst this
  refine ⟨fun h => neI (by omega) h, fun _ => ?_⟩
  refine ⟨⟨_, hb, rfl⟩, b, kn, L, _, i', l, rfl, hB, la, _, rfl, fun h => neS rfl h, fun _ => ?_⟩
  have rest : g_bi cs De [.d (.ref b), .d (W kn), .d (lysL L), .d (.int (0 + (i' : Int))), .d l.d, .d (ni l.cnt), .un, .un] M := by
    refine ⟨⟨_, hb, rfl⟩, b, kn, L, _, i', l, rfl, hB, la, _, rfl, bsI ⟨⟨_, hb, rfl⟩, b, kn, L, _, i', l, rfl, hB, la, fun h => neI rfl h, fun _ => ?_⟩⟩
    have := cnt_le hok
    refine ⟨⟨by omega, by omega⟩, ?_⟩
    rw [Int.toNat_natCast]
    refine loop_by (j := 6) (fun _ => [.d (.ref b), .d (W kn), .d (lysL L), .d (.int (0 + (i' : Int))), .d l.d, .d (ni l.cnt), .un, .un]) rfl ?_ k
    intro c x hx
    obtain ⟨hc, rfl⟩ := rangeD_some hx
    exact bi_body hB hl hc (z7 := .un) ⟨rfl, rfl⟩
  refine ⟨_, rfl, ?_⟩
  cases l with
  | note m t =>
    refine ⟨_, rfl, fun _ => ⟨_, rfl, ?_⟩, fun h => tf ((w_note (.note m t)).symm.trans h)⟩
    show g_bi cs De [.d (.ref b), .d (W kn), .d (lysL L), .d (.int (0 + (i' : Int))), .d (Ly.note m t).d, .d (.int ((t.map rowD).length : Nat)), .un, .un] M
    rw [List.length_map]
    exact rest
  | outside m ws =>
    refine ⟨_, rfl, fun h => tf (h.symm.trans (w_note (.outside m ws))), fun _ => ⟨_, rfl, fun _ => ⟨_, rfl, ?_⟩, fun h => tf ((w_outside (.outside m ws)).symm.trans h)⟩⟩
    show g_bi cs De [.d (.ref b), .d (W kn), .d (lysL L), .d (.int (0 + (i' : Int))), .d (Ly.outside m ws).d, .d (.int ((ws.map ni).length : Nat)), .un, .un] M
    rw [List.length_map]
    exact rest
  | cell m n => exact ⟨_, rfl, fun h => tf (h.symm.trans (w_note (.cell m n))), fun _ => ⟨_, rfl, fun h => tf (h.symm.trans (w_outside (.cell m n))), fun _ => rest⟩⟩
  | setting m n => exact ⟨_, rfl, fun h => tf (h.symm.trans (w_note (.setting m n))), fun _ => ⟨_, rfl, fun h => tf (h.symm.trans (w_outside (.setting m n))), fun _ => rest⟩⟩
  | fail m n => exact ⟨_, rfl, fun h => tf (h.symm.trans (w_note (.fail m n))), fun _ => ⟨_, rfl, fun h => tf (h.symm.trans (w_outside (.fail m n))), fun _ => rest⟩⟩
end
theorem red_law_book_is (cs : Cs) : ∀ ds M Φ Ψ, S_law_book_is cs ds M Φ Ψ → r_law_book_is cs (ends Φ) (startD 8 ds) M := by
  rintro ds M Φ Ψ ⟨b, kn, L, rfl, hB, hk, q⟩
  obtain ⟨hL, hd, d, hb, hn⟩ := id hB
  have nl := nice_lys hL
  have h5 := (due_ok hd).1
  have el : (L.map Ly.d).length = L.length := List.length_map ..
  refine ⟨_, _, hb, rfl, fun h => neS rfl h, fun _ => ?_⟩
  refine ⟨_, _, hb, rfl, _, kt_t, bsI ?_⟩
  refine ⟨_, _, hb, rfl, nl.p, nl.p, nl.sh (by decide), nl.sh (by decide), fun h => nl.ne rfl h, fun _ => ?_⟩
  refine ⟨_, _, hb, rfl, _, rfl, bsI ⟨_, _, hb, rfl, fun h => neI (by rw [el]) h, fun _ => ?_⟩⟩
  refine ⟨⟨_, hb, rfl⟩, b, kn, L, sgs "zyx", rfl, hB, fun i l hl e => absurd e (hL l (List.mem_of_getElem? hl)).nm.zyx, fun _ => ⟨fun h => neI rfl h, fun _ => ?_⟩⟩
  refine ⟨⟨by omega, by omega⟩, ?_⟩
  rw [el, Int.toNat_natCast]
  refine loop_by (j := 3) (fun _ => [.d (.ref b), .d (W kn), .d (lysL L), .un, .un, .un, .un, .un]) rfl ?_ q
  intro i x hx
  obtain ⟨hi, rfl⟩ := rangeD_some hx
  obtain ⟨l, hl⟩ : ∃ l, L[i]? = some l := ⟨_, List.getElem?_eq_getElem hi⟩
  exact bi_step hB hl ⟨rfl, rfl⟩
end My

set_option Elab.async false
set_option linter.all false
set_option maxRecDepth 100000
set_option maxHeartbeats 4000000
namespace My
open PySem PySem.Spec PyProof.Rows L2 DL
open Evl (Ex)
/-! ### what goes wrong -/
theorem lines_ok {b : Bool} {kn : List Nat} {L : List Ly} (hk : KnIn b kn) (hL : LOk L) (h6 : L.length ≤ 6) : Lines ((linesF kn L).map (joinS 32)) := by
  have hl : ∀ t ∈ (linesF kn L).map (joinS 32), t.length ≤ 60 := line_len hk hL
  refine ⟨by unfold linesF; simp, fun t ht => ?_, by rw [List.length_map, lines_len]; omega, fun t ht => Nat.le_trans (hl t ht) (by decide)⟩
  obtain ⟨ts, hts, rfl⟩ := List.mem_map.mp ht
  exact line_no10 (lines_tok hk hL ts hts).2.2
theorem red_law_fault (cs : Cs) : ∀ ds M Φ Ψ, S_law_fault cs ds M Φ Ψ → r_law_fault cs (ends Φ) (startD 4 ds) M := by
  rintro ds M Φ Ψ ⟨ls, a, b, j, n, rfl, ha, hb, hls, hj, h1, h2, h3, q⟩
  subst ha
  subst hb
  refine ⟨ls, rfl, hls, .inr ⟨j, n, hj, h1, h2, h3, fun M' => ?_⟩⟩
  refine ⟨true, List.mem_cons_self, fun _ p => ?_, fun h => tf h⟩
  refine ⟨rfl, fun _ => ⟨rfl, fun _ => ?_, fun h => tf h⟩, fun h => tf h⟩
  refine ⟨rfl, _, rfl, fun _ => ⟨rfl, _, rfl, ?_⟩, fun h => dF rfl h⟩
  show Φ (.bl (decide ((n : Int) = (n : Int)))) M'
  rw [decide_eq_true rfl]
  exact q M'
theorem red_law_refused (cs : Cs) : ∀ ds M Φ Ψ, S_law_refused cs ds M Φ Ψ → r_law_refused cs (ends Φ) (startD 6 ds) M := by
  rintro ds M Φ Ψ ⟨kn, L, rfl, hk, hL, h6, hd, q⟩
  intro x hx
  refine ⟨x, kn, L, rfl, updM_same, hk, hL, h6, fun h => absurd h hd, fun _ M' => ?_⟩
  refine ⟨true, List.mem_cons_of_mem _ List.mem_cons_self, fun _ p => ?_, fun h => tf h⟩
  refine ⟨rfl, _, rfl, ?_⟩
  refine ⟨fun h => neI rfl h, fun _ => ?_⟩
  refine ⟨(linesF kn L).map (joinS 32), rfl, lines_ok (knin hk) hL h6, .inl ⟨kn, L, rfl, hk, hL, h6, fun h => absurd h hd, fun _ M2 => ?_⟩⟩
  refine ⟨true, List.mem_cons_of_mem _ List.mem_cons_self, fun _ p => ?_, fun h => tf h⟩
  refine ⟨rfl, _, rfl, ?_⟩
  show Φ (.bl (decide (dueF true L = dueF true L))) M2
  rw [decide_eq_true rfl]
  exact q M2
/-! ### spoilt texts -/
theorem lineF_scan {j : Nat} {l : List Nat} {n : Nat} (h : (scan l).2 = n) (hn : n ≠ 0) : LineF j l n := by
  unfold LineF
  split
  · exact .inl ⟨by rw [h]; exact hn, h.symm⟩
  · exact .inl ⟨by rw [h]; exact hn, h.symm⟩
theorem ext_A (w : List Nat) : extOk w (sgs "A") = false := by
  unfold extOk
  split
  · decide +kernel
  · decide +kernel
theorem lay_A {l : Ly} (h : l.Ok) {k : Nat} (hk : k < l.words.length) : layF (l.words.set k (sgs "A")) = k + 1 := by
  unfold Ly.words at hk ⊢
  rcases k with _ | _ | k
  · rw [List.set_cons_zero]
    unfold layF
    dsimp only
    rw [if_pos (by decide +kernel)]
  · rw [List.set_cons_succ, List.set_cons_zero]
    unfold layF
    dsimp only
    rw [if_neg (by rw [wd_is]; decide), if_pos (by decide +kernel)]
  · rw [List.set_cons_succ, List.set_cons_succ]
    have hk : k < l.ex.length := by
      rw [List.length_cons, List.length_cons] at hk
      omega
    unfold layF
    dsimp only
    rw [if_neg (by rw [wd_is]; decide), if_neg (by rw [h.nm.name]; decide)]
    have hf : (l.ex.set k (sgs "A")).findIdx? (fun t => !extOk l.wd t) = some k := by
      rw [List.findIdx?_eq_some_iff_getElem]
      refine ⟨by rw [List.length_set]; exact hk, ?_, fun j hj => ?_⟩
      · rw [List.getElem_set_self, ext_A] <;> rfl
      · rw [List.getElem_set_ne (by omega), ex_ok h _ (List.getElem_mem _)]
        decide
    rw [hf]
theorem set_tok {ts : List (List Nat)} {k : Nat} (h : ∀ t ∈ ts, Tok9 t) : ∀ t ∈ ts.set k (sgs "A"), Tok9 t := by
  intro t ht
  rcases List.mem_or_eq_of_mem_set ht with ht | rfl
  · exact h t ht
  · exact A_tok
/-- a row with a word that is none -/
theorem line_A {kn : List Nat} {L : List Ly} (hk : KnOk kn) (hL : LOk L) {i : Nat} {ts : List (List Nat)} (h : (linesF kn L)[i]? = some ts) {k : Nat} (hkl : k < ts.length) : LineF i (joinS 32 (ts.set k (sgs "A"))) (k + 1) := by
  obtain ⟨h1, h2, h3⟩ := lines_tok (knin hk) hL ts (List.mem_of_getElem? h)
  have sc : scan (joinS 32 (ts.set k (sgs "A"))) = (ts.set k (sgs "A"), 0) := scan_line (by
    intro e
    have := congrArg List.length e
    rw [List.length_set, List.length_nil] at this
    omega) (set_tok h3)
  cases i with
  | zero =>
    have e : ts = [sgs "kernel", kn] := by
      have : [sgs "kernel", kn] = ts := by simpa [linesF] using h
      exact this.symm
    subst e
    unfold LineF HeadF
    rw [if_pos rfl, sc]
    right
    rcases k with _ | _ | k
    · exact ⟨rfl, sgs "A", kn, rfl, .inl hk, .inl ⟨by decide +kernel, rfl⟩⟩
    · exact ⟨rfl, sgs "kernel", sgs "A", rfl, .inr (.inr rfl), .inr (.inl ⟨rfl, .inr rfl, rfl⟩)⟩
    · have : k + 1 + 1 < 2 := hkl
      omega
  | succ i =>
    obtain ⟨l, hl, rfl⟩ : ∃ l, L[i]? = some l ∧ l.words = ts := by
      have h : (L.map Ly.words)[i]? = some ts := by simpa [linesF] using h
      rw [List.getElem?_map] at h
      exact Option.map_eq_some_iff.mp h
    have hok := hL l (List.mem_of_getElem? hl)
    unfold LineF RestF
    rw [if_neg (by omega), sc]
    refine .inr ⟨rfl, ?_, fun t ht => ?_, (lay_A hok hkl).symm⟩
    · show (l.words.set k (sgs "A")).length ≤ 100
      rw [List.length_set]
      omega
    · have := (set_tok h3 t ht).2.2
      omega
/-- a row with a space too many -/
theorem line_sp {i : Nat} {ts : List (List Nat)} (h : ∀ t ∈ ts, Tok9 t) {k : Nat} {t : List Nat} (hk : ts[k]? = some t) : LineF i (joinS 32 (ts.set k (32 :: t))) (k + 1) :=
  lineF_scan (scan_two (fun t ht => (h t ht).plain) hk) (by omega)
theorem joinS_nil {c : Nat} : ∀ {ts : List (List Nat)}, ts ≠ [] → joinS c (ts ++ [[]]) = joinS c ts ++ [c]
  | [], h => absurd rfl h
  | t :: ts, _ => by
    rw [List.cons_append, joinS_sp, joinS_sp, sp_app]
    show t ++ (sp c ts ++ (c :: ([] ++ []))) = _
    simp
theorem joinS_last {c : Nat} {u x : List Nat} : ∀ {ts : List (List Nat)}, joinS c (ts ++ [u]) ++ x = joinS c (ts ++ [u ++ x])
  | [] => rfl
  | t :: ts => by
    rw [List.cons_append, List.cons_append, joinS_sp, joinS_sp, sp_app, sp_app]
    show t ++ (sp c ts ++ (c :: (u ++ []))) ++ x = t ++ (sp c ts ++ (c :: (u ++ x ++ [])))
    simp
end My

set_option Elab.async false
set_option linter.all false
set_option maxRecDepth 100000
set_option maxHeartbeats 4000000
namespace My
open PySem PySem.Spec PyProof.Rows L2 DL
open Evl (Ex)
theorem lcGo_new {s0 s1 s2 s3 s4 s5 : Sl} {Ψ : List D → List Sl → Mem → Prop} : ∀ {tss : List (List (List Nat))} {acc : List D} {M : Mem},
    (∀ (ps : List Addr) (M' : Mem), ps.length = tss.length → (∀ (k : Nat) (p : Addr) (ts : List (List Nat)), ps[k]? = some p → tss[k]? = some ts → M' p = some (.lst (WS ts))) → Keeps M M' → (∀ p ∈ ps, M p = none) → ps.Nodup → Ψ (acc ++ ps.map .ref) [s0, s1, s2, s3, s4, s5, .un] M') →
    lcGo [6] (tgN 6) dYes (dNewM (dLst (dVar 6))) (tss.map fun ts => .lst (WS ts)) [s0, s1, s2, s3, s4, s5, .un] acc M Ψ
  | [], acc, M, h => by
    have := h [] M rfl (fun k p ts h => by simp at h) (keeps_refl M) (fun p h => by cases h) List.nodup_nil
    rw [List.map_nil, List.append_nil] at this
    exact this
  | ts :: tss, acc, M, h => by
    intro p hp
    show lcGo [6] (tgN 6) dYes (dNewM (dLst (dVar 6))) (tss.map fun ts => .lst (WS ts)) [s0, s1, s2, s3, s4, s5, .un] (acc ++ [.ref p]) (updM M p (.lst (WS ts))) Ψ
    refine lcGo_new fun ps M' h1 h2 h3 h4 h5 => ?_
    have hp1 : M' p = some (.lst (WS ts)) := by
      rw [h3 p (by rw [updM_same]; intro z; cases z), updM_same]
    have hn : p ∉ ps := fun z => by
      have := h4 p z
      rw [updM_same] at this
      cases this
    have := h (p :: ps) M' (by rw [List.length_cons, List.length_cons, h1]) ?_ ?_ ?_ (List.nodup_cons.mpr ⟨hn, h5⟩)
    · rw [List.append_assoc]
      exact this
    · intro k p' ts' g1 g2
      cases k with
      | zero =>
        have e1 : p = p' := by simpa using g1
        have e2 : ts = ts' := by simpa using g2
        rw [← e1, ← e2]
        exact hp1
      | succ k => exact h2 k p' ts' (by simpa using g1) (by simpa using g2)
    · intro a ha
      have ne : a ≠ p := fun z => ha (by rw [z]; exact hp)
      rw [h3 a (by rw [updM_ne ne]; exact ha), updM_ne ne]
    · intro p' hp'
      rcases List.mem_cons.mp hp' with rfl | hp'
      · exact hp
      · have := h4 p' hp'
        rw [updM_ne (fun z => hn (by rw [← z]; exact hp'))] at this
        exact this
theorem ixn_nat {n k : Nat} (h : k < n) : ixN n ((k : Nat) : Int) = some k := by
  unfold ixN
  rw [if_pos (by omega), if_pos (by omega), Int.toNat_natCast]
theorem last_one {α : Type} {xs : List α} {x : α} : atI (xs ++ [x]) (-1) = some x := by
  unfold atI ixN
  rw [List.length_append, List.length_singleton, if_neg (by decide), if_pos (by omega)]
  show (xs ++ [x])[((-1 : Int) + ((xs.length + 1 : Nat) : Int)).toNat]? = _
  rw [show ((-1 : Int) + ((xs.length + 1 : Nat) : Int)).toNat = xs.length by omega, List.getElem?_append_right (Nat.le_refl _), Nat.sub_self] <;> rfl
/-- what a spoilt word may be -/
def Tok10 (t : List Nat) : Prop := (∀ c ∈ t, c ≠ 10) ∧ t.length ≤ 10
theorem Tok9.ten {t : List Nat} (h : Tok9 t) : Tok10 t := ⟨fun c hc => (h.2.1 c hc).2, by have := h.2.2; omega⟩
theorem ten_no10 {ts : List (List Nat)} (h : ∀ t ∈ ts, Tok10 t) : 10 ∉ joinS 32 ts := by
  intro hc
  rcases joinS_mem hc with z | ⟨t, ht, hc⟩
  · cases z
  · exact (h t ht).1 10 hc rfl
theorem ten_len {ts : List (List Nat)} (h : ∀ t ∈ ts, Tok10 t) (h6 : ts.length ≤ 6) : (joinS 32 ts).length ≤ 66 := by
  have := joinS_len 32 (b := 10) fun t ht => (h t ht).2
  omega
def Rows10 (tss : List (List (List Nat))) : Prop := tss ≠ [] ∧ tss.length ≤ 8 ∧ ∀ ts ∈ tss, ts.length ≤ 6 ∧ ∀ t ∈ ts, Tok10 t
theorem Rows10.lines {tss : List (List (List Nat))} (h : Rows10 tss) : Lines (tss.map (joinS 32)) := by
  obtain ⟨h0, h8, hr⟩ := h
  refine ⟨fun e => h0 (List.map_eq_nil_iff.mp e), fun t ht => ?_, by rw [List.length_map]; omega, fun t ht => ?_⟩
  · obtain ⟨ts, hts, rfl⟩ := List.mem_map.mp ht
    exact ten_no10 (hr ts hts).2
  · obtain ⟨ts, hts, rfl⟩ := List.mem_map.mp ht
    have := ten_len (hr ts hts).2 (hr ts hts).1
    omega
theorem rows_ok {b : Bool} {kn : List Nat} {L : List Ly} (hk : KnIn b kn) (hL : LOk L) (h6 : L.length ≤ 6) : Rows10 (linesF kn L) := by
  refine ⟨by unfold linesF; simp, by rw [lines_len]; omega, fun ts hts => ?_⟩
  obtain ⟨_, h2, h3⟩ := lines_tok hk hL ts hts
  exact ⟨h2, fun t ht => (h3 t ht).ten⟩
/-- the joins of rows, as the law writes them -/
theorem sum_rows {tss : List (List (List Nat))} (h : Rows10 tss) : (((tss.map (joinS 32)).map st).map (·.length)).sum + ((tss.map (joinS 32)).map st).length * (Str.ofString "\n").length ≤ 16777216 := by
  have s1 := sum_le (b := 66) (ts := tss.map (joinS 32)) fun t ht => by
    obtain ⟨ts, hts, rfl⟩ := List.mem_map.mp ht
    exact ten_len (h.2.2 ts hts).2 (h.2.2 ts hts).1
  have h8 := h.2.1
  have b5 : (Str.ofString "\n").length = 1 := by rw [l_nl, st_len] <;> rfl
  rw [List.length_map] at s1
  rw [List.length_map, List.length_map, b5]
  omega
theorem sum_row {ts : List (List Nat)} (h : ∀ t ∈ ts, Tok10 t) (h6 : ts.length ≤ 6) : ((ts.map st).map (·.length)).sum + (ts.map st).length * (Str.ofString " ").length ≤ 16777216 := by
  have s1 := sum_le (b := 10) (ts := ts) fun t ht => (h t ht).2
  have b5 : (Str.ofString " ").length = 1 := by rw [l_sp, st_len] <;> rfl
  rw [List.length_map, b5]
  omega
section
variable {cs : Cs} {Φ : D → Mem → Prop} {M : Mem} {kn : List Nat} {L : List Ly}
theorem fault_of {x : D} {ls : List (List Nat)} {a b : Int} {j n : Nat} (hx : x = W (joinS 10 ls)) (ha : a = (j : Int) + 1) (hb : b = (n : Nat)) (hls : Lines ls) (hj : j < ls.length) (h1 : ∀ i l, i < j → ls[i]? = some l → LineF i l 0) (h2 : ∀ l, ls[j]? = some l → LineF j l n) (h3 : n ≠ 0) (q : ∀ M', Φ (.bl true) M') :
    S_law_fault cs [x, .int a, .int b] M Φ noX := by
  subst hx
  exact ⟨ls, a, b, j, n, rfl, ha, hb, hls, hj, h1, h2, h3, q⟩
abbrev slS (kn : List Nat) (L : List Ly) (r : List Int) (i k : Nat) (ps : List Addr) : List Sl := [.d (linesD (linesF kn L)), .d (W (textF kn L)), .d (.lst (stD r)), .d (.int (i : Nat)), .d (.int (k : Nat)), .d (.lst (ps.map .ref)), .un]
/-- the last step: a word has been spoilt -/
theorem sp_last (hk : KnOk kn) (hL : LOk L) (h6 : L.length ≤ 6) {r : List Int} {i k : Nat} {ps : List Addr} {ts : List (List Nat)} {t w : List Nat} (hts : (linesF kn L)[i]? = some ts) (ht : ts[k]? = some t)
    (hw : Tok10 w) (hf : LineF i (joinS 32 (ts.set k w)) (k + 1)) (pl : ps.length = (linesF kn L).length) (pm : ∀ (j : Nat) (p : Addr) (us : List (List Nat)), ps[j]? = some p → ((linesF kn L).set i (ts.set k w))[j]? = some us → M p = some (.lst (WS us))) (q : ∀ M', Φ (.bl true) M') :
    r_law_spoilt_6 cs (ends Φ) (slS kn L r i k ps) M := by
  have hil := lt_of_some hts
  have ro : Rows10 ((linesF kn L).set i (ts.set k w)) := by
    obtain ⟨h0, h8, hr⟩ := rows_ok (knin hk) hL h6
    refine ⟨fun e => ?_, by rw [List.length_set]; exact h8, fun us hus => ?_⟩
    · have := congrArg List.length e
      rw [List.length_set, List.length_nil] at this
      omega
    · rcases List.mem_or_eq_of_mem_set hus with hus | rfl
      · exact hr us hus
      · obtain ⟨g1, g2⟩ := hr ts (List.mem_of_getElem? hts)
        refine ⟨by rw [List.length_set]; exact g1, fun u hu => ?_⟩
        rcases List.mem_or_eq_of_mem_set hu with hu | rfl
        · exact g2 u hu
        · exact hw
  have zl : ps.length = ((linesF kn L).set i (ts.set k w)).length := by rw [List.length_set, pl]
  refine ⟨trivial, szl (by rw [List.length_map, pl, lines_len]; omega), ?_⟩
  rw [show ps.map D.ref = (ps.zip ((linesF kn L).set i (ts.set k w))).map (fun x => D.ref x.1) by
    conv => lhs; rw [← zip_fst zl]
    rw [List.map_map] <;> rfl]
  refine lcGo_by (g := fun x => W (joinS 32 x.2)) (fun x hx Θ kk => ?_) ?_
  · obtain ⟨j, hj⟩ := List.mem_iff_getElem?.mp hx
    obtain ⟨a, us⟩ := x
    rw [List.getElem?_zip_eq_some] at hj
    obtain ⟨g1, g2⟩ := hj
    obtain ⟨h1, h2⟩ := ro.2.2 us (List.mem_of_getElem? g2)
    refine ⟨trivial, _, pm j a us g1 g2, us.map st, ?_, sum_row h2 h1, ?_⟩
    · unfold WS
      rw [List.map_map] <;> rfl
    · rw [join_sp]
      exact kk _ rfl
  · have ez : (ps.zip ((linesF kn L).set i (ts.set k w))).map (fun x => W (joinS 32 x.2)) = (((linesF kn L).set i (ts.set k w)).map (joinS 32)).map W := by
      conv => rhs; rw [← zip_snd zl]
      rw [List.map_map, List.map_map] <;> rfl
    rw [List.nil_append, ez]
    refine ⟨(((linesF kn L).set i (ts.set k w)).map (joinS 32)).map st, ?_, sum_rows ro, ?_⟩
    · rw [List.map_map, List.map_map, List.map_map] <;> rfl
    · rw [join_nl]
      refine fault_of (cs := cs) (M := M) (j := i) (n := k + 1) rfl rfl (by omega) ro.lines (by rw [List.length_map, List.length_set]; exact hil) (fun i' l' hi' hl' => ?_) (fun l' hl' => ?_) (by omega) q
      · rw [List.getElem?_map, List.getElem?_set_ne (by omega)] at hl'
        obtain ⟨us, hus, rfl⟩ := Option.map_eq_some_iff.mp hl'
        exact line_good hk hL hus
      · rw [List.getElem?_map, List.getElem?_set_self (by exact hil)] at hl'
        cases hl'
        exact hf
theorem red_law_spoilt (cs : Cs) : ∀ ds M Φ Ψ, S_law_spoilt cs ds M Φ Ψ → r_law_spoilt cs (ends Φ) (startD 7 ds) M := by
  rintro ds M Φ Ψ ⟨kn, L, r, rfl, hk, hL, h6, hr, q⟩
  obtain ⟨x0, e0, g0, u0⟩ := row_get hr (show 0 < 3 by decide)
  obtain ⟨x1, e1, g1, u1⟩ := row_get hr (show 1 < 3 by decide)
  obtain ⟨x2, e2, g2, u2⟩ := row_get hr (show 2 < 3 by decide)
  have a0 := ix_nat (k := 0) rfl e0
  have a1 := ix_nat (k := 1) rfl e1
  have a2 := ix_nat (k := 2) rfl e2
  have lm : ((linesF kn L).map fun ts => D.lst (WS ts)).length = L.length + 1 := by rw [List.length_map, lines_len]
  obtain ⟨i, fi, hi⟩ := mod_nat (k := x0) (n := (L.length + 1 : Nat)) (N := L.length + 1) rfl (by omega)
  refine ⟨_, a0, ?_, ?_⟩
  · show (0 : Int) < (((linesF kn L).map fun ts => D.lst (WS ts)).length : Nat)
    rw [lm]
    omega
  show r_law_spoilt_1 cs (ends Φ) [.d (linesD (linesF kn L)), .d (W (textF kn L)), .d (.lst (stD r)), .d (.int (x0 % (((linesF kn L).map fun ts => D.lst (WS ts)).length : Nat))), .un, .un, .un] M
  rw [lm, fi]
  obtain ⟨ts, hts⟩ : ∃ ts, (linesF kn L)[i]? = some ts := ⟨_, List.getElem?_eq_getElem (by rw [lines_len]; exact hi)⟩
  obtain ⟨t0, t6, t9⟩ := lines_tok (knin hk) hL ts (List.mem_of_getElem? hts)
  have tp : 0 < ts.length := List.length_pos_iff.mpr t0
  have dts : ((linesF kn L).map fun ts => D.lst (WS ts))[i]? = some (.lst (WS ts)) := by rw [List.getElem?_map, hts] <;> rfl
  obtain ⟨k, fk, hkl⟩ := mod_nat (k := x1) (n := (ts.length : Nat)) (N := ts.length) rfl tp
  refine ⟨_, a1, _, ix_nat rfl dts, ?_, ?_⟩
  · show (0 : Int) < ((WS ts).length : Nat)
    rw [WS_len]
    omega
  show r_law_spoilt_2 cs (ends Φ) [.d (linesD (linesF kn L)), .d (W (textF kn L)), .d (.lst (stD r)), .d (.int (i : Nat)), .d (.int (x1 % ((WS ts).length : Nat))), .un, .un] M
  rw [WS_len, fk]
  refine ⟨szl (by rw [lm]; omega), ?_⟩
  refine lcGo_new (acc := []) fun ps M1 pl pm pk pn pd => ?_
  show r_law_spoilt_3 cs (ends Φ) (slS kn L r i k ps) M1
  obtain ⟨t, ht⟩ : ∃ t, ts[k]? = some t := ⟨_, List.getElem?_eq_getElem hkl⟩
  obtain ⟨p, hp⟩ : ∃ p, ps[i]? = some p := ⟨_, List.getElem?_eq_getElem (by rw [pl]; exact lt_of_some hts)⟩
  have dp : (ps.map D.ref)[i]? = some (.ref p) := by rw [List.getElem?_map, hp] <;> rfl
  have tl := text_len (knin hk) hL h6
  have ts9 : Tok9 t := t9 t (List.mem_of_getElem? ht)
  have lo := lines_ok (knin hk) hL h6
  have b5 : (Str.ofString "\n").length = 1 := by rw [l_nl, st_len] <;> rfl
  have b4 : (Str.ofString " ").length = 1 := by rw [l_sp, st_len] <;> rfl
  -- a word is set
  have setw : ∀ w : List Nat, Tok10 w → LineF i (joinS 32 (ts.set k w)) (k + 1) → r_law_spoilt_6 cs (ends Φ) (slS kn L r i k ps) (updM M1 p (.lst ((WS ts).set k (W w)))) := by
    intro w hw hf
    refine sp_last hk hL h6 hts ht hw hf pl (fun j p' us h1 h2 => ?_) q
    by_cases z : j = i
    · subst z
      rw [hp] at h1
      cases h1
      rw [List.getElem?_set_self (lt_of_some hts)] at h2
      cases h2
      rw [updM_same]
      unfold WS
      rw [List.map_set]
    · rw [List.getElem?_set_ne (Ne.symm z)] at h2
      have ne : p' ≠ p := fun e => z ((List.getElem?_inj (lt_of_some h1) pd).mp (by rw [h1, hp, e]))
      rw [updM_ne ne]
      exact pm j p' us h1 h2
  refine ⟨_, a2, (by show (0 : Int) < 4; decide), fun _ => ?_, fun _ => ?_⟩
  · refine ⟨sz (by rw [st_len, b5]; omega), ?_⟩
    refine fault_of (cs := cs) (M := M1) (ls := (linesF kn L).map (joinS 32) ++ [[]]) (j := L.length + 1) (n := 1) ?_ ?_ rfl ?_ ?_ ?_ ?_ (by decide) q
    · rw [l_nl, st_app, joinS_nil lo.ne] <;> rfl
    · rw [lm]
    · refine ⟨by simp, fun u hu => ?_, by rw [List.length_append, List.length_map, lines_len]; show _ + 1 ≤ 20; omega, fun u hu => ?_⟩
      · rcases List.mem_append.mp hu with hu | hu
        · exact lo.nl u hu
        · rw [List.mem_singleton.mp hu]
          exact List.not_mem_nil
      · rcases List.mem_append.mp hu with hu | hu
        · exact lo.sz u hu
        · rw [List.mem_singleton.mp hu]
          exact Nat.zero_le _
    · rw [List.length_append, List.length_map, lines_len]
      show _ < _ + 1
      omega
    · intro i' l' hi' hl'
      rw [List.getElem?_append_left (by rw [List.length_map, lines_len]; exact hi'), List.getElem?_map] at hl'
      obtain ⟨us, hus, rfl⟩ := Option.map_eq_some_iff.mp hl'
      exact line_good hk hL hus
    · intro l' hl'
      rw [List.getElem?_append_right (by rw [List.length_map, lines_len]; omega), List.length_map, lines_len, Nat.sub_self] at hl'
      have e : [] = l' := by simpa using hl'
      subst e
      unfold LineF RestF
      rw [if_neg (by omega), scan_nil]
      exact .inr ⟨rfl, Nat.zero_le _, (fun t h => by cases h), rfl⟩
  refine ⟨_, a2, (by show (0 : Int) < 4; decide), fun _ => ?_, fun _ => ?_⟩
  · -- a space at the end
    obtain ⟨pre, z, ez⟩ : ∃ pre z, linesF kn L = pre ++ [z] := ⟨(linesF kn L).dropLast, (linesF kn L).getLast (by unfold linesF; simp), (List.dropLast_concat_getLast _).symm⟩
    have pln : pre.length = L.length := by
      have := congrArg List.length ez
      rw [lines_len, List.length_append, List.length_singleton] at this
      omega
    have hz : (linesF kn L)[L.length]? = some z := by
      rw [ez, List.getElem?_append_right (by omega), pln, Nat.sub_self] <;> rfl
    obtain ⟨z0, z6, z9⟩ := lines_tok (knin hk) hL z (List.mem_of_getElem? hz)
    refine ⟨sz (by rw [st_len, b4]; omega), .lst (WS z), ?_, ?_⟩
    · show atI ((linesF kn L).map fun ts => D.lst (WS ts)) (-1) = _
      rw [ez, List.map_append]
      exact last_one
    refine fault_of (cs := cs) (M := M1) (ls := pre.map (joinS 32) ++ [joinS 32 z ++ [32]]) (j := L.length) (n := z.length + 1) ?_ ?_ ?_ ?_ ?_ ?_ ?_ (by omega) q
    · rw [l_sp, st_app]
      unfold textF
      rw [ez, List.map_append, ← joinS_last] <;> rfl
    · rw [lm]
      omega
    · rw [WS_len]
      omega
    · have ro := rows_ok (knin hk) hL h6
      rw [ez] at ro
      obtain ⟨_, h8, hr⟩ := ro
      rw [List.length_append, List.length_singleton] at h8
      have zz := hr z (by simp)
      refine ⟨by simp, fun u hu => ?_, by rw [List.length_append, List.length_map]; show _ + 1 ≤ 20; omega, fun u hu => ?_⟩
      · rcases List.mem_append.mp hu with hu | hu
        · obtain ⟨us, hus, rfl⟩ := List.mem_map.mp hu
          exact ten_no10 (hr us (by simp [hus])).2
        · rw [List.mem_singleton.mp hu, List.mem_append]
          rintro (h | h)
          · exact ten_no10 zz.2 h
          · simp at h
      · rcases List.mem_append.mp hu with hu | hu
        · obtain ⟨us, hus, rfl⟩ := List.mem_map.mp hu
          have := ten_len (hr us (by simp [hus])).2 (hr us (by simp [hus])).1
          omega
        · rw [List.mem_singleton.mp hu, List.length_append]
          have := ten_len zz.2 zz.1
          show _ + 1 ≤ 100
          omega
    · rw [List.length_append, List.length_map, pln]
      show _ < _ + 1
      omega
    · intro i' l' hi' hl'
      rw [List.getElem?_append_left (by rw [List.length_map, pln]; exact hi'), List.getElem?_map] at hl'
      obtain ⟨us, hus, rfl⟩ := Option.map_eq_some_iff.mp hl'
      refine line_good hk hL ?_
      rw [ez, List.getElem?_append_left (by omega)]
      exact hus
    · intro l' hl'
      rw [List.getElem?_append_right (by rw [List.length_map, pln]; omega), List.length_map, pln, Nat.sub_self] at hl'
      have e : joinS 32 z ++ [32] = l' := by simpa using hl'
      subst e
      refine lineF_scan ?_ (by omega)
      cases z with
      | nil => exact absurd rfl z0
      | cons u us =>
        have := scan_tail (t := u) (ts := us) (r := []) (z9 u List.mem_cons_self).plain (fun x hx => (z9 x (List.mem_cons_of_mem _ hx)).plain) (.inl rfl)
        rw [this] <;> rfl
  refine ⟨_, a2, (by show (0 : Int) < 4; decide), fun _ => ?_, fun _ => ?_⟩
  · refine ⟨_, ix_nat rfl dp, WS ts, k, pm i p ts hp hts, ixn_nat (by rw [WS_len]; exact hkl), ?_⟩
    exact setw (sgs "A") A_tok.ten (line_A hk hL hts hkl)
  · refine ⟨_, ix_nat rfl dp, WS ts, pm i p ts hp hts, W t, ix_nat rfl (ws_at ht), ?_⟩
    refine ⟨sz (by rw [b4, st_len]; have := ts9.2.2; omega), ?_⟩
    refine ⟨_, ix_nat rfl dp, WS ts, k, pm i p ts hp hts, ixn_nat (by rw [WS_len]; exact hkl), ?_⟩
    have e : D.str (Str.ofString " " ++ st t) = W (32 :: t) := by
      rw [l_sp, st_app] <;> rfl
    rw [e]
    refine setw (32 :: t) ⟨fun c hc => ?_, ?_⟩ (line_sp t9 ht)
    · rcases List.mem_cons.mp hc with rfl | hc
      · decide
      · exact (ts9.2.1 c hc).2
    · have := ts9.2.2
      rw [List.length_cons]
      omega
end
end My

set_option Elab.async false
set_option linter.all false
set_option maxRecDepth 100000
set_option maxHeartbeats 4000000
namespace My
open PySem PySem.Spec PyProof.Rows L2 DL
open Evl (Ex)
/-! ### the law -/
theorem row_of (ns : List Int) (k : Int) (n : Nat) : Row n (lawRow ns k n) := ⟨lawRow_len ns k n, lawRow_mem⟩
theorem BookAt.keep {cs : Cs} {M M' : Mem} {b : Addr} {kn : List Nat} {L : List Ly} (h : BookAt cs M b kn L) (k : Keeps M M') : BookAt cs M' b kn L := by
  obtain ⟨h1, h2, d, h3, h4⟩ := h
  exact ⟨h1, h2, d, by rw [k b (by rw [h3]; intro z; cases z), h3], by rw [k d (by rw [h4]; intro z; cases z), h4]⟩
theorem due_low {b : Bool} {L : List Ly} (h : ¬ (0 : Int) ≤ dueF b L) : dueF b L = -1 := by
  unfold dueF at h ⊢
  split at h
  · exact absurd (Int.le_refl 0) h
  · rename_i hn
    rw [if_neg hn]
    split at h
    · exact absurd (by omega) h
    · rename_i e
      split at h
      · exact absurd (Int.le_refl 0) h
      · rename_i h12
        rw [if_neg h12]
theorem line_chance {L : List Ly} (hL : LOk L) : LineF 0 (joinS 32 [sgs "kernel", sgs "chance"]) 2 := by
  have hk : KnIn false (sgs "chance") := by
    unfold KnIn
    rw [if_neg (by decide)]
  have sc := scan_of (L := L) hk hL (i := 0) rfl
  unfold LineF HeadF
  rw [if_pos rfl, sc]
  exact .inr ⟨rfl, sgs "kernel", sgs "chance", rfl, .inr (.inl rfl), .inr (.inl ⟨rfl, .inl rfl, rfl⟩)⟩
def manyD : List (Key × D) := [(.inr "none", .int 0), (.inr "choose", .int 1), (.inr "draw", .int 10), (.inr "spread", .int 11), (.inr "twochoose", .int 2), (.inr "twodraw", .int 20), (.inr "mixed", .int 11)]
theorem many_at {j : Nat} (h : j < 7) : getD (manyD.foldl (fun acc kv => putKD acc kv.1 kv.2) []) (.inr (st (kn7 j))) = some (.int (((chN j : Nat) : Int) + 10 * ((drN j : Nat) : Int))) := by
  rcases j with _ | _ | _ | _ | _ | _ | _ | j
  all_goals first | rfl | exact absurd h (by omega)
section
variable {cs : Cs} {Φ : D → Mem → Prop} {ns : List Int} {kn mb : List Nat} {L : List Ly} {b : Bool}
/-- the kernel, as it is drawn -/
def KnD (b : Bool) (kn : List Nat) : Prop := (b = false ∧ kn = sgs "chance") ∨ (b = true ∧ ∃ j, j < 7 ∧ kn = kn7 j)
theorem kn7_ok {j : Nat} (h : j < 7) : KnOk (kn7 j) := by
  refine ⟨KS.getD j "", ?_, rfl⟩
  rcases j with _ | _ | _ | _ | _ | _ | _ | j
  all_goals first | (simp [KS]; done) | exact absurd h (by omega)
theorem KnD.in (h : KnD b kn) : KnIn b kn := by
  rcases h with ⟨rfl, rfl⟩ | ⟨rfl, j, hj, rfl⟩
  · unfold KnIn
    rw [if_neg (by decide)]
  · exact knin (kn7_ok hj)
theorem law_10 (hk : KnD b kn) (hL : LOk L) (h6 : L.length ≤ 6) (q : ∀ M', Φ (.bl true) M') {M : Mem} {z4 z9 z10 z11 z12 : Sl} :
    r_law_10 cs (ends Φ) [.d (.scr ns), .d (.lst (stD (lawRow ns 0 8))), .d (W kn), .d (lysL L), z4, .un, .d (linesD (linesF kn L)), .d (W (textF kn L)), .un, z9, z10, z11, z12] M := by
  obtain ⟨x3, e3, g3, u3⟩ := row_get (row_of ns 0 8) (show 3 < 8 by decide)
  refine ⟨_, ix_nat (i := 3) rfl e3, (by show (0 : Int) < 2; decide), fun _ => ⟨fun h => ?_, fun _ => q M⟩, fun _ => q M⟩
  have hko : KnOk kn := by
    rcases hk with ⟨rfl, rfl⟩ | ⟨rfl, j, hj, rfl⟩
    · exact neS rfl h
    · exact kn7_ok hj
  exact ⟨ns, 7, 3, rfl, by decide, by decide, by decide, kn, L, lawRow ns 7 3, rfl, hko, hL, h6, row_of ns 7 3, q⟩
theorem law_9 (hk : KnD b kn) (hL : LOk L) (h6 : L.length ≤ 6) (q : ∀ M', Φ (.bl true) M') {M : Mem} {z4 : Sl} :
    r_law_9 cs (ends Φ) [.d (.scr ns), .d (.lst (stD (lawRow ns 0 8))), .d (W kn), .d (lysL L), z4, .un, .d (linesD (linesF kn L)), .d (W (textF kn L)), .un, .d (.int (dueF b L)), .un, .un, .un] M := by
  refine ⟨fun h => ?_, fun h => ?_⟩
  · have e : kn = sgs "chance" := st_inj (of_decide_eq_true h)
    have hin := hk.in
    subst e
    refine ⟨(linesF (sgs "chance") L).map (joinS 32), 1, 2, 0, 2, rfl, rfl, rfl, lines_ok hin hL h6, by rw [List.length_map, lines_len]; omega, fun i l hi _ => absurd hi (Nat.not_lt_zero _), fun l hl => ?_, by decide, fun M' => bsI (law_10 hk hL h6 q)⟩
    have e : joinS 32 [sgs "kernel", sgs "chance"] = l := by
      rw [List.getElem?_map] at hl
      exact Option.some.inj hl
    rw [← e]
    exact line_chance hL
  have hb : b = true ∧ ∃ j, j < 7 ∧ kn = kn7 j := by
    rcases hk with ⟨rfl, rfl⟩ | hk
    · exact dF rfl h
    · exact hk
  obtain ⟨rfl, j, hj, ej⟩ := hb
  have hko : KnOk kn := by rw [ej]; exact kn7_ok hj
  refine ⟨fun h => ?_, fun h => ?_⟩
  · have h : (0 : Int) ≤ dueF true L := of_decide_eq_true h
    exact ⟨kn, L, rfl, hko, hL, h6, by omega, fun M' => bsI (law_10 hk hL h6 q)⟩
  have hd := due_low (of_decide_eq_false h : ¬ (0 : Int) ≤ dueF true L)
  refine ⟨(linesF kn L).map (joinS 32), rfl, lines_ok (knin hko) hL h6, .inl ⟨kn, L, rfl, hko, hL, h6, fun _ b1 M1 hB1 hK1 => ?_, fun h => absurd hd h⟩⟩
  intro x hx
  refine ⟨x, kn, L, rfl, updM_same, hko, hL, h6, fun _ M2 hB2 hK2 => ⟨rfl, ?_⟩, fun h => absurd hd h⟩
  have hB3 : BookAt cs M2 b1 kn L := hB1.keep fun a ha => by
    have ne : a ≠ x := fun z => ha (by rw [z]; exact hx)
    rw [hK2 a ne (by rw [updM_ne ne]; exact ha), updM_ne ne]
  refine ⟨b1, kn, L, rfl, hB3, hko, bsI ⟨x, kn, L, rfl, hB2, hko, bsI ?_⟩⟩
  refine ⟨b1, kn, L, rfl, hB3, hko, fun h => neS rfl h, fun _ => ⟨x, kn, L, rfl, hB2, hko, fun h => neS rfl h, fun _ => ⟨b1, x, kn, L, rfl, hB3, hB2, fun h => ff h, fun _ => ?_⟩⟩⟩
  intro p hp
  refine ⟨j, by rw [← ej] <;> rfl, hj, j, by rw [← ej] <;> rfl, hj, ?_, ?_⟩
  · rcases j with _ | _ | _ | _ | _ | _ | _ | j
    all_goals first | exact .inl (.inl ⟨by decide, by decide⟩) | exact absurd hj (by omega)
  refine ⟨_, .inr (st kn), .int (((chN j : Nat) : Int) + 10 * ((drN j : Nat) : Int)), updM_same, rfl, by rw [ej]; exact many_at hj, fun h => neI rfl h, fun _ => law_10 hk hL h6 q⟩
theorem law_6 (hk : KnD b kn) (hL : LOk L) (h6 : L.length ≤ 6) (q : ∀ M', Φ (.bl true) M') {M : Mem} {z4 : Sl} :
    r_law_6 cs (ends Φ) [.d (.scr ns), .d (.lst (stD (lawRow ns 0 8))), .d (W kn), .own (L.map Ly.d), z4, .un, .un, .un, .un, .un, .un, .un, .un] M := by
  have ro := rows_ok hk.in hL h6
  refine ⟨b, kn, L, rfl, hk.in, hL, h6, ?_⟩
  refine ⟨trivial, szl (by rw [List.length_map, lines_len]; omega), ?_⟩
  refine lcGo_by (g := fun ts => W (joinS 32 ts)) (fun ts hts Θ kk => ?_) ?_
  · obtain ⟨h1, h2⟩ := ro.2.2 ts hts
    refine ⟨trivial, ts.map st, ?_, sum_row h2 h1, ?_⟩
    · unfold WS
      rw [List.map_map] <;> rfl
    · rw [join_sp]
      exact kk _ rfl
  · refine ⟨((linesF kn L).map (joinS 32)).map st, ?_, sum_rows ro, ?_⟩
    · rw [List.nil_append, List.map_map, List.map_map] <;> rfl
    · rw [join_nl]
      exact ⟨b, kn, L, rfl, hk.in, hL, h6, law_9 hk hL h6 q⟩
theorem law_3 (hk : KnD b kn) (q : ∀ M', Φ (.bl true) M') {M : Mem} :
    r_law_3 cs (ends Φ) [.d (.scr ns), .d (.lst (stD (lawRow ns 0 8))), .d (W kn), .un, .un, .un, .un, .un, .un, .un, .un, .un, .un] M := by
  obtain ⟨x2, e2, g2, u2⟩ := row_get (row_of ns 0 8) (show 2 < 8 by decide)
  obtain ⟨i, f2, hi⟩ := mod_nat (k := x2) (n := 12) (N := 12) rfl (by decide)
  have wn : W [] = D.str (Str.ofString "") := by rw [l_no] <;> rfl
  refine ⟨_, ix_nat (i := 2) rfl e2, (by show (0 : Int) < 12; decide), ?_⟩
  have cx : ∃ d, atI [D.int 0, .int 1, .int 2, .int 3, .int 4, .int 5, .int 3, .int 4, .int 5, .int 2, .int 3, .int 6] (x2 % 12) = some d ∧ ∃ c : Nat, c ≤ 6 ∧ d = .int (c : Nat) := by
    rw [f2]
    rcases i with _ | _ | _ | _ | _ | _ | _ | _ | _ | _ | _ | _ | i
    · exact ⟨_, rfl, 0, by decide, rfl⟩
    · exact ⟨_, rfl, 1, by decide, rfl⟩
    · exact ⟨_, rfl, 2, by decide, rfl⟩
    · exact ⟨_, rfl, 3, by decide, rfl⟩
    · exact ⟨_, rfl, 4, by decide, rfl⟩
    · exact ⟨_, rfl, 5, by decide, rfl⟩
    · exact ⟨_, rfl, 3, by decide, rfl⟩
    · exact ⟨_, rfl, 4, by decide, rfl⟩
    · exact ⟨_, rfl, 5, by decide, rfl⟩
    · exact ⟨_, rfl, 2, by decide, rfl⟩
    · exact ⟨_, rfl, 3, by decide, rfl⟩
    · exact ⟨_, rfl, 6, by decide, rfl⟩
    · omega
  obtain ⟨d, hd, c, hc, rfl⟩ := cx
  refine ⟨_, hd, ⟨by omega, by omega⟩, ?_⟩
  rw [Int.toNat_natCast]
  refine ⟨fun i Δ M' => ∃ (L : List Ly) (mb : List Nat), Δ = [.d (.scr ns), .d (.lst (stD (lawRow ns 0 8))), .d (W kn), .own (L.map Ly.d), .d (W mb), .un, .un, .un, .un, .un, .un, .un, .un] ∧ M' = M ∧ L.length = i ∧ LOk L ∧ (mb = [] ∨ NmOk mb), ⟨[], [], by rw [wn] <;> rfl, rfl, rfl, (fun l h => by cases h), .inl rfl⟩, ?_, ?_⟩
  · rintro i x Δ1 M1 hx ⟨L, mb, rfl, rfl, hl, hL, hm⟩
    obtain ⟨hi, rfl⟩ := rangeD_some hx
    refine ⟨⟨_, rfl⟩, ns, 1 + (0 + (i : Int)), 8, rfl, by omega, by omega, by decide, _, mb, rfl, row_of ns _ 8, hm, fun l hlo => ⟨szl (by rw [List.length_map]; omega), ?_⟩⟩
    refine ⟨⟨_, rfl⟩, l.d, last_one, _, rfl, ?_⟩
    refine ⟨L ++ [l], l.nm, ?_, rfl, by rw [List.length_append, hl] <;> rfl, fun l' hl' => ?_, .inr hlo.nm⟩
    · rw [List.map_append] <;> rfl
    · rcases List.mem_append.mp hl' with hl' | hl'
      · exact hL l' hl'
      · rw [List.mem_singleton.mp hl']
        exact hlo
  · rintro Δ1 M1 ⟨L, mb, rfl, rfl, hl, hL, hm⟩
    rw [rangeD_len] at hl
    exact law_6 hk hL (by omega) q
theorem red_law (cs : Cs) : ∀ ds M Φ Ψ, S_law cs ds M Φ Ψ → r_law cs (ends Φ) (startD 13 ds) M := by
  rintro ds M Φ Ψ ⟨ns, rfl, hn, q⟩
  refine ⟨ns, 0, 8, rfl, by decide, by decide, by decide, ?_⟩
  obtain ⟨x0, e0, g0, u0⟩ := row_get (row_of ns 0 8) (show 0 < 8 by decide)
  obtain ⟨x1, e1, g1, u1⟩ := row_get (row_of ns 0 8) (show 1 < 8 by decide)
  obtain ⟨i, f0, hi⟩ := mod_nat (k := x0) (n := 7) (N := 7) rfl (by decide)
  refine ⟨_, ix_nat (i := 0) rfl e0, (by show (0 : Int) < 7; decide), ?_⟩
  have kx : ∃ d, atI [D.str (Str.ofString "none"), .str (Str.ofString "choose"), .str (Str.ofString "draw"), .str (Str.ofString "spread"), .str (Str.ofString "twochoose"), .str (Str.ofString "twodraw"), .str (Str.ofString "mixed")] (x0 % 7) = some d ∧ d = W (kn7 i) := by
    rw [f0]
    rcases i with _ | _ | _ | _ | _ | _ | _ | i
    · exact ⟨_, rfl, rfl⟩
    · exact ⟨_, rfl, rfl⟩
    · exact ⟨_, rfl, rfl⟩
    · exact ⟨_, rfl, rfl⟩
    · exact ⟨_, rfl, rfl⟩
    · exact ⟨_, rfl, rfl⟩
    · exact ⟨_, rfl, rfl⟩
    · omega
  obtain ⟨d, hd, rfl⟩ := kx
  refine ⟨_, hd, ?_⟩
  refine ⟨_, ix_nat (i := 1) rfl e1, (by show (0 : Int) < 12; decide), fun _ => ?_, fun _ => ?_⟩
  · exact law_3 (b := false) (kn := sgs "chance") (.inl ⟨rfl, rfl⟩) q
  · exact law_3 (b := true) (kn := kn7 i) (.inr ⟨rfl, i, hi, rfl⟩) q
end
end My

set_option Elab.async false
set_option linter.all false
set_option maxRecDepth 100000
set_option maxHeartbeats 4000000
namespace My
open PySem PySem.Spec PyProof.Rows L2 DL
open Evl (Ex)
def topS (i : Nat) : Stmt := PySem.Challenge.pw_besideandthrough_k00_book_texts.main.body.getD i (.Pass ⟨0, 0, 0, 0⟩)
abbrev s_TextError_init : Stmt := inClass (topS 2) 0
theorem sc_TextError_init : FnScope ["self", "line", "token"] ["self", "line", "token"] (defScope s_TextError_init) := ⟨rfl, rfl, rfl, by decide +kernel, rfl, by decide +kernel, by decide +kernel⟩

abbrev s_BookError_init : Stmt := inClass (topS 3) 0
theorem sc_BookError_init : FnScope ["self", "layer"] ["self", "layer"] (defScope s_BookError_init) := ⟨rfl, rfl, rfl, by decide +kernel, rfl, by decide +kernel, by decide +kernel⟩

abbrev s_token_begin : Stmt := topS 6
theorem sc_token_begin : FnScope ["line", "place", "found", "mark"] ["line", "place", "found"] (defScope s_token_begin) := ⟨rfl, rfl, rfl, by decide +kernel, rfl, by decide +kernel, by decide +kernel⟩

abbrev s_token_end : Stmt := topS 7
theorem sc_token_end : FnScope ["line", "begin", "end"] ["line", "begin"] (defScope s_token_end) := ⟨rfl, rfl, rfl, by decide +kernel, rfl, by decide +kernel, by decide +kernel⟩

abbrev s_tokens_of : Stmt := topS 5
theorem sc_tokens_of : FnScope ["line", "number", "found", "place", "begin"] ["line", "number"] (defScope s_tokens_of) := ⟨rfl, rfl, rfl, by decide +kernel, rfl, by decide +kernel, by decide +kernel⟩

abbrev s_is_digits : Stmt := topS 8
theorem sc_is_digits : FnScope ["token"] ["token"] (defScope s_is_digits) := ⟨rfl, rfl, rfl, by decide +kernel, rfl, by decide +kernel, by decide +kernel⟩

abbrev s_whole_in : Stmt := topS 9
theorem sc_whole_in : FnScope ["token", "most"] ["token", "most"] (defScope s_whole_in) := ⟨rfl, rfl, rfl, by decide +kernel, rfl, by decide +kernel, by decide +kernel⟩

abbrev s_number_in : Stmt := topS 10
theorem sc_number_in : FnScope ["token"] ["token"] (defScope s_number_in) := ⟨rfl, rfl, rfl, by decide +kernel, rfl, by decide +kernel, by decide +kernel⟩

abbrev s_is_name : Stmt := topS 11
theorem sc_is_name : FnScope ["token"] ["token"] (defScope s_is_name) := ⟨rfl, rfl, rfl, by decide +kernel, rfl, by decide +kernel, by decide +kernel⟩

abbrev s_choices : Stmt := topS 17
theorem sc_choices : FnScope ["kernel"] ["kernel"] (defScope s_choices) := ⟨rfl, rfl, rfl, by decide +kernel, rfl, by decide +kernel, by decide +kernel⟩

abbrev s_draws : Stmt := topS 18
theorem sc_draws : FnScope ["kernel"] ["kernel"] (defScope s_draws) := ⟨rfl, rfl, rfl, by decide +kernel, rfl, by decide +kernel, by decide +kernel⟩

abbrev s_is_associative : Stmt := topS 19
theorem sc_is_associative : FnScope ["table", "members", "a", "b", "c"] ["table"] (defScope s_is_associative) := ⟨rfl, rfl, rfl, by decide +kernel, rfl, by decide +kernel, by decide +kernel⟩

abbrev s_is_square : Stmt := topS 20
theorem sc_is_square : FnScope ["table", "many", "row"] ["table"] (defScope s_is_square) := ⟨rfl, rfl, rfl, by decide +kernel, rfl, by decide +kernel, by decide +kernel⟩

abbrev s_is_monoid : Stmt := topS 21
theorem sc_is_monoid : FnScope ["table", "member"] ["table"] (defScope s_is_monoid) := ⟨rfl, rfl, rfl, by decide +kernel, rfl, by decide +kernel, by decide +kernel⟩

abbrev s_is_layer : Stmt := topS 22
theorem sc_is_layer : FnScope ["layer", "word", "name", "extent"] ["layer"] (defScope s_is_layer) := ⟨rfl, rfl, rfl, by decide +kernel, rfl, by decide +kernel, by decide +kernel⟩

abbrev s_states_of : Stmt := topS 23
theorem sc_states_of : FnScope ["layers", "many", "word", "_", "extent"] ["layers"] (defScope s_states_of) := ⟨rfl, rfl, rfl, by decide +kernel, rfl, by decide +kernel, by decide +kernel⟩

abbrev s_Book_init : Stmt := inClass (topS 24) 0
theorem sc_Book_init : FnScope ["self", "kernel", "layers", "at", "layer"] ["self", "kernel", "layers"] (defScope s_Book_init) := ⟨rfl, rfl, rfl, by decide +kernel, rfl, by decide +kernel, by decide +kernel⟩

abbrev s_Book_word_at : Stmt := inClass (topS 24) 1
theorem sc_Book_word_at : FnScope ["self", "layer"] ["self", "layer"] (defScope s_Book_word_at) := ⟨rfl, rfl, rfl, by decide +kernel, rfl, by decide +kernel, by decide +kernel⟩

abbrev s_Book_count_at : Stmt := inClass (topS 24) 2
theorem sc_Book_count_at : FnScope ["self", "layer", "word", "_", "extent"] ["self", "layer"] (defScope s_Book_count_at) := ⟨rfl, rfl, rfl, by decide +kernel, rfl, by decide +kernel, by decide +kernel⟩

abbrev s_Book_ways_at : Stmt := inClass (topS 24) 3
theorem sc_Book_ways_at : FnScope ["self", "layer", "deed"] ["self", "layer", "deed"] (defScope s_Book_ways_at) := ⟨rfl, rfl, rfl, by decide +kernel, rfl, by decide +kernel, by decide +kernel⟩

abbrev s_Book_product : Stmt := inClass (topS 24) 4
theorem sc_Book_product : FnScope ["self", "layer", "first", "second"] ["self", "layer", "first", "second"] (defScope s_Book_product) := ⟨rfl, rfl, rfl, by decide +kernel, rfl, by decide +kernel, by decide +kernel⟩

abbrev s_Book_number_of : Stmt := inClass (topS 24) 5
theorem sc_Book_number_of : FnScope ["self", "name"] ["self", "name"] (defScope s_Book_number_of) := ⟨rfl, rfl, rfl, by decide +kernel, rfl, by decide +kernel, by decide +kernel⟩

abbrev s_like_books : Stmt := topS 25
theorem sc_like_books : FnScope ["one", "other"] ["one", "other"] (defScope s_like_books) := ⟨rfl, rfl, rfl, by decide +kernel, rfl, by decide +kernel, by decide +kernel⟩

abbrev s_is_extent : Stmt := topS 26
theorem sc_is_extent : FnScope ["word", "token"] ["word", "token"] (defScope s_is_extent) := ⟨rfl, rfl, rfl, by decide +kernel, rfl, by decide +kernel, by decide +kernel⟩

abbrev s_kernel_fault : Stmt := topS 27
theorem sc_kernel_fault : FnScope ["tokens"] ["tokens"] (defScope s_kernel_fault) := ⟨rfl, rfl, rfl, by decide +kernel, rfl, by decide +kernel, by decide +kernel⟩

abbrev s_layer_fault : Stmt := topS 28
theorem sc_layer_fault : FnScope ["tokens", "at"] ["tokens"] (defScope s_layer_fault) := ⟨rfl, rfl, rfl, by decide +kernel, rfl, by decide +kernel, by decide +kernel⟩

abbrev s_layer_of : Stmt := topS 29
theorem sc_layer_of : FnScope ["tokens", "word", "name", "extents", "row"] ["tokens"] (defScope s_layer_of) := ⟨rfl, rfl, rfl, by decide +kernel, rfl, by decide +kernel, by decide +kernel⟩

abbrev s_read_book : Stmt := topS 30
theorem sc_read_book : FnScope ["text", "rows", "at", "line", "tokens", "fault"] ["text"] (defScope s_read_book) := ⟨rfl, rfl, rfl, by decide +kernel, rfl, by decide +kernel, by decide +kernel⟩

abbrev s_extent_text : Stmt := topS 31
theorem sc_extent_text : FnScope ["word", "extent", "row"] ["word", "extent"] (defScope s_extent_text) := ⟨rfl, rfl, rfl, by decide +kernel, rfl, by decide +kernel, by decide +kernel⟩

abbrev s_write_book : Stmt := topS 32
theorem sc_write_book : FnScope ["book", "lines", "word", "name", "extent"] ["book"] (defScope s_write_book) := ⟨rfl, rfl, rfl, by decide +kernel, rfl, by decide +kernel, by decide +kernel⟩

abbrev s_law_row : Stmt := topS 34
theorem sc_law_row : FnScope ["_law_script", "_law_k", "_law_count", "_law_cell", "_law_row_here", "_law_at", "_law_seed"] ["_law_script", "_law_k", "_law_count"] (defScope s_law_row) := ⟨rfl, rfl, rfl, by decide +kernel, rfl, by decide +kernel, by decide +kernel⟩

abbrev s_law_is_integer : Stmt := topS 35
theorem sc_law_is_integer : FnScope ["_law_actual"] ["_law_actual"] (defScope s_law_is_integer) := ⟨rfl, rfl, rfl, by decide +kernel, rfl, by decide +kernel, by decide +kernel⟩

abbrev s_law_name : Stmt := topS 36
theorem sc_law_name : FnScope ["_law_a", "_law_b", "_law_c", "_law_letters"] ["_law_a", "_law_b", "_law_c"] (defScope s_law_name) := ⟨rfl, rfl, rfl, by decide +kernel, rfl, by decide +kernel, by decide +kernel⟩

abbrev s_law_table : Stmt := topS 37
theorem sc_law_table : FnScope ["_law_a", "_law_b", "_law_menu"] ["_law_a", "_law_b"] (defScope s_law_table) := ⟨rfl, rfl, rfl, by decide +kernel, rfl, by decide +kernel, by decide +kernel⟩

abbrev s_law_layer : Stmt := topS 38
theorem sc_law_layer : FnScope ["_law_row_here", "_law_before", "_law_word", "_law_name_here", "_law_odd", "_law_ways"] ["_law_row_here", "_law_before"] (defScope s_law_layer) := ⟨rfl, rfl, rfl, by decide +kernel, rfl, by decide +kernel, by decide +kernel⟩

abbrev s_law_monoid : Stmt := topS 39
theorem sc_law_monoid : FnScope ["_law_table_here", "_law_size", "_law_line", "_law_member", "_law_a", "_law_b", "_law_c"] ["_law_table_here"] (defScope s_law_monoid) := ⟨rfl, rfl, rfl, by decide +kernel, rfl, by decide +kernel, by decide +kernel⟩

abbrev s_law_good : Stmt := topS 40
theorem sc_law_good : FnScope ["_law_layer_here"] ["_law_layer_here"] (defScope s_law_good) := ⟨rfl, rfl, rfl, by decide +kernel, rfl, by decide +kernel, by decide +kernel⟩

abbrev s_law_due : Stmt := topS 41
theorem sc_law_due : FnScope ["_law_kernel", "_law_layers", "_law_names", "_law_many", "_law_at", "_law_layer_here"] ["_law_kernel", "_law_layers"] (defScope s_law_due) := ⟨rfl, rfl, rfl, by decide +kernel, rfl, by decide +kernel, by decide +kernel⟩

abbrev s_law_lines : Stmt := topS 42
theorem sc_law_lines : FnScope ["_law_kernel", "_law_layers", "_law_lines_here", "_law_layer_here", "_law_words", "_law_line", "_law_member", "_law_ways"] ["_law_kernel", "_law_layers"] (defScope s_law_lines) := ⟨rfl, rfl, rfl, by decide +kernel, rfl, by decide +kernel, by decide +kernel⟩

abbrev s_law_book_is : Stmt := topS 43
theorem sc_law_book_is : FnScope ["_law_book", "_law_kernel", "_law_layers", "_law_at", "_law_layer_here", "_law_count", "_law_a", "_law_b"] ["_law_book", "_law_kernel", "_law_layers"] (defScope s_law_book_is) := ⟨rfl, rfl, rfl, by decide +kernel, rfl, by decide +kernel, by decide +kernel⟩

abbrev s_law_fault : Stmt := topS 44
theorem sc_law_fault : FnScope ["_law_text", "_law_line", "_law_token", "e"] ["_law_text", "_law_line", "_law_token"] (defScope s_law_fault) := ⟨rfl, rfl, rfl, by decide +kernel, rfl, by decide +kernel, by decide +kernel⟩

abbrev s_law_refused : Stmt := topS 45
theorem sc_law_refused : FnScope ["_law_kernel", "_law_layers", "_law_text", "_law_due_here", "_law_found", "e"] ["_law_kernel", "_law_layers", "_law_text", "_law_due_here"] (defScope s_law_refused) := ⟨rfl, rfl, rfl, by decide +kernel, rfl, by decide +kernel, by decide +kernel⟩

abbrev s_law_spoilt : Stmt := topS 46
theorem sc_law_spoilt : FnScope ["_law_lines_here", "_law_text", "_law_row_here", "_law_line", "_law_token", "_law_words", "_law_one"] ["_law_lines_here", "_law_text", "_law_row_here"] (defScope s_law_spoilt) := ⟨rfl, rfl, rfl, by decide +kernel, rfl, by decide +kernel, by decide +kernel⟩

abbrev s_law : Stmt := topS 47
theorem sc_law : FnScope ["_law_script", "_law_row_here", "_law_kernel", "_law_layers", "_law_before", "_law_at", "_law_lines_here", "_law_text", "_law_one", "_law_due_here", "_law_book", "_law_twin", "_law_many"] ["_law_script"] (defScope s_law) := ⟨rfl, rfl, rfl, by decide +kernel, rfl, by decide +kernel, by decide +kernel⟩

structure Txt (K : PySem.W.Frag) (mg : Str → Option Value) (w : World) (cs : Cs) where
  f_TextError_init : Addr
  d_TextError_init : FuncData
  F_TextError_init : Fun K "__init__" "TextError.__init__" s_TextError_init f_TextError_init d_TextError_init
  b_TextError_init : Binds K d_TextError_init ["self", "line", "token"] []
  ti_TextError_init : PySem.W.typeIn K (.ref f_TextError_init) = some (.type "function")
  f_BookError_init : Addr
  d_BookError_init : FuncData
  F_BookError_init : Fun K "__init__" "BookError.__init__" s_BookError_init f_BookError_init d_BookError_init
  b_BookError_init : Binds K d_BookError_init ["self", "layer"] []
  ti_BookError_init : PySem.W.typeIn K (.ref f_BookError_init) = some (.type "function")
  f_token_begin : Addr
  d_token_begin : FuncData
  F_token_begin : Fun K "_token_begin" "_token_begin" s_token_begin f_token_begin d_token_begin
  b_token_begin : Binds K d_token_begin ["line", "place", "found"] []
  m_token_begin : mg "_token_begin" = some (.ref f_token_begin)
  f_token_end : Addr
  d_token_end : FuncData
  F_token_end : Fun K "_token_end" "_token_end" s_token_end f_token_end d_token_end
  b_token_end : Binds K d_token_end ["line", "begin"] []
  m_token_end : mg "_token_end" = some (.ref f_token_end)
  f_tokens_of : Addr
  d_tokens_of : FuncData
  F_tokens_of : Fun K "tokens_of" "tokens_of" s_tokens_of f_tokens_of d_tokens_of
  b_tokens_of : Binds K d_tokens_of ["line", "number"] []
  m_tokens_of : mg "tokens_of" = some (.ref f_tokens_of)
  f_is_digits : Addr
  d_is_digits : FuncData
  F_is_digits : Fun K "is_digits" "is_digits" s_is_digits f_is_digits d_is_digits
  b_is_digits : Binds K d_is_digits ["token"] []
  m_is_digits : mg "is_digits" = some (.ref f_is_digits)
  f_whole_in : Addr
  d_whole_in : FuncData
  F_whole_in : Fun K "whole_in" "whole_in" s_whole_in f_whole_in d_whole_in
  b_whole_in : Binds K d_whole_in ["token", "most"] []
  m_whole_in : mg "whole_in" = some (.ref f_whole_in)
  f_number_in : Addr
  d_number_in : FuncData
  F_number_in : Fun K "number_in" "number_in" s_number_in f_number_in d_number_in
  b_number_in : Binds K d_number_in ["token"] []
  m_number_in : mg "number_in" = some (.ref f_number_in)
  f_is_name : Addr
  d_is_name : FuncData
  F_is_name : Fun K "is_name" "is_name" s_is_name f_is_name d_is_name
  b_is_name : Binds K d_is_name ["token"] []
  m_is_name : mg "is_name" = some (.ref f_is_name)
  f_choices : Addr
  d_choices : FuncData
  F_choices : Fun K "choices" "choices" s_choices f_choices d_choices
  b_choices : Binds K d_choices ["kernel"] []
  m_choices : mg "choices" = some (.ref f_choices)
  f_draws : Addr
  d_draws : FuncData
  F_draws : Fun K "draws" "draws" s_draws f_draws d_draws
  b_draws : Binds K d_draws ["kernel"] []
  m_draws : mg "draws" = some (.ref f_draws)
  f_is_associative : Addr
  d_is_associative : FuncData
  F_is_associative : Fun K "_is_associative" "_is_associative" s_is_associative f_is_associative d_is_associative
  b_is_associative : Binds K d_is_associative ["table"] []
  m_is_associative : mg "_is_associative" = some (.ref f_is_associative)
  f_is_square : Addr
  d_is_square : FuncData
  F_is_square : Fun K "_is_square" "_is_square" s_is_square f_is_square d_is_square
  b_is_square : Binds K d_is_square ["table"] []
  m_is_square : mg "_is_square" = some (.ref f_is_square)
  f_is_monoid : Addr
  d_is_monoid : FuncData
  F_is_monoid : Fun K "_is_monoid" "_is_monoid" s_is_monoid f_is_monoid d_is_monoid
  b_is_monoid : Binds K d_is_monoid ["table"] []
  m_is_monoid : mg "_is_monoid" = some (.ref f_is_monoid)
  f_is_layer : Addr
  d_is_layer : FuncData
  F_is_layer : Fun K "_is_layer" "_is_layer" s_is_layer f_is_layer d_is_layer
  b_is_layer : Binds K d_is_layer ["layer"] []
  m_is_layer : mg "_is_layer" = some (.ref f_is_layer)
  f_states_of : Addr
  d_states_of : FuncData
  F_states_of : Fun K "_states_of" "_states_of" s_states_of f_states_of d_states_of
  b_states_of : Binds K d_states_of ["layers"] []
  m_states_of : mg "_states_of" = some (.ref f_states_of)
  f_Book_init : Addr
  d_Book_init : FuncData
  F_Book_init : Fun K "__init__" "Book.__init__" s_Book_init f_Book_init d_Book_init
  b_Book_init : Binds K d_Book_init ["self", "kernel", "layers"] []
  mk_Book : Mk K cs.Book f_Book_init
  f_Book_word_at : Addr
  d_Book_word_at : FuncData
  F_Book_word_at : Fun K "word_at" "Book.word_at" s_Book_word_at f_Book_word_at d_Book_word_at
  b_Book_word_at : Binds K d_Book_word_at ["self", "layer"] []
  mm_Book_word_at : Meth K cs.Book "word_at" f_Book_word_at
  f_Book_count_at : Addr
  d_Book_count_at : FuncData
  F_Book_count_at : Fun K "count_at" "Book.count_at" s_Book_count_at f_Book_count_at d_Book_count_at
  b_Book_count_at : Binds K d_Book_count_at ["self", "layer"] []
  mm_Book_count_at : Meth K cs.Book "count_at" f_Book_count_at
  f_Book_ways_at : Addr
  d_Book_ways_at : FuncData
  F_Book_ways_at : Fun K "ways_at" "Book.ways_at" s_Book_ways_at f_Book_ways_at d_Book_ways_at
  b_Book_ways_at : Binds K d_Book_ways_at ["self", "layer", "deed"] []
  mm_Book_ways_at : Meth K cs.Book "ways_at" f_Book_ways_at
  f_Book_product : Addr
  d_Book_product : FuncData
  F_Book_product : Fun K "product" "Book.product" s_Book_product f_Book_product d_Book_product
  b_Book_product : Binds K d_Book_product ["self", "layer", "first", "second"] []
  mm_Book_product : Meth K cs.Book "product" f_Book_product
  f_Book_number_of : Addr
  d_Book_number_of : FuncData
  F_Book_number_of : Fun K "number_of" "Book.number_of" s_Book_number_of f_Book_number_of d_Book_number_of
  b_Book_number_of : Binds K d_Book_number_of ["self", "name"] []
  mm_Book_number_of : Meth K cs.Book "number_of" f_Book_number_of
  f_like_books : Addr
  d_like_books : FuncData
  F_like_books : Fun K "like_books" "like_books" s_like_books f_like_books d_like_books
  b_like_books : Binds K d_like_books ["one", "other"] []
  m_like_books : mg "like_books" = some (.ref f_like_books)
  f_is_extent : Addr
  d_is_extent : FuncData
  F_is_extent : Fun K "_is_extent" "_is_extent" s_is_extent f_is_extent d_is_extent
  b_is_extent : Binds K d_is_extent ["word", "token"] []
  m_is_extent : mg "_is_extent" = some (.ref f_is_extent)
  f_kernel_fault : Addr
  d_kernel_fault : FuncData
  F_kernel_fault : Fun K "_kernel_fault" "_kernel_fault" s_kernel_fault f_kernel_fault d_kernel_fault
  b_kernel_fault : Binds K d_kernel_fault ["tokens"] []
  m_kernel_fault : mg "_kernel_fault" = some (.ref f_kernel_fault)
  f_layer_fault : Addr
  d_layer_fault : FuncData
  F_layer_fault : Fun K "_layer_fault" "_layer_fault" s_layer_fault f_layer_fault d_layer_fault
  b_layer_fault : Binds K d_layer_fault ["tokens"] []
  m_layer_fault : mg "_layer_fault" = some (.ref f_layer_fault)
  f_layer_of : Addr
  d_layer_of : FuncData
  F_layer_of : Fun K "_layer_of" "_layer_of" s_layer_of f_layer_of d_layer_of
  b_layer_of : Binds K d_layer_of ["tokens"] []
  m_layer_of : mg "_layer_of" = some (.ref f_layer_of)
  f_read_book : Addr
  d_read_book : FuncData
  F_read_book : Fun K "read_book" "read_book" s_read_book f_read_book d_read_book
  b_read_book : Binds K d_read_book ["text"] []
  m_read_book : mg "read_book" = some (.ref f_read_book)
  f_extent_text : Addr
  d_extent_text : FuncData
  F_extent_text : Fun K "_extent_text" "_extent_text" s_extent_text f_extent_text d_extent_text
  b_extent_text : Binds K d_extent_text ["word", "extent"] []
  m_extent_text : mg "_extent_text" = some (.ref f_extent_text)
  f_write_book : Addr
  d_write_book : FuncData
  F_write_book : Fun K "write_book" "write_book" s_write_book f_write_book d_write_book
  b_write_book : Binds K d_write_book ["book"] []
  m_write_book : mg "write_book" = some (.ref f_write_book)
  f_law_row : Addr
  d_law_row : FuncData
  F_law_row : Fun K "_law_row" "_law_row" s_law_row f_law_row d_law_row
  b_law_row : Binds K d_law_row ["_law_script", "_law_k", "_law_count"] []
  m_law_row : mg "_law_row" = some (.ref f_law_row)
  f_law_is_integer : Addr
  d_law_is_integer : FuncData
  F_law_is_integer : Fun K "_law_is_integer" "_law_is_integer" s_law_is_integer f_law_is_integer d_law_is_integer
  b_law_is_integer : Binds K d_law_is_integer ["_law_actual"] []
  m_law_is_integer : mg "_law_is_integer" = some (.ref f_law_is_integer)
  f_law_name : Addr
  d_law_name : FuncData
  F_law_name : Fun K "_law_name" "_law_name" s_law_name f_law_name d_law_name
  b_law_name : Binds K d_law_name ["_law_a", "_law_b", "_law_c"] []
  m_law_name : mg "_law_name" = some (.ref f_law_name)
  f_law_table : Addr
  d_law_table : FuncData
  F_law_table : Fun K "_law_table" "_law_table" s_law_table f_law_table d_law_table
  b_law_table : Binds K d_law_table ["_law_a", "_law_b"] []
  m_law_table : mg "_law_table" = some (.ref f_law_table)
  f_law_layer : Addr
  d_law_layer : FuncData
  F_law_layer : Fun K "_law_layer" "_law_layer" s_law_layer f_law_layer d_law_layer
  b_law_layer : Binds K d_law_layer ["_law_row_here", "_law_before"] []
  m_law_layer : mg "_law_layer" = some (.ref f_law_layer)
  f_law_monoid : Addr
  d_law_monoid : FuncData
  F_law_monoid : Fun K "_law_monoid" "_law_monoid" s_law_monoid f_law_monoid d_law_monoid
  b_law_monoid : Binds K d_law_monoid ["_law_table_here"] []
  m_law_monoid : mg "_law_monoid" = some (.ref f_law_monoid)
  f_law_good : Addr
  d_law_good : FuncData
  F_law_good : Fun K "_law_good" "_law_good" s_law_good f_law_good d_law_good
  b_law_good : Binds K d_law_good ["_law_layer_here"] []
  m_law_good : mg "_law_good" = some (.ref f_law_good)
  f_law_due : Addr
  d_law_due : FuncData
  F_law_due : Fun K "_law_due" "_law_due" s_law_due f_law_due d_law_due
  b_law_due : Binds K d_law_due ["_law_kernel", "_law_layers"] []
  m_law_due : mg "_law_due" = some (.ref f_law_due)
  f_law_lines : Addr
  d_law_lines : FuncData
  F_law_lines : Fun K "_law_lines" "_law_lines" s_law_lines f_law_lines d_law_lines
  b_law_lines : Binds K d_law_lines ["_law_kernel", "_law_layers"] []
  m_law_lines : mg "_law_lines" = some (.ref f_law_lines)
  f_law_book_is : Addr
  d_law_book_is : FuncData
  F_law_book_is : Fun K "_law_book_is" "_law_book_is" s_law_book_is f_law_book_is d_law_book_is
  b_law_book_is : Binds K d_law_book_is ["_law_book", "_law_kernel", "_law_layers"] []
  m_law_book_is : mg "_law_book_is" = some (.ref f_law_book_is)
  f_law_fault : Addr
  d_law_fault : FuncData
  F_law_fault : Fun K "_law_fault" "_law_fault" s_law_fault f_law_fault d_law_fault
  b_law_fault : Binds K d_law_fault ["_law_text", "_law_line", "_law_token"] []
  m_law_fault : mg "_law_fault" = some (.ref f_law_fault)
  f_law_refused : Addr
  d_law_refused : FuncData
  F_law_refused : Fun K "_law_refused" "_law_refused" s_law_refused f_law_refused d_law_refused
  b_law_refused : Binds K d_law_refused ["_law_kernel", "_law_layers", "_law_text", "_law_due_here"] []
  m_law_refused : mg "_law_refused" = some (.ref f_law_refused)
  f_law_spoilt : Addr
  d_law_spoilt : FuncData
  F_law_spoilt : Fun K "_law_spoilt" "_law_spoilt" s_law_spoilt f_law_spoilt d_law_spoilt
  b_law_spoilt : Binds K d_law_spoilt ["_law_lines_here", "_law_text", "_law_row_here"] []
  m_law_spoilt : mg "_law_spoilt" = some (.ref f_law_spoilt)
  f_law : Addr
  d_law : FuncData
  F_law : Fun K "law" "law" s_law f_law d_law
  b_law : Binds K d_law ["_law_script"] []
  m_law : mg "law" = some (.ref f_law)
  m_DeedsError : mg "DeedsError" = some (.ref cs.DeedsError)
  m_TextError : mg "TextError" = some (.ref cs.TextError)
  o_TextError : OexC K cs.TextError
  ii_TextError : PySem.W.findIn K (.ref cs.TextError) "__init__" = some (some (.ref f_TextError_init))
  x_TextError : XfC K cs.TextError
  n_TextError_line : PySem.W.findIn K (.ref cs.TextError) "line" = some none
  n_TextError_token : PySem.W.findIn K (.ref cs.TextError) "token" = some none
  m_BookError : mg "BookError" = some (.ref cs.BookError)
  o_BookError : OexC K cs.BookError
  ii_BookError : PySem.W.findIn K (.ref cs.BookError) "__init__" = some (some (.ref f_BookError_init))
  x_BookError : XfC K cs.BookError
  n_BookError_layer : PySem.W.findIn K (.ref cs.BookError) "layer" = some none
  m_Book : mg "Book" = some (.ref cs.Book)
  cl_Book : Cls K cs.Book
  n_Book_kernel : NoAttr K cs.Book "kernel"
  n_Book_layers : NoAttr K cs.Book "layers"
  n_Book_numbers : NoAttr K cs.Book "numbers"
  n_Book_size : NoAttr K cs.Book "size"
  cat_BookError : ∀ C b, (C, b) ∈ [(cs.TextError, false), (cs.BookError, true)] → PySem.W.exmOne K (.ref C) (.ref cs.BookError) = some b
  cat_DeedsError : ∀ C b, (C, b) ∈ [(cs.TextError, true), (cs.BookError, true)] → PySem.W.exmOne K (.ref C) (.ref cs.DeedsError) = some b
  cat_TextError : ∀ C b, (C, b) ∈ [(cs.TextError, true), (cs.BookError, false)] → PySem.W.exmOne K (.ref C) (.ref cs.TextError) = some b
  xi_TextError : ExcC K cs.TextError
  kb_TextError_ValueError : PySem.W.kitOne K (.ref cs.TextError) (.type "ValueError") = some true
  ki_TextError_DeedsError : PySem.W.kitOne K (.ref cs.TextError) (.ref cs.DeedsError) = some true
  z_ValueError : mg "ValueError" = none
  z_bool : mg "bool" = none
  z_enumerate : mg "enumerate" = none
  z_int : mg "int" = none
  z_isinstance : mg "isinstance" = none
  z_len : mg "len" = none
  z_list : mg "list" = none
  z_map : mg "map" = none
  z_max : mg "max" = none
  z_min : mg "min" = none
  z_range : mg "range" = none
  z_str : mg "str" = none
  z_tuple : mg "tuple" = none
  g_MOST_LAYERS : ∃ t, mg "MOST_LAYERS" = some (.int 5 t)
  g_MOST_STATES : ∃ t, mg "MOST_STATES" = some (.int 12 t)
  k_LAYER_WORDS : Addr
  m_LAYER_WORDS : mg "LAYER_WORDS" = some (.ref k_LAYER_WORDS)
  tp_LAYER_WORDS : ∀ F, Rp K F (strsD ["cell", "setting", "note", "fail", "outside"]) (.ref k_LAYER_WORDS)
  k_KERNELS : Addr
  es_KERNELS : Array DictEntry
  nn_KERNELS : Nat
  m_KERNELS : mg "KERNELS" = some (.ref k_KERNELS)
  kd_KERNELS : KDict K w k_KERNELS es_KERNELS nn_KERNELS
  nk_KERNELS : ∀ z ∈ (["none", "choose", "draw", "spread", "twochoose", "twodraw", "mixed"] : List Str), ∃ u, PySem.W.nsIn K k_KERNELS z = some (some u)
  no_KERNELS : ∀ z ∈ (["chance", "A"] : List Str), PySem.W.nsIn K k_KERNELS z = some none
  it_KERNELS : ∀ z dd, ([("none", .tup (([0, 0] : List Int).map .int)), ("choose", .tup (([1, 0] : List Int).map .int)), ("draw", .tup (([0, 1] : List Int).map .int)), ("spread", .tup (([1, 1] : List Int).map .int)), ("twochoose", .tup (([2, 0] : List Int).map .int)), ("twodraw", .tup (([0, 2] : List Int).map .int)), ("mixed", .tup (([1, 1] : List Int).map .int))] : List (Str × D)).lookup z = some dd → ∃ (u : Value) (v : V), PySem.W.nsIn K k_KERNELS z = some (some u) ∧ RelV v u ∧ ∀ F, Rp K F dd v
section
variable {P : Program} {w : World} {K : PySem.W.Frag} {mg : Str → Option Value} {base : Heap} {cs : Cs}
theorem okx_TextError (T : Txt K mg w cs) : FnOk P w K mg base CX0 1 T.f_TextError_init T.d_TextError_init ["self", "line", "token"] (spInit cs.TextError ["line", "token"]) := by
  refine T.F_TextError_init.ok sc_TextError_init (spInit_len rfl) fun cdv A outer s H vs Q E hr h => ⟨_, pss_cons (ps_ost (pe_var (i := 0) rfl (Or.inl rfl) (by decide) (by decide)) (pe_var (i := 1) rfl (Or.inl rfl) (by decide) (by decide))) (pss_one (ps_ost (pe_var (i := 0) rfl (Or.inl rfl) (by decide) (by decide)) (pe_var (i := 2) rfl (Or.inl rfl) (by decide) (by decide)))), ?_⟩
  exact init2 T.o_TextError T.n_TextError_line T.n_TextError_token h

theorem okx_BookError (T : Txt K mg w cs) : FnOk P w K mg base CX0 1 T.f_BookError_init T.d_BookError_init ["self", "layer"] (spInit cs.BookError ["layer"]) := by
  refine T.F_BookError_init.ok sc_BookError_init (spInit_len rfl) fun cdv A outer s H vs Q E hr h => ⟨_, pss_one (ps_ost (pe_var (i := 0) rfl (Or.inl rfl) (by decide) (by decide)) (pe_var (i := 1) rfl (Or.inl rfl) (by decide) (by decide))), ?_⟩
  exact init1 T.o_BookError T.n_BookError_layer h

theorem ok_token_begin (T : Txt K mg w cs) : FnOk P w K mg base CX0 1 T.f_token_begin T.d_token_begin ["line", "place", "found"] (spOf K (S_token_begin cs)) := by
  refine fn_ok T.F_token_begin sc_token_begin (ar_token_begin cs) fun cdv A outer s H E Z hr => ⟨r_token_begin cs, ?_, (red_token_begin cs)⟩
  exact (qss_cons (qs_set (i := 3) sc_token_begin.nd (qe_ix (qe_var 0) (qe_var 1)))
      (qss_cons (qs_if (qw_or (qt_not (qt_truthR (qe_var 2))) (qw_or1 (qt_cmp (op_eqA hr.units) od_eqA (qe_ixM (qe_var 2) (qe_neg qe_int)) qe_str))).qt (qss_one (qs_ret (qe_if (qt_cmp (op_eqA hr.units) od_eqA (qe_var 3) qe_str) (qe_neg qe_int) (qe_var 1)))) qss_nil)
      (qss_cons (qs_if (qt_cmp (op_eqA hr.units) od_eqA (qe_var 3) qe_str) (qss_one (qs_ret (qe_var 1))) qss_nil)
      (qss_cons (qs_if (qw_and (qt_cmp (op_eqA hr.units) od_eqA (qe_var 3) qe_str) (qw_and (qt_cmp op_lt od_lt (qe_addT (qe_var 1) qe_int) (qe_len (by rfl) T.z_len (qa_cons (qe_var 0) qa_nil))) (qw_and1 (qt_cmp op_ninA od_inA (qe_ix (qe_var 0) (qe_addT (qe_var 1) qe_int)) qe_str)))).qt (qss_one (qs_ret (qe_addT (qe_var 1) qe_int))) qss_nil)
      (qss_one (qs_ret (qe_neg qe_int)))))))

theorem ok_token_end (T : Txt K mg w cs) : FnOk P w K mg base CX0 1 T.f_token_end T.d_token_end ["line", "begin"] (spOf K (S_token_end cs)) := by
  refine fn_ok T.F_token_end sc_token_end (ar_token_end cs) fun cdv A outer s H E Z hr => ⟨r_token_end cs, ?_, (red_token_end cs)⟩
  exact (qss_cons (qs_set (i := 2) sc_token_end.nd (qe_addT (qe_var 1) qe_int))
      (qss_cons (qs_if (qt_cmp op_inA od_inA (qe_ix (qe_var 0) (qe_var 1)) qe_str) (qss_one (qs_ret (qe_var 2))) qss_nil)
      (qss_cons (qs_while (js := []) PassesOwn.never (qw_and (qt_cmp op_lt od_lt (qe_var 2) (qe_len (by rfl) T.z_len (qa_cons (qe_var 0) qa_nil))) (qw_and1 (qt_cmp op_ninA od_inA (qe_ix (qe_var 0) (qe_var 2)) qe_str))).qt (qss_one (qs_inc (i := 2) sc_token_end.nd qe_int)))
      (qss_one (qs_ret (qe_var 2))))))

theorem ok_tokens_of (T : Txt K mg w cs) : FnOk P w K mg base (L2.CX P w) 3 T.f_tokens_of T.d_tokens_of ["line", "number"] (spOf K (S_tokens_of cs)) := by
  refine fn_okX T.F_tokens_of sc_tokens_of (ar_tokens_of cs) fun cdv A outer s H E Z Ψ hr tk po xo => ⟨r_tokens_of cs Ψ, ?_, fun ds M Φ => (red_tokens_of cs) ds M Φ Ψ⟩
  exact (qss_cons (qs_setM (i := 2) sc_tokens_of.nd (ql_lst qa_nil))
      (qss_cons (qs_set (i := 3) sc_tokens_of.nd qe_int)
      (qss_cons (qs_while (js := [4]) po (qt_cmp op_lt od_lt (qe_var 3) (qe_len (by rfl) T.z_len (qa_cons (qe_var 0) qa_nil))) (qss_cons (qs_set (i := 4) sc_tokens_of.nd (qe_call (ok_token_begin T) (hr.mono (by first | decide | omega | exact Nat.le_refl _ | exact Nat.le_trans (by decide) (Nat.le_add_right _ _))) (by rfl) T.m_token_begin T.F_token_begin.kp T.b_token_begin (qa_cons (qe_var 0) (qa_cons (qe_var 3) (qa_cons (qe_var 2) qa_nil)))))
    (qss_cons (qs_if (qt_cmp op_lt od_lt (qe_var 4) qe_int) (qss_one (qs_raise (names := ["line", "token"]) (by rfl) tk xo T.o_TextError T.ii_TextError T.ti_TextError_init (okx_TextError T) (hr.mono (by first | decide | omega | exact Nat.le_refl _ | exact Nat.le_trans (by decide) (Nat.le_add_right _ _))) T.b_TextError_init (by rfl) T.m_TextError (qa_cons (qe_var 1) (qa_cons (qe_addT (qe_lenM (by rfl) T.z_len (qe_var 2)) qe_int) qa_nil)))) qss_nil)
    (qss_cons (qs_set (i := 3) sc_tokens_of.nd (qe_call (ok_token_end T) (hr.mono (by first | decide | omega | exact Nat.le_refl _ | exact Nat.le_trans (by decide) (Nat.le_add_right _ _))) (by rfl) T.m_token_end T.F_token_end.kp T.b_token_end (qa_cons (qe_var 0) (qa_cons (qe_var 4) qa_nil))))
    (qss_one (qs_appM (qe_var 2) (qe_slA (qe_var 0) (qo_some (qe_var 4)) (qo_some (qe_var 3)))))))))
      (qss_one (qs_ret (qe_var 2))))))

theorem ok_is_digits (T : Txt K mg w cs) : FnOk P w K mg base CX0 1 T.f_is_digits T.d_is_digits ["token"] (spOf K (S_is_digits cs)) := by
  refine fn_ok T.F_is_digits sc_is_digits (ar_is_digits cs) fun cdv A outer s H E Z hr => ⟨r_is_digits cs, ?_, (red_is_digits cs)⟩
  exact (qss_one (qs_ret (qe_and (qe_m0 PySem.F.slot_str_isascii PySem.F.type_str_isascii mt_isascii (qe_var 0)) (qe_one (qe_m0 PySem.F.slot_str_isdigit PySem.F.type_str_isdigit mt_isdigit (qe_var 0))))))

theorem ok_whole_in (T : Txt K mg w cs) : FnOk P w K mg base CX0 2 T.f_whole_in T.d_whole_in ["token", "most"] (spOf K (S_whole_in cs)) := by
  refine fn_ok T.F_whole_in sc_whole_in (ar_whole_in cs) fun cdv A outer s H E Z hr => ⟨r_whole_in cs, ?_, (red_whole_in cs)⟩
  exact (qss_cons (qs_if (qw_or (qt_not (qt_truth (qe_call (ok_is_digits T) (hr.mono (by first | decide | omega | exact Nat.le_refl _ | exact Nat.le_trans (by decide) (Nat.le_add_right _ _))) (by rfl) T.m_is_digits T.F_is_digits.kp T.b_is_digits (qa_cons (qe_var 0) qa_nil)))) (qw_or1 (qt_cmp op_gt od_gt (qe_len (by rfl) T.z_len (qa_cons (qe_var 0) qa_nil)) (qe_var 1)))).qt (qss_one (qs_ret (qe_neg qe_int))) qss_nil)
      (qss_cons (qs_if (qw_and (qt_cmp (op_eqA hr.units) od_eqA (qe_ix (qe_var 0) qe_int) qe_str) (qw_and1 (qt_cmp (op_neA hr.units) od_neA (qe_var 0) qe_str))).qt (qss_one (qs_ret (qe_neg qe_int))) qss_nil)
      (qss_one (qs_ret (qe_intA (by rfl) T.z_int (qa_cons (qe_var 0) qa_nil))))))

theorem ok_number_in (T : Txt K mg w cs) : FnOk P w K mg base CX0 3 T.f_number_in T.d_number_in ["token"] (spOf K (S_number_in cs)) := by
  refine fn_ok T.F_number_in sc_number_in (ar_number_in cs) fun cdv A outer s H E Z hr => ⟨r_number_in cs, ?_, (red_number_in cs)⟩
  exact (qss_one (qs_ret (qe_call (ok_whole_in T) (hr.mono (by first | decide | omega | exact Nat.le_refl _ | exact Nat.le_trans (by decide) (Nat.le_add_right _ _))) (by rfl) T.m_whole_in T.F_whole_in.kp T.b_whole_in (qa_cons (qe_var 0) (qa_cons qe_int qa_nil)))))

theorem ok_is_name (T : Txt K mg w cs) : FnOk P w K mg base CX0 1 T.f_is_name T.d_is_name ["token"] (spOf K (S_is_name cs)) := by
  refine fn_ok T.F_is_name sc_is_name (ar_is_name cs) fun cdv A outer s H E Z hr => ⟨r_is_name cs, ?_, (red_is_name cs)⟩
  exact (qss_one (qs_ret (qe_and (qe_cmp op_le od_le (qe_len (by rfl) T.z_len (qa_cons (qe_var 0) qa_nil)) qe_int) (qe_and (qe_m0 PySem.F.slot_str_isascii PySem.F.type_str_isascii mt_isascii (qe_var 0)) (qe_and (qe_m0 PySem.F.slot_str_isalpha PySem.F.type_str_isalpha mt_isalpha (qe_var 0)) (qe_one (qe_m0 PySem.F.slot_str_islower PySem.F.type_str_islower mt_islower (qe_var 0))))))))

theorem ok_choices (T : Txt K mg w cs) : FnOk P w K mg base CX0 1 T.f_choices T.d_choices ["kernel"] (spOf K (S_choices cs)) := by
  refine fn_ok T.F_choices sc_choices (ar_choices cs) fun cdv A outer s H E Z hr => ⟨r_choices cs, ?_, (red_choices cs)⟩
  exact (qss_one (qs_ret (qe_ix (qe_itemK T.kd_KERNELS T.it_KERNELS (by rfl) T.m_KERNELS (qe_var 0)) qe_int)))

theorem ok_draws (T : Txt K mg w cs) : FnOk P w K mg base CX0 1 T.f_draws T.d_draws ["kernel"] (spOf K (S_draws cs)) := by
  refine fn_ok T.F_draws sc_draws (ar_draws cs) fun cdv A outer s H E Z hr => ⟨r_draws cs, ?_, (red_draws cs)⟩
  exact (qss_one (qs_ret (qe_ix (qe_itemK T.kd_KERNELS T.it_KERNELS (by rfl) T.m_KERNELS (qe_var 0)) qe_int)))

theorem ok_is_associative (T : Txt K mg w cs) : FnOk P w K mg base CX0 1 T.f_is_associative T.d_is_associative ["table"] (spOf K (S_is_associative cs)) := by
  refine fn_ok T.F_is_associative sc_is_associative (ar_is_associative cs) fun cdv A outer s H E Z hr => ⟨r_is_associative cs, ?_, (red_is_associative cs)⟩
  exact (qss_cons (qs_set (i := 1) sc_is_associative.nd (qe_rngV (by rfl) T.z_range (qe_len (by rfl) T.z_len (qa_cons (qe_var 0) qa_nil))))
      (qss_cons (qs_forI (js := [2, 3]) PassesOwn.never (by rfl) (qi_rngV (qe_var 1)) (pg_name (i := 2) sc_is_associative.nd rfl (Or.inl rfl)) simG_name (qss_one (qs_forI (js := [3, 4]) PassesOwn.never (by rfl) (qi_rngV (qe_var 1)) (pg_name (i := 3) sc_is_associative.nd rfl (Or.inl rfl)) simG_name (qss_one (qs_forI (js := [4]) PassesOwn.never (by rfl) (qi_rngV (qe_var 1)) (pg_name (i := 4) sc_is_associative.nd rfl (Or.inl rfl)) simG_name (qss_one (qs_if (qt_cmp (op_neA hr.units) od_neA (qe_ix (qe_ix (qe_var 0) (qe_ix (qe_ix (qe_var 0) (qe_var 2)) (qe_var 3))) (qe_var 4)) (qe_ix (qe_ix (qe_var 0) (qe_var 2)) (qe_ix (qe_ix (qe_var 0) (qe_var 3)) (qe_var 4)))) (qss_one (qs_ret qe_bl)) qss_nil)))))))
      (qss_one (qs_ret qe_bl))))

theorem ok_is_square (T : Txt K mg w cs) : FnOk P w K mg base CX0 1 T.f_is_square T.d_is_square ["table"] (spOf K (S_is_square cs)) := by
  refine fn_ok T.F_is_square sc_is_square (ar_is_square cs) fun cdv A outer s H E Z hr => ⟨r_is_square cs, ?_, (red_is_square cs)⟩
  exact (qss_cons (qs_set (i := 1) sc_is_square.nd (qe_len (by rfl) T.z_len (qa_cons (qe_var 0) qa_nil)))
      (qss_cons (qs_for (j := 2) (js := [2]) PassesOwn.never (by rfl) sc_is_square.nd (qe_var 0) (qss_one (qs_if (qw_or (qt_cmp (op_neA hr.units) od_neA (qe_len (by rfl) T.z_len (qa_cons (qe_var 2) qa_nil)) (qe_var 1)) (qw_or (qt_cmp op_lt od_lt (qe_minT (by rfl) hr.units (by rfl) T.z_min (qa_cons (qe_var 2) qa_nil)) qe_int) (qw_or1 (qt_cmp op_ge od_ge (qe_maxT (by rfl) hr.units (by rfl) T.z_max (qa_cons (qe_var 2) qa_nil)) (qe_var 1))))).qt (qss_one (qs_ret qe_bl)) qss_nil)))
      (qss_one (qs_ret qe_bl))))

theorem ok_is_monoid (T : Txt K mg w cs) : FnOk P w K mg base CX0 2 T.f_is_monoid T.d_is_monoid ["table"] (spOf K (S_is_monoid cs)) := by
  refine fn_ok T.F_is_monoid sc_is_monoid (ar_is_monoid cs) fun cdv A outer s H E Z hr => ⟨r_is_monoid cs, ?_, (red_is_monoid cs)⟩
  exact (qss_cons (qs_if (qw_or (qt_not (qt_chain op_le od_le op_le od_le qe_int (qe_len (by rfl) T.z_len (qa_cons (qe_var 0) qa_nil)) qe_int)) (qw_or1 (qt_not (qt_truth (qe_call (ok_is_square T) (hr.mono (by first | decide | omega | exact Nat.le_refl _ | exact Nat.le_trans (by decide) (Nat.le_add_right _ _))) (by rfl) T.m_is_square T.F_is_square.kp T.b_is_square (qa_cons (qe_var 0) qa_nil)))))).qt (qss_one (qs_ret qe_bl)) qss_nil)
      (qss_cons (qs_forR (j := 1) (js := [1]) PassesOwn.never (by rfl) sc_is_monoid.nd (by rfl) T.z_range (qe_len (by rfl) T.z_len (qa_cons (qe_var 0) qa_nil)) (qss_one (qs_if (qw_or (qt_cmp (op_neA hr.units) od_neA (qe_ix (qe_ix (qe_var 0) qe_int) (qe_var 1)) (qe_var 1)) (qw_or1 (qt_cmp (op_neA hr.units) od_neA (qe_ix (qe_ix (qe_var 0) (qe_var 1)) qe_int) (qe_var 1)))).qt (qss_one (qs_ret qe_bl)) qss_nil)))
      (qss_one (qs_ret (qe_call (ok_is_associative T) (hr.mono (by first | decide | omega | exact Nat.le_refl _ | exact Nat.le_trans (by decide) (Nat.le_add_right _ _))) (by rfl) T.m_is_associative T.F_is_associative.kp T.b_is_associative (qa_cons (qe_var 0) qa_nil))))))

theorem ok_is_layer (T : Txt K mg w cs) : FnOk P w K mg base CX0 3 T.f_is_layer T.d_is_layer ["layer"] (spOf K (S_is_layer cs)) := by
  refine fn_ok T.F_is_layer sc_is_layer (ar_is_layer cs) fun cdv A outer s H E Z hr => ⟨r_is_layer cs, ?_, (red_is_layer cs)⟩
  exact (qss_cons (qs_unp (is := [1, 2, 3]) rfl (qe_var 0) (pgs_cons (pg_name (i := 1) sc_is_layer.nd rfl (Or.inl rfl)) (pgs_cons (pg_name (i := 2) sc_is_layer.nd rfl (Or.inl rfl)) (pgs_cons (pg_name (i := 3) sc_is_layer.nd rfl (Or.inl rfl)) pgs_nil))))
      (qss_cons (qs_if (qw_or (qt_not (qt_truth (qe_call (ok_is_name T) (hr.mono (by first | decide | omega | exact Nat.le_refl _ | exact Nat.le_trans (by decide) (Nat.le_add_right _ _))) (by rfl) T.m_is_name T.F_is_name.kp T.b_is_name (qa_cons (qe_var 2) qa_nil)))) (qw_or1 (qt_cmp op_ninA od_inA (qe_var 1) (qe_glob (v := .ref T.k_LAYER_WORDS) (u := .ref T.k_LAYER_WORDS) (by rfl) T.m_LAYER_WORDS rfl T.tp_LAYER_WORDS)))).qt (qss_one (qs_ret qe_bl)) qss_nil)
      (qss_cons (qs_if (qt_cmp (op_eqA hr.units) od_eqA (qe_var 1) qe_str) (qss_one (qs_ret (qe_call (ok_is_monoid T) (hr.mono (by first | decide | omega | exact Nat.le_refl _ | exact Nat.le_trans (by decide) (Nat.le_add_right _ _))) (by rfl) T.m_is_monoid T.F_is_monoid.kp T.b_is_monoid (qa_cons (qe_var 3) qa_nil)))) qss_nil)
      (qss_cons (qs_if (qt_cmp (op_eqA hr.units) od_eqA (qe_var 1) qe_str) (qss_one (qs_ret (qe_and (qe_chain op_le od_le op_le od_le qe_int (qe_len (by rfl) T.z_len (qa_cons (qe_var 3) qa_nil)) qe_int) (qe_and (qe_cmp op_le od_le qe_int (qe_minT (by rfl) hr.units (by rfl) T.z_min (qa_cons (qe_var 3) qa_nil))) (qe_one (qe_cmp op_le od_le (qe_maxT (by rfl) hr.units (by rfl) T.z_max (qa_cons (qe_var 3) qa_nil)) qe_int)))))) qss_nil)
      (qss_cons (qs_if (qt_cmp (op_eqA hr.units) od_eqA (qe_var 1) qe_str) (qss_one (qs_ret (qe_chain op_le od_le op_le od_le qe_int (qe_var 3) qe_int))) qss_nil)
      (qss_one (qs_ret (qe_chain op_le od_le op_le od_le qe_int (qe_var 3) qe_int))))))))

theorem ok_states_of (T : Txt K mg w cs) : FnOk P w K mg base CX0 1 T.f_states_of T.d_states_of ["layers"] (spOf K (S_states_of cs)) := by
  refine fn_ok T.F_states_of sc_states_of (ar_states_of cs) fun cdv A outer s H E Z hr => ⟨r_states_of cs, ?_, (red_states_of cs)⟩
  exact (qss_cons (qs_set (i := 1) sc_states_of.nd qe_int)
      (qss_cons (qs_forU (is := [2, 3, 4]) (js := [2, 3, 4]) PassesOwn.never (by rfl) (qe_var 0) (pgs_cons (pg_name (i := 2) sc_states_of.nd rfl (Or.inl rfl)) (pgs_cons (pg_name (i := 3) sc_states_of.nd rfl (Or.inl rfl)) (pgs_cons (pg_name (i := 4) sc_states_of.nd rfl (Or.inl rfl)) pgs_nil))) (qss_one (qs_if (qt_cmp op_inA od_inA (qe_var 2) (qe_tup (qa_cons qe_str (qa_cons qe_str qa_nil)))) (qss_one (qs_set (i := 1) sc_states_of.nd (qe_mulA (qe_var 1) (qe_var 4)))) qss_nil)))
      (qss_one (qs_ret (qe_var 1)))))

theorem ok_Book_init (T : Txt K mg w cs) : FnOk P w K mg base (L2.CX P w) 4 T.f_Book_init T.d_Book_init ["self", "kernel", "layers"] (spOf K (S_Book_init cs)) := by
  refine fn_okX T.F_Book_init sc_Book_init (ar_Book_init cs) fun cdv A outer s H E Z Ψ hr tk po xo => ⟨r_Book_init cs Ψ, ?_, fun ds M Φ => (red_Book_init cs) ds M Φ Ψ⟩
  exact (qss_cons (qs_if (qw_or (qt_ninB T.kd_KERNELS T.nk_KERNELS T.no_KERNELS (by rfl) T.m_KERNELS (qe_var 1)) (qw_or1 (qt_cmp op_gt od_gt (qe_len (by rfl) T.z_len (qa_cons (qe_var 2) qa_nil)) (qe_globI (by rfl) T.g_MOST_LAYERS)))).qt (qss_one (qs_raise (names := ["layer"]) (by rfl) tk xo T.o_BookError T.ii_BookError T.ti_BookError_init (okx_BookError T) (hr.mono (by first | decide | omega | exact Nat.le_refl _ | exact Nat.le_trans (by decide) (Nat.le_add_right _ _))) T.b_BookError_init (by rfl) T.m_BookError (qa_cons qe_int qa_nil))) qss_nil)
      (qss_cons (qs_fld T.cl_Book T.n_Book_kernel (qe_var 0) (qe_var 1))
      (qss_cons (qs_fld T.cl_Book T.n_Book_layers (qe_var 0) (qe_tuple (by rfl) T.z_tuple (qe_var 2)))
      (qss_cons (qs_fld T.cl_Book T.n_Book_size (qe_var 0) (qe_lenR (by rfl) T.z_len (qe_fld T.cl_Book T.n_Book_layers (qe_var 0))))
      (qss_cons (qs_fld T.cl_Book T.n_Book_numbers (qe_var 0) qe_dnew)
      (qss_cons (qs_forI (js := [3, 4]) po (by rfl) (qi_enum (by rfl) T.z_enumerate (qe_fld T.cl_Book T.n_Book_layers (qe_var 0))) (pg_tup rfl (pgs_cons (pg_name (i := 3) sc_Book_init.nd rfl (Or.inl rfl)) (pgs_cons (pg_name (i := 4) sc_Book_init.nd rfl (Or.inl rfl)) pgs_nil))) (simG_tup (is := [3, 4])) (qss_cons (qs_if (qw_or (qt_not (qt_truth (qe_call (ok_is_layer T) (hr.mono (by first | decide | omega | exact Nat.le_refl _ | exact Nat.le_trans (by decide) (Nat.le_add_right _ _))) (by rfl) T.m_is_layer T.F_is_layer.kp T.b_is_layer (qa_cons (qe_var 4) qa_nil)))) (qw_or1 (qt_din (Nat.lt_of_le_of_lt (Nat.add_le_add_left (by decide : 1 ≤ 64) _) hr.units) (qe_ix (qe_var 4) qe_int) (qe_fld T.cl_Book T.n_Book_numbers (qe_var 0))))).qt (qss_one (qs_raise (names := ["layer"]) (by rfl) tk xo T.o_BookError T.ii_BookError T.ti_BookError_init (okx_BookError T) (hr.mono (by first | decide | omega | exact Nat.le_refl _ | exact Nat.le_trans (by decide) (Nat.le_add_right _ _))) T.b_BookError_init (by rfl) T.m_BookError (qa_cons (qe_addT (qe_var 3) qe_int) qa_nil))) qss_nil)
    (qss_one (qs_dput (Nat.lt_of_le_of_lt (Nat.add_le_add_left (by decide : 1 ≤ 64) _) hr.units) (qe_addT (qe_var 3) qe_int) (qe_fld T.cl_Book T.n_Book_numbers (qe_var 0)) (qe_ix (qe_var 4) qe_int)))))
      (qss_one (qs_if (qt_cmp op_gt od_gt (qe_call (ok_states_of T) (hr.mono (by first | decide | omega | exact Nat.le_refl _ | exact Nat.le_trans (by decide) (Nat.le_add_right _ _))) (by rfl) T.m_states_of T.F_states_of.kp T.b_states_of (qa_cons (qe_fld T.cl_Book T.n_Book_layers (qe_var 0)) qa_nil)) (qe_globI (by rfl) T.g_MOST_STATES)) (qss_one (qs_raise (names := ["layer"]) (by rfl) tk xo T.o_BookError T.ii_BookError T.ti_BookError_init (okx_BookError T) (hr.mono (by first | decide | omega | exact Nat.le_refl _ | exact Nat.le_trans (by decide) (Nat.le_add_right _ _))) T.b_BookError_init (by rfl) T.m_BookError (qa_cons qe_int qa_nil))) qss_nil))))))))

theorem ok_Book_word_at (T : Txt K mg w cs) : FnOk P w K mg base CX0 1 T.f_Book_word_at T.d_Book_word_at ["self", "layer"] (spOf K (S_Book_word_at cs)) := by
  refine fn_ok T.F_Book_word_at sc_Book_word_at (ar_Book_word_at cs) fun cdv A outer s H E Z hr => ⟨r_Book_word_at cs, ?_, (red_Book_word_at cs)⟩
  exact (qss_one (qs_ret (qe_ix (qe_ixR (qe_fld T.cl_Book T.n_Book_layers (qe_var 0)) (qe_sub (qe_var 1) qe_int)) qe_int)))

theorem ok_Book_count_at (T : Txt K mg w cs) : FnOk P w K mg base CX0 1 T.f_Book_count_at T.d_Book_count_at ["self", "layer"] (spOf K (S_Book_count_at cs)) := by
  refine fn_ok T.F_Book_count_at sc_Book_count_at (ar_Book_count_at cs) fun cdv A outer s H E Z hr => ⟨r_Book_count_at cs, ?_, (red_Book_count_at cs)⟩
  exact (qss_cons (qs_unp (is := [2, 3, 4]) rfl (qe_ixR (qe_fld T.cl_Book T.n_Book_layers (qe_var 0)) (qe_sub (qe_var 1) qe_int)) (pgs_cons (pg_name (i := 2) sc_Book_count_at.nd rfl (Or.inl rfl)) (pgs_cons (pg_name (i := 3) sc_Book_count_at.nd rfl (Or.inl rfl)) (pgs_cons (pg_name (i := 4) sc_Book_count_at.nd rfl (Or.inl rfl)) pgs_nil))))
      (qss_cons (qs_if (qt_cmp op_inA od_inA (qe_var 2) (qe_tup (qa_cons qe_str (qa_cons qe_str qa_nil)))) (qss_one (qs_ret (qe_len (by rfl) T.z_len (qa_cons (qe_var 4) qa_nil)))) qss_nil)
      (qss_one (qs_ret (qe_var 4)))))

theorem ok_Book_ways_at (T : Txt K mg w cs) : FnOk P w K mg base CX0 1 T.f_Book_ways_at T.d_Book_ways_at ["self", "layer", "deed"] (spOf K (S_Book_ways_at cs)) := by
  refine fn_ok T.F_Book_ways_at sc_Book_ways_at (ar_Book_ways_at cs) fun cdv A outer s H E Z hr => ⟨r_Book_ways_at cs, ?_, (red_Book_ways_at cs)⟩
  exact (qss_one (qs_ret (qe_ix (qe_ix (qe_ixR (qe_fld T.cl_Book T.n_Book_layers (qe_var 0)) (qe_sub (qe_var 1) qe_int)) qe_int) (qe_var 2))))

theorem ok_Book_product (T : Txt K mg w cs) : FnOk P w K mg base CX0 1 T.f_Book_product T.d_Book_product ["self", "layer", "first", "second"] (spOf K (S_Book_product cs)) := by
  refine fn_ok T.F_Book_product sc_Book_product (ar_Book_product cs) fun cdv A outer s H E Z hr => ⟨r_Book_product cs, ?_, (red_Book_product cs)⟩
  exact (qss_one (qs_ret (qe_ix (qe_ix (qe_ix (qe_ixR (qe_fld T.cl_Book T.n_Book_layers (qe_var 0)) (qe_sub (qe_var 1) qe_int)) qe_int) (qe_var 2)) (qe_var 3))))

theorem ok_Book_number_of (T : Txt K mg w cs) : FnOk P w K mg base CX0 1 T.f_Book_number_of T.d_Book_number_of ["self", "name"] (spOf K (S_Book_number_of cs)) := by
  refine fn_ok T.F_Book_number_of sc_Book_number_of (ar_Book_number_of cs) fun cdv A outer s H E Z hr => ⟨r_Book_number_of cs, ?_, (red_Book_number_of cs)⟩
  exact (qss_one (qs_ret (qe_get2 (Nat.lt_of_le_of_lt (Nat.add_le_add_left (by decide : 1 ≤ 64) _) hr.units) (qe_fld T.cl_Book T.n_Book_numbers (qe_var 0)) (qe_var 1) qe_int)))

theorem ok_like_books (T : Txt K mg w cs) : FnOk P w K mg base CX0 1 T.f_like_books T.d_like_books ["one", "other"] (spOf K (S_like_books cs)) := by
  refine fn_ok T.F_like_books sc_like_books (ar_like_books cs) fun cdv A outer s H E Z hr => ⟨r_like_books cs, ?_, (red_like_books cs)⟩
  exact (qss_one (qs_ret (qe_and (qe_cmp (op_eqA hr.units) od_eqA (qe_fld T.cl_Book T.n_Book_kernel (qe_var 0)) (qe_fld T.cl_Book T.n_Book_kernel (qe_var 1))) (qe_one (qe_cmp (op_eqA hr.units) od_eqA (qe_fld T.cl_Book T.n_Book_layers (qe_var 0)) (qe_fld T.cl_Book T.n_Book_layers (qe_var 1)))))))

theorem ok_is_extent (T : Txt K mg w cs) : FnOk P w K mg base CX0 4 T.f_is_extent T.d_is_extent ["word", "token"] (spOf K (S_is_extent cs)) := by
  refine fn_ok T.F_is_extent sc_is_extent (ar_is_extent cs) fun cdv A outer s H E Z hr => ⟨r_is_extent cs, ?_, (red_is_extent cs)⟩
  exact (qss_cons (qs_if (qt_cmp (op_eqA hr.units) od_eqA (qe_var 0) qe_str) (qss_one (qs_ret (qe_call (ok_is_digits T) (hr.mono (by first | decide | omega | exact Nat.le_refl _ | exact Nat.le_trans (by decide) (Nat.le_add_right _ _))) (by rfl) T.m_is_digits T.F_is_digits.kp T.b_is_digits (qa_cons (qe_var 1) qa_nil)))) qss_nil)
      (qss_one (qs_ret (qe_cmp op_ge od_ge (qe_call (ok_number_in T) (hr.mono (by first | decide | omega | exact Nat.le_refl _ | exact Nat.le_trans (by decide) (Nat.le_add_right _ _))) (by rfl) T.m_number_in T.F_number_in.kp T.b_number_in (qa_cons (qe_var 1) qa_nil)) qe_int))))

theorem ok_kernel_fault (T : Txt K mg w cs) : FnOk P w K mg base CX0 1 T.f_kernel_fault T.d_kernel_fault ["tokens"] (spOf K (S_kernel_fault cs)) := by
  refine fn_ok T.F_kernel_fault sc_kernel_fault (ar_kernel_fault cs) fun cdv A outer s H E Z hr => ⟨r_kernel_fault cs, ?_, (red_kernel_fault cs)⟩
  exact (qss_cons (qs_if (qw_or (qt_not (qt_truthR (qe_var 0))) (qw_or1 (qt_cmp (op_neA hr.units) od_neA (qe_ixM (qe_var 0) qe_int) qe_str))).qt (qss_one (qs_ret qe_int)) qss_nil)
      (qss_cons (qs_if (qw_or (qt_cmp op_lt od_lt (qe_lenM (by rfl) T.z_len (qe_var 0)) qe_int) (qw_or1 (qt_ninB T.kd_KERNELS T.nk_KERNELS T.no_KERNELS (by rfl) T.m_KERNELS (qe_ixM (qe_var 0) qe_int)))).qt (qss_one (qs_ret qe_int)) qss_nil)
      (qss_one (qs_ret (qe_if (qt_cmp op_gt od_gt (qe_lenM (by rfl) T.z_len (qe_var 0)) qe_int) qe_int qe_int)))))

theorem ok_layer_fault (T : Txt K mg w cs) : FnOk P w K mg base CX0 5 T.f_layer_fault T.d_layer_fault ["tokens"] (spOf K (S_layer_fault cs)) := by
  refine fn_ok T.F_layer_fault sc_layer_fault (ar_layer_fault cs) fun cdv A outer s H E Z hr => ⟨r_layer_fault cs, ?_, (red_layer_fault cs)⟩
  exact (qss_cons (qs_if (qw_or (qt_not (qt_truthR (qe_var 0))) (qw_or1 (qt_cmp op_ninA od_inA (qe_ixM (qe_var 0) qe_int) (qe_glob (v := .ref T.k_LAYER_WORDS) (u := .ref T.k_LAYER_WORDS) (by rfl) T.m_LAYER_WORDS rfl T.tp_LAYER_WORDS)))).qt (qss_one (qs_ret qe_int)) qss_nil)
      (qss_cons (qs_if (qw_or (qt_cmp op_lt od_lt (qe_lenM (by rfl) T.z_len (qe_var 0)) qe_int) (qw_or1 (qt_not (qt_truth (qe_call (ok_is_name T) (hr.mono (by first | decide | omega | exact Nat.le_refl _ | exact Nat.le_trans (by decide) (Nat.le_add_right _ _))) (by rfl) T.m_is_name T.F_is_name.kp T.b_is_name (qa_cons (qe_ixM (qe_var 0) qe_int) qa_nil)))))).qt (qss_one (qs_ret qe_int)) qss_nil)
      (qss_cons (qs_forR2 (j := 1) (js := [1]) PassesOwn.never (by rfl) sc_layer_fault.nd (by rfl) T.z_range qe_int (qe_lenM (by rfl) T.z_len (qe_var 0)) (qss_one (qs_if (qt_not (qt_truth (qe_call (ok_is_extent T) (hr.mono (by first | decide | omega | exact Nat.le_refl _ | exact Nat.le_trans (by decide) (Nat.le_add_right _ _))) (by rfl) T.m_is_extent T.F_is_extent.kp T.b_is_extent (qa_cons (qe_ixM (qe_var 0) qe_int) (qa_cons (qe_ixM (qe_var 0) (qe_var 1)) qa_nil))))) (qss_one (qs_ret (qe_addT (qe_var 1) qe_int))) qss_nil)))
      (qss_cons (qs_if (qt_cmp op_lt od_lt (qe_lenM (by rfl) T.z_len (qe_var 0)) qe_int) (qss_one (qs_ret qe_int)) qss_nil)
      (qss_cons (qs_if (qw_and (qt_cmp op_inA od_inA (qe_ixM (qe_var 0) qe_int) (qe_tup (qa_cons qe_str (qa_cons qe_str (qa_cons qe_str qa_nil))))) (qw_and1 (qt_cmp op_gt od_gt (qe_lenM (by rfl) T.z_len (qe_var 0)) qe_int))).qt (qss_one (qs_ret qe_int)) qss_nil)
      (qss_one (qs_ret qe_int)))))))

theorem ok_layer_of (T : Txt K mg w cs) : FnOk P w K mg base CX0 1 T.f_layer_of T.d_layer_of ["tokens"] (spOf K (S_layer_of cs)) := by
  refine fn_ok T.F_layer_of sc_layer_of (ar_layer_of cs) fun cdv A outer s H E Z hr => ⟨r_layer_of cs, ?_, (red_layer_of cs)⟩
  exact (qss_cons (qs_unpS (is := [1, 2]) (j := 3) rfl (qe_var 0) (pgs_cons (pg_name (i := 1) sc_layer_of.nd rfl (Or.inl rfl)) (pgs_cons (pg_name (i := 2) sc_layer_of.nd rfl (Or.inl rfl)) (pgs_star (pg_name (i := 3) sc_layer_of.nd rfl (Or.inl rfl))))))
      (qss_cons (qs_if (qt_cmp (op_eqA hr.units) od_eqA (qe_var 1) qe_str) (qss_one (qs_ret (qe_tup (qa_cons (qe_var 1) (qa_cons (qe_var 2) (qa_cons (qe_tuple (by rfl) T.z_tuple (qe_fz (ql_lc (own := [("row", 4)]) (vs := [4]) (by rfl) sc_layer_of.nd (qi_seq (qe_var 3)) (blkOk_by (N := ["tokens", "word", "name", "extents", "row"]) (sc := defScope s_layer_of) (own := [("row", 4)]) (by decide +kernel)) (simGw_name (j := 4) (by decide)) (fun _ _ _ _ _ => (pg_name (i := 4) sc_layer_of.nd rfl (Or.inl rfl))) (fun _ _ _ _ _ => pts_yes) (fun _ _ _ _ _ Z => (qe_tupMapI (by rfl) (qe_var 4) (by rfl) T.z_tuple (by rfl) T.z_map (by rfl) T.z_int))))) qa_nil)))))) qss_nil)
      (qss_cons (qs_if (qt_cmp (op_eqA hr.units) od_eqA (qe_var 1) qe_str) (qss_one (qs_ret (qe_tup (qa_cons (qe_var 1) (qa_cons (qe_var 2) (qa_cons (qe_tupMapI (by rfl) (qe_var 3) (by rfl) T.z_tuple (by rfl) T.z_map (by rfl) T.z_int) qa_nil)))))) qss_nil)
      (qss_one (qs_ret (qe_tup (qa_cons (qe_var 1) (qa_cons (qe_var 2) (qa_cons (qe_intA (by rfl) T.z_int (qa_cons (qe_ix (qe_var 3) qe_int) qa_nil)) qa_nil)))))))))

theorem ok_read_book (T : Txt K mg w cs) : FnOk P w K mg base (L2.CX P w) 6 T.f_read_book T.d_read_book ["text"] (spOf K (S_read_book cs)) := by
  refine fn_okX T.F_read_book sc_read_book (ar_read_book cs) fun cdv A outer s H E Z Ψ hr tk po xo => ⟨r_read_book cs Ψ, ?_, fun ds M Φ => (red_read_book cs) ds M Φ Ψ⟩
  exact (qss_cons (qs_setO (i := 1) sc_read_book.nd (ql_lst qa_nil))
      (qss_cons (qs_forI (js := [2, 3, 5]) po (by rfl) (qi_enum (by rfl) T.z_enumerate (qe_fz (ql_split (qe_var 0) qe_str))) (pg_tup rfl (pgs_cons (pg_name (i := 2) sc_read_book.nd rfl (Or.inl rfl)) (pgs_cons (pg_name (i := 3) sc_read_book.nd rfl (Or.inl rfl)) pgs_nil))) (simG_tup (is := [2, 3])) (qss_cons (qs_set (i := 4) sc_read_book.nd (qe_callX (ok_tokens_of T) (hr.mono (by first | decide | omega | exact Nat.le_refl _ | exact Nat.le_trans (by decide) (Nat.le_add_right _ _))) tk xo (by rfl) T.m_tokens_of T.F_tokens_of.kp T.b_tokens_of (qa_cons (qe_var 3) (qa_cons (qe_addT (qe_var 2) qe_int) qa_nil))))
    (qss_cons (qs_set (i := 5) sc_read_book.nd (qe_if (qt_truth (qe_var 2)) (qe_call (ok_layer_fault T) (hr.mono (by first | decide | omega | exact Nat.le_refl _ | exact Nat.le_trans (by decide) (Nat.le_add_right _ _))) (by rfl) T.m_layer_fault T.F_layer_fault.kp T.b_layer_fault (qa_cons (qe_var 4) qa_nil)) (qe_call (ok_kernel_fault T) (hr.mono (by first | decide | omega | exact Nat.le_refl _ | exact Nat.le_trans (by decide) (Nat.le_add_right _ _))) (by rfl) T.m_kernel_fault T.F_kernel_fault.kp T.b_kernel_fault (qa_cons (qe_var 4) qa_nil))))
    (qss_cons (qs_if (qt_truth (qe_var 5)) (qss_one (qs_raise (names := ["line", "token"]) (by rfl) tk xo T.o_TextError T.ii_TextError T.ti_TextError_init (okx_TextError T) (hr.mono (by first | decide | omega | exact Nat.le_refl _ | exact Nat.le_trans (by decide) (Nat.le_add_right _ _))) T.b_TextError_init (by rfl) T.m_TextError (qa_cons (qe_addT (qe_var 2) qe_int) (qa_cons (qe_var 5) qa_nil)))) qss_nil)
    (qss_one (qs_app (j := 1) (qe_var 4)))))))
      (qss_one (qs_ret (qe_makeX tk xo T.mk_Book (ok_Book_init T) (hr.mono (by first | decide | omega | exact Nat.le_refl _ | exact Nat.le_trans (by decide) (Nat.le_add_right _ _))) (by rfl) T.m_Book T.b_Book_init (qa_cons (qe_ixR (qe_ixO 1 qe_int) qe_int) (qa_cons (qe_fz (ql_lc (own := [("tokens", 4)]) (vs := [4]) (by rfl) sc_read_book.nd (qi_seq (qe_slA (qe_var 1) (qo_some qe_int) qo_none)) (blkOk_by (N := ["text", "rows", "at", "line", "tokens", "fault"]) (sc := defScope s_read_book) (own := [("tokens", 4)]) (by decide +kernel)) (simGw_name (j := 4) (by decide)) (fun _ _ _ _ _ => (pg_name (i := 4) sc_read_book.nd rfl (Or.inl rfl))) (fun _ _ _ _ _ => pts_yes) (fun _ _ _ _ _ Z => (qe_call (ok_layer_of T) (hr.mono (by first | decide | omega | exact Nat.le_refl _ | exact Nat.le_trans (by decide) (Nat.le_add_right _ _))) (by rfl) T.m_layer_of T.F_layer_of.kp T.b_layer_of (qa_cons (qe_var 4) qa_nil))))) qa_nil)))))))

theorem ok_extent_text (T : Txt K mg w cs) : FnOk P w K mg base CX0 1 T.f_extent_text T.d_extent_text ["word", "extent"] (spOf K (S_extent_text cs)) := by
  refine fn_ok T.F_extent_text sc_extent_text (ar_extent_text cs) fun cdv A outer s H E Z hr => ⟨r_extent_text cs, ?_, (red_extent_text cs)⟩
  exact (qss_cons (qs_if (qt_cmp (op_eqA hr.units) od_eqA (qe_var 0) qe_str) (qss_one (qs_ret (qe_joinL qe_str (qe_fz (ql_lc (own := [("row", 2)]) (vs := [2]) (by rfl) sc_extent_text.nd (qi_seq (qe_var 1)) (blkOk_by (N := ["word", "extent", "row"]) (sc := defScope s_extent_text) (own := [("row", 2)]) (by decide +kernel)) (simGw_name (j := 2) (by decide)) (fun _ _ _ _ _ => (pg_name (i := 2) sc_extent_text.nd rfl (Or.inl rfl))) (fun _ _ _ _ _ => pts_yes) (fun _ _ _ _ _ Z => (qe_joinMapI (by rfl) qe_str (qe_var 2) (by rfl) T.z_map (by rfl) T.z_str))))))) qss_nil)
      (qss_cons (qs_if (qt_cmp (op_eqA hr.units) od_eqA (qe_var 0) qe_str) (qss_one (qs_ret (qe_joinMapI (by rfl) qe_str (qe_var 1) (by rfl) T.z_map (by rfl) T.z_str))) qss_nil)
      (qss_one (qs_ret (qe_strA (by rfl) T.z_str (qa_cons (qe_var 1) qa_nil))))))

theorem ok_write_book (T : Txt K mg w cs) : FnOk P w K mg base CX0 2 T.f_write_book T.d_write_book ["book"] (spOf K (S_write_book cs)) := by
  refine fn_ok T.F_write_book sc_write_book (ar_write_book cs) fun cdv A outer s H E Z hr => ⟨r_write_book cs, ?_, (red_write_book cs)⟩
  exact (qss_cons (qs_setO (i := 1) sc_write_book.nd (ql_lst (qa_cons (qe_join (qj_cons qe_str (qj_cons (qe_fmt (qe_fld T.cl_Book T.n_Book_kernel (qe_var 0))) qj_nil))) qa_nil)))
      (qss_cons (qs_forU (is := [2, 3, 4]) (js := [2, 3, 4]) PassesOwn.never (by rfl) (qe_fld T.cl_Book T.n_Book_layers (qe_var 0)) (pgs_cons (pg_name (i := 2) sc_write_book.nd rfl (Or.inl rfl)) (pgs_cons (pg_name (i := 3) sc_write_book.nd rfl (Or.inl rfl)) (pgs_cons (pg_name (i := 4) sc_write_book.nd rfl (Or.inl rfl)) pgs_nil))) (qss_one (qs_app (j := 1) (qe_join (qj_cons (qe_fmt (qe_var 2)) (qj_cons qe_str (qj_cons (qe_fmt (qe_var 3)) (qj_cons qe_str (qj_cons (qe_fmt (qe_call (ok_extent_text T) (hr.mono (by first | decide | omega | exact Nat.le_refl _ | exact Nat.le_trans (by decide) (Nat.le_add_right _ _))) (by rfl) T.m_extent_text T.F_extent_text.kp T.b_extent_text (qa_cons (qe_var 2) (qa_cons (qe_var 4) qa_nil)))) qj_nil)))))))))
      (qss_one (qs_ret (qe_joinL qe_str (qe_var 1))))))

theorem ok_law_row (T : Txt K mg w cs) : FnOk P w K mg base CX0 1 T.f_law_row T.d_law_row ["_law_script", "_law_k", "_law_count"] (spOf K S_law_row) := by
  refine fn_ok T.F_law_row sc_law_row (ar_law_row) fun cdv A outer s H E Z hr => ⟨r_law_row, ?_, (red_law_row)⟩
  exact (qss_cons (qs_set (i := 3) sc_law_row.nd qe_int)
      (qss_cons (qs_if (qt_cmp op_lt od_lt (qe_var 1) (qe_len (by rfl) T.z_len (qa_cons (qe_var 0) qa_nil))) (qss_one (qs_set (i := 3) sc_law_row.nd (qe_int1 (by rfl) T.z_int (qa_cons (qe_ix (qe_var 0) (qe_var 1)) qa_nil)))) qss_nil)
      (qss_cons (qs_setO (i := 4) sc_law_row.nd (ql_lst qa_nil))
      (qss_cons (qs_if (qt_cmp op_ge od_ge (qe_var 3) (qe_pow qe_int qe_int)) (qss_cons (qs_forR (j := 5) (js := [5]) PassesOwn.never (by rfl) sc_law_row.nd (by rfl) T.z_range (qe_var 2) (qss_cons (qs_app (j := 4) (qe_mod (qe_int1 (by rfl) T.z_int (qa_cons (qe_var 3) qa_nil)) qe_int))
    (qss_one (qs_set (i := 3) sc_law_row.nd (qe_fdivA (qe_var 3) qe_int)))))
    (qss_one (qs_ret (qe_var 4)))) qss_nil)
      (qss_cons (qs_set (i := 6) sc_law_row.nd (qe_mod (qe_int1 (by rfl) T.z_int (qa_cons (qe_addT (qe_addT (qe_mulA (qe_var 3) qe_int) (qe_mulA (qe_var 1) qe_int)) qe_int) qa_nil)) qe_int))
      (qss_cons (qs_forR (j := 5) (js := [5]) PassesOwn.never (by rfl) sc_law_row.nd (by rfl) T.z_range (qe_var 2) (qss_cons (qs_set (i := 6) sc_law_row.nd (qe_mod (qe_int1 (by rfl) T.z_int (qa_cons (qe_addT (qe_addT (qe_mulA (qe_var 6) qe_int) (qe_mulA (qe_var 5) qe_int)) qe_int) qa_nil)) qe_int))
    (qss_one (qs_app (j := 4) (qe_mod (qe_fdivA (qe_var 6) qe_int) qe_int)))))
      (qss_one (qs_ret (qe_var 4)))))))))

theorem ok_law_is_integer (T : Txt K mg w cs) : FnOk P w K mg base CX0 1 T.f_law_is_integer T.d_law_is_integer ["_law_actual"] (spOf K (S_law_is_integer cs)) := by
  refine fn_ok T.F_law_is_integer sc_law_is_integer (ar_law_is_integer cs) fun cdv A outer s H E Z hr => ⟨r_law_is_integer cs, ?_, (red_law_is_integer cs)⟩
  exact (qss_one (qs_ret (qe_and (qe_isi (qe_var 0) (by rfl) T.z_isinstance (by rfl) T.z_int (by decide +kernel)) (qe_one (qe_not (qe_isi (qe_var 0) (by rfl) T.z_isinstance (by rfl) T.z_bool (by decide +kernel)))))))

theorem ok_law_name (T : Txt K mg w cs) : FnOk P w K mg base CX0 1 T.f_law_name T.d_law_name ["_law_a", "_law_b", "_law_c"] (spOf K (S_law_name cs)) := by
  refine fn_ok T.F_law_name sc_law_name (ar_law_name cs) fun cdv A outer s H E Z hr => ⟨r_law_name cs, ?_, (red_law_name cs)⟩
  exact (qss_cons (qs_set (i := 3) sc_law_name.nd qe_str)
      (qss_cons (qs_if (qt_cmp (op_eqA hr.units) od_eqA (qe_mod (qe_int1 (by rfl) T.z_int (qa_cons (qe_var 2) qa_nil)) qe_int) qe_int) (qss_one (qs_ret (qe_ix (qe_var 3) (qe_mod (qe_int1 (by rfl) T.z_int (qa_cons (qe_var 0) qa_nil)) qe_int)))) qss_nil)
      (qss_one (qs_ret (qe_addT (qe_ix (qe_var 3) (qe_mod (qe_int1 (by rfl) T.z_int (qa_cons (qe_var 0) qa_nil)) qe_int)) (qe_mulS (qe_ix (qe_var 3) (qe_mod (qe_int1 (by rfl) T.z_int (qa_cons (qe_var 1) qa_nil)) qe_int)) (qe_addT qe_int (qe_mod (qe_int1 (by rfl) T.z_int (qa_cons (qe_var 2) qa_nil)) qe_int))))))))

theorem ok_law_table (T : Txt K mg w cs) : FnOk P w K mg base CX0 1 T.f_law_table T.d_law_table ["_law_a", "_law_b"] (spOf K (S_law_table cs)) := by
  refine fn_ok T.F_law_table sc_law_table (ar_law_table cs) fun cdv A outer s H E Z hr => ⟨r_law_table cs, ?_, (red_law_table cs)⟩
  exact (qss_cons (qs_setO (i := 2) sc_law_table.nd (ql_lst (qa_cons (qe_tup (qa_cons (qe_tup (qa_cons qe_int (qa_cons qe_int qa_nil))) (qa_cons (qe_tup (qa_cons qe_int (qa_cons qe_int qa_nil))) qa_nil))) (qa_cons (qe_tup (qa_cons (qe_tup (qa_cons qe_int (qa_cons qe_int qa_nil))) (qa_cons (qe_tup (qa_cons qe_int (qa_cons qe_int qa_nil))) qa_nil))) (qa_cons (qe_tup (qa_cons (qe_tup (qa_cons qe_int (qa_cons qe_int (qa_cons qe_int qa_nil)))) (qa_cons (qe_tup (qa_cons qe_int (qa_cons qe_int (qa_cons qe_int qa_nil)))) (qa_cons (qe_tup (qa_cons qe_int (qa_cons qe_int (qa_cons qe_int qa_nil)))) qa_nil)))) (qa_cons (qe_tup (qa_cons (qe_tup (qa_cons qe_int (qa_cons qe_int (qa_cons qe_int qa_nil)))) (qa_cons (qe_tup (qa_cons qe_int (qa_cons qe_int (qa_cons qe_int qa_nil)))) (qa_cons (qe_tup (qa_cons qe_int (qa_cons qe_int (qa_cons qe_int qa_nil)))) qa_nil)))) qa_nil))))))
      (qss_cons (qs_app (j := 2) (qe_tup (qa_cons (qe_tup (qa_cons qe_int (qa_cons qe_int (qa_cons qe_int (qa_cons qe_int qa_nil))))) (qa_cons (qe_tup (qa_cons qe_int (qa_cons qe_int (qa_cons qe_int (qa_cons qe_int qa_nil))))) (qa_cons (qe_tup (qa_cons qe_int (qa_cons qe_int (qa_cons qe_int (qa_cons qe_int qa_nil))))) (qa_cons (qe_tup (qa_cons qe_int (qa_cons qe_int (qa_cons qe_int (qa_cons qe_int qa_nil))))) qa_nil))))))
      (qss_cons (qs_app (j := 2) (qe_tup (qa_cons (qe_tup (qa_cons qe_int (qa_cons qe_int (qa_cons qe_int qa_nil)))) (qa_cons (qe_tup (qa_cons qe_int (qa_cons qe_int (qa_cons qe_int qa_nil)))) (qa_cons (qe_tup (qa_cons qe_int (qa_cons qe_int (qa_cons qe_int qa_nil)))) qa_nil)))))
      (qss_cons (qs_if (qt_cmp op_lt od_lt (qe_mod (qe_int1 (by rfl) T.z_int (qa_cons (qe_var 0) qa_nil)) qe_int) qe_int) (qss_one (qs_ret (qe_ixO 2 (qe_mod (qe_int1 (by rfl) T.z_int (qa_cons (qe_var 0) qa_nil)) qe_int)))) qss_nil)
      (qss_cons (qs_if (qt_cmp (op_eqA hr.units) od_eqA (qe_mod (qe_int1 (by rfl) T.z_int (qa_cons (qe_var 0) qa_nil)) qe_int) qe_int) (qss_one (qs_ret (qe_tup (qa_cons (qe_tup (qa_cons qe_int (qa_cons qe_int (qa_cons qe_int qa_nil)))) (qa_cons (qe_tup (qa_cons qe_int (qa_cons (qe_mod (qe_int1 (by rfl) T.z_int (qa_cons (qe_var 1) qa_nil)) qe_int) (qa_cons (qe_mod (qe_fdivA (qe_int1 (by rfl) T.z_int (qa_cons (qe_var 1) qa_nil)) qe_int) qe_int) qa_nil)))) (qa_cons (qe_tup (qa_cons qe_int (qa_cons (qe_mod (qe_fdivA (qe_int1 (by rfl) T.z_int (qa_cons (qe_var 1) qa_nil)) qe_int) qe_int) (qa_cons (qe_mod (qe_fdivA (qe_int1 (by rfl) T.z_int (qa_cons (qe_var 1) qa_nil)) qe_int) qe_int) qa_nil)))) qa_nil)))))) qss_nil)
      (qss_one (qs_ret (qe_tup (qa_cons (qe_tup (qa_cons qe_int (qa_cons qe_int qa_nil))) (qa_cons (qe_tup (qa_cons (qe_mod (qe_int1 (by rfl) T.z_int (qa_cons (qe_var 1) qa_nil)) qe_int) (qa_cons qe_int qa_nil))) qa_nil))))))))))

theorem ok_law_layer (T : Txt K mg w cs) : FnOk P w K mg base CX0 2 T.f_law_layer T.d_law_layer ["_law_row_here", "_law_before"] (spOf K (S_law_layer cs)) := by
  refine fn_ok T.F_law_layer sc_law_layer (ar_law_layer cs) fun cdv A outer s H E Z hr => ⟨r_law_layer cs, ?_, (red_law_layer cs)⟩
  exact (qss_cons (qs_set (i := 2) sc_law_layer.nd (qe_ix (qe_lst (qa_cons qe_str (qa_cons qe_str (qa_cons qe_str (qa_cons qe_str (qa_cons qe_str qa_nil)))))) (qe_mod (qe_ix (qe_var 0) qe_int) qe_int)))
      (qss_cons (qs_set (i := 3) sc_law_layer.nd (qe_call (ok_law_name T) (hr.mono (by first | decide | omega | exact Nat.le_refl _ | exact Nat.le_trans (by decide) (Nat.le_add_right _ _))) (by rfl) T.m_law_name T.F_law_name.kp T.b_law_name (qa_cons (qe_ix (qe_var 0) qe_int) (qa_cons (qe_ix (qe_var 0) qe_int) (qa_cons (qe_ix (qe_var 0) qe_int) qa_nil)))))
      (qss_cons (qs_if (qw_and (qt_cmp (op_eqA hr.units) od_eqA (qe_mod (qe_ix (qe_var 0) qe_int) qe_int) qe_int) (qw_and1 (qt_cmp (op_neA hr.units) od_neA (qe_var 1) qe_str))).qt (qss_one (qs_set (i := 3) sc_law_layer.nd (qe_var 1))) qss_nil)
      (qss_cons (qs_if (qt_cmp (op_eqA hr.units) od_eqA (qe_var 2) qe_str) (qss_one (qs_ret (qe_tup (qa_cons (qe_var 2) (qa_cons (qe_var 3) (qa_cons (qe_call (ok_law_table T) (hr.mono (by first | decide | omega | exact Nat.le_refl _ | exact Nat.le_trans (by decide) (Nat.le_add_right _ _))) (by rfl) T.m_law_table T.F_law_table.kp T.b_law_table (qa_cons (qe_ix (qe_var 0) qe_int) (qa_cons (qe_ix (qe_var 0) qe_int) qa_nil))) qa_nil)))))) qss_nil)
      (qss_cons (qs_set (i := 4) sc_law_layer.nd (qe_cmp (op_eqA hr.units) od_eqA (qe_mod (qe_ix (qe_var 0) qe_int) qe_int) qe_int))
      (qss_cons (qs_if (qt_cmp (op_eqA hr.units) od_eqA (qe_var 2) qe_str) (qss_cons (qs_setO (i := 5) sc_law_layer.nd (ql_lst (qa_cons (qe_addT qe_int (qe_mod (qe_ix (qe_var 0) qe_int) qe_int)) qa_nil)))
    (qss_cons (qs_if (qt_cmp (op_eqA hr.units) od_eqA (qe_mod (qe_ix (qe_var 0) qe_int) qe_int) qe_int) (qss_one (qs_app (j := 5) (qe_addT qe_int (qe_mod (qe_fdivA (qe_ix (qe_var 0) qe_int) qe_int) qe_int)))) qss_nil)
    (qss_cons (qs_if (qt_truth (qe_var 4)) (qss_one (qs_app (j := 5) (qe_mod (qe_fdivA (qe_ix (qe_var 0) qe_int) qe_int) qe_int))) qss_nil)
    (qss_one (qs_ret (qe_tup (qa_cons (qe_var 2) (qa_cons (qe_var 3) (qa_cons (qe_tuple (by rfl) T.z_tuple (qe_var 5)) qa_nil))))))))) qss_nil)
      (qss_cons (qs_if (qt_truth (qe_var 4)) (qss_one (qs_ret (qe_tup (qa_cons (qe_var 2) (qa_cons (qe_var 3) (qa_cons (qe_ix (qe_lst (qa_cons qe_int (qa_cons qe_int (qa_cons qe_int (qa_cons qe_int qa_nil))))) (qe_mod (qe_ix (qe_var 0) qe_int) qe_int)) qa_nil)))))) qss_nil)
      (qss_cons (qs_if (qt_cmp (op_eqA hr.units) od_eqA (qe_var 2) qe_str) (qss_one (qs_ret (qe_tup (qa_cons (qe_var 2) (qa_cons (qe_var 3) (qa_cons (qe_addT qe_int (qe_mod (qe_ix (qe_var 0) qe_int) qe_int)) qa_nil)))))) qss_nil)
      (qss_one (qs_ret (qe_tup (qa_cons (qe_var 2) (qa_cons (qe_var 3) (qa_cons (qe_addT qe_int (qe_mod (qe_ix (qe_var 0) qe_int) qe_int)) qa_nil))))))))))))))

theorem ok_law_monoid (T : Txt K mg w cs) : FnOk P w K mg base CX0 1 T.f_law_monoid T.d_law_monoid ["_law_table_here"] (spOf K (S_law_monoid cs)) := by
  refine fn_ok T.F_law_monoid sc_law_monoid (ar_law_monoid cs) fun cdv A outer s H E Z hr => ⟨r_law_monoid cs, ?_, (red_law_monoid cs)⟩
  exact (qss_cons (qs_set (i := 1) sc_law_monoid.nd (qe_len (by rfl) T.z_len (qa_cons (qe_var 0) qa_nil)))
      (qss_cons (qs_for (j := 2) (js := [2, 3]) PassesOwn.never (by rfl) sc_law_monoid.nd (qe_var 0) (qss_cons (qs_if (qt_cmp (op_neA hr.units) od_neA (qe_len (by rfl) T.z_len (qa_cons (qe_var 2) qa_nil)) (qe_var 1)) (qss_one (qs_ret qe_bl)) qss_nil)
    (qss_one (qs_for (j := 3) (js := [3]) PassesOwn.never (by rfl) sc_law_monoid.nd (qe_var 2) (qss_one (qs_if (qt_cmp op_ge od_ge (qe_var 3) (qe_var 1)) (qss_one (qs_ret qe_bl)) qss_nil))))))
      (qss_cons (qs_forR (j := 4) (js := [4, 5]) PassesOwn.never (by rfl) sc_law_monoid.nd (by rfl) T.z_range (qe_var 1) (qss_cons (qs_if (qw_or (qt_cmp (op_neA hr.units) od_neA (qe_ix (qe_ix (qe_var 0) qe_int) (qe_var 4)) (qe_var 4)) (qw_or1 (qt_cmp (op_neA hr.units) od_neA (qe_ix (qe_ix (qe_var 0) (qe_var 4)) qe_int) (qe_var 4)))).qt (qss_one (qs_ret qe_bl)) qss_nil)
    (qss_one (qs_forR (j := 5) (js := [5, 6]) PassesOwn.never (by rfl) sc_law_monoid.nd (by rfl) T.z_range (qe_var 1) (qss_one (qs_forR (j := 6) (js := [6]) PassesOwn.never (by rfl) sc_law_monoid.nd (by rfl) T.z_range (qe_var 1) (qss_one (qs_if (qt_cmp (op_neA hr.units) od_neA (qe_ix (qe_ix (qe_var 0) (qe_ix (qe_ix (qe_var 0) (qe_var 4)) (qe_var 5))) (qe_var 6)) (qe_ix (qe_ix (qe_var 0) (qe_var 4)) (qe_ix (qe_ix (qe_var 0) (qe_var 5)) (qe_var 6)))) (qss_one (qs_ret qe_bl)) qss_nil))))))))
      (qss_one (qs_ret qe_bl)))))

theorem ok_law_good (T : Txt K mg w cs) : FnOk P w K mg base CX0 2 T.f_law_good T.d_law_good ["_law_layer_here"] (spOf K (S_law_good cs)) := by
  refine fn_ok T.F_law_good sc_law_good (ar_law_good cs) fun cdv A outer s H E Z hr => ⟨r_law_good cs, ?_, (red_law_good cs)⟩
  exact (qss_cons (qs_if (qt_cmp (op_eqA hr.units) od_eqA (qe_ix (qe_var 0) qe_int) qe_str) (qss_one (qs_ret (qe_call (ok_law_monoid T) (hr.mono (by first | decide | omega | exact Nat.le_refl _ | exact Nat.le_trans (by decide) (Nat.le_add_right _ _))) (by rfl) T.m_law_monoid T.F_law_monoid.kp T.b_law_monoid (qa_cons (qe_ix (qe_var 0) qe_int) qa_nil)))) qss_nil)
      (qss_cons (qs_if (qt_cmp (op_eqA hr.units) od_eqA (qe_ix (qe_var 0) qe_int) qe_str) (qss_one (qs_ret (qe_and (qe_cmp op_le od_le (qe_len (by rfl) T.z_len (qa_cons (qe_ix (qe_var 0) qe_int) qa_nil)) qe_int) (qe_and (qe_cmp op_ge od_ge (qe_minT (by rfl) hr.units (by rfl) T.z_min (qa_cons (qe_ix (qe_var 0) qe_int) qa_nil)) qe_int) (qe_one (qe_cmp op_le od_le (qe_maxT (by rfl) hr.units (by rfl) T.z_max (qa_cons (qe_ix (qe_var 0) qe_int) qa_nil)) qe_int)))))) qss_nil)
      (qss_cons (qs_if (qt_cmp (op_eqA hr.units) od_eqA (qe_ix (qe_var 0) qe_int) qe_str) (qss_one (qs_ret (qe_and (qe_cmp op_le od_le qe_int (qe_ix (qe_var 0) qe_int)) (qe_one (qe_cmp op_le od_le (qe_ix (qe_var 0) qe_int) qe_int))))) qss_nil)
      (qss_one (qs_ret (qe_and (qe_cmp op_le od_le qe_int (qe_ix (qe_var 0) qe_int)) (qe_one (qe_cmp op_le od_le (qe_ix (qe_var 0) qe_int) qe_int))))))))

theorem ok_law_due (T : Txt K mg w cs) : FnOk P w K mg base CX0 3 T.f_law_due T.d_law_due ["_law_kernel", "_law_layers"] (spOf K (S_law_due cs)) := by
  refine fn_ok T.F_law_due sc_law_due (ar_law_due cs) fun cdv A outer s H E Z hr => ⟨r_law_due cs, ?_, (red_law_due cs)⟩
  exact (qss_cons (qs_if (qw_or (qt_cmp (op_eqA hr.units) od_eqA (qe_var 0) qe_str) (qw_or1 (qt_cmp op_gt od_gt (qe_len (by rfl) T.z_len (qa_cons (qe_var 1) qa_nil)) qe_int))).qt (qss_one (qs_ret qe_int)) qss_nil)
      (qss_cons (qs_setO (i := 2) sc_law_due.nd (ql_lst qa_nil))
      (qss_cons (qs_set (i := 3) sc_law_due.nd qe_int)
      (qss_cons (qs_forR (j := 4) (js := [4, 5]) PassesOwn.never (by rfl) sc_law_due.nd (by rfl) T.z_range (qe_len (by rfl) T.z_len (qa_cons (qe_var 1) qa_nil)) (qss_cons (qs_set (i := 5) sc_law_due.nd (qe_ix (qe_var 1) (qe_var 4)))
    (qss_cons (qs_if (qw_or (qt_not (qt_truth (qe_call (ok_law_good T) (hr.mono (by first | decide | omega | exact Nat.le_refl _ | exact Nat.le_trans (by decide) (Nat.le_add_right _ _))) (by rfl) T.m_law_good T.F_law_good.kp T.b_law_good (qa_cons (qe_var 5) qa_nil)))) (qw_or1 (qt_inO 2 (qe_ix (qe_var 5) qe_int)))).qt (qss_one (qs_ret (qe_addT (qe_var 4) qe_int))) qss_nil)
    (qss_cons (qs_app (j := 2) (qe_ix (qe_var 5) qe_int))
    (qss_one (qs_if (qw_or (qt_cmp (op_eqA hr.units) od_eqA (qe_ix (qe_var 5) qe_int) qe_str) (qw_or1 (qt_cmp (op_eqA hr.units) od_eqA (qe_ix (qe_var 5) qe_int) qe_str))).qt (qss_one (qs_set (i := 3) sc_law_due.nd (qe_mulA (qe_var 3) (qe_ix (qe_var 5) qe_int)))) qss_nil))))))
      (qss_cons (qs_if (qt_cmp op_gt od_gt (qe_var 3) qe_int) (qss_one (qs_ret qe_int)) qss_nil)
      (qss_one (qs_ret (qe_neg qe_int))))))))

theorem ok_law_lines (T : Txt K mg w cs) : FnOk P w K mg base CX0 1 T.f_law_lines T.d_law_lines ["_law_kernel", "_law_layers"] (spOf K (S_law_lines cs)) := by
  refine fn_ok T.F_law_lines sc_law_lines (ar_law_lines cs) fun cdv A outer s H E Z hr => ⟨r_law_lines cs, ?_, (red_law_lines cs)⟩
  exact (qss_cons (qs_setO (i := 2) sc_law_lines.nd (ql_lst (qa_cons (qe_lst (qa_cons qe_str (qa_cons (qe_var 0) qa_nil))) qa_nil)))
      (qss_cons (qs_for (j := 3) (js := [3, 4]) PassesOwn.never (by rfl) sc_law_lines.nd (qe_var 1) (qss_cons (qs_setO (i := 4) sc_law_lines.nd (ql_lst (qa_cons (qe_ix (qe_var 3) qe_int) (qa_cons (qe_ix (qe_var 3) qe_int) qa_nil))))
    (qss_cons (qs_if (qt_cmp (op_eqA hr.units) od_eqA (qe_ix (qe_var 3) qe_int) qe_str) (qss_one (qs_for (j := 5) (js := [5]) PassesOwn.never (by rfl) sc_law_lines.nd (qe_ix (qe_var 3) qe_int) (qss_one (qs_app (j := 4) (qe_joinL qe_str (qe_fz (ql_lc (own := [("_law_member", 6)]) (vs := [6]) (by rfl) sc_law_lines.nd (qi_seq (qe_var 5)) (blkOk_by (N := ["_law_kernel", "_law_layers", "_law_lines_here", "_law_layer_here", "_law_words", "_law_line", "_law_member", "_law_ways"]) (sc := defScope s_law_lines) (own := [("_law_member", 6)]) (by decide +kernel)) (simGw_name (j := 6) (by decide)) (fun _ _ _ _ _ => (pg_name (i := 6) sc_law_lines.nd rfl (Or.inl rfl))) (fun _ _ _ _ _ => pts_yes) (fun _ _ _ _ _ Z => (qe_strA (by rfl) T.z_str (qa_cons (qe_var 6) qa_nil)))))))))) (qss_one (qs_if (qt_cmp (op_eqA hr.units) od_eqA (qe_ix (qe_var 3) qe_int) qe_str) (qss_one (qs_for (j := 7) (js := [7]) PassesOwn.never (by rfl) sc_law_lines.nd (qe_ix (qe_var 3) qe_int) (qss_one (qs_app (j := 4) (qe_strA (by rfl) T.z_str (qa_cons (qe_var 7) qa_nil)))))) (qss_one (qs_app (j := 4) (qe_strA (by rfl) T.z_str (qa_cons (qe_ix (qe_var 3) qe_int) qa_nil)))))))
    (qss_one (qs_app (j := 2) (qe_var 4))))))
      (qss_one (qs_ret (qe_var 2)))))

theorem ok_law_book_is (T : Txt K mg w cs) : FnOk P w K mg base CX0 2 T.f_law_book_is T.d_law_book_is ["_law_book", "_law_kernel", "_law_layers"] (spOf K (S_law_book_is cs)) := by
  refine fn_ok T.F_law_book_is sc_law_book_is (ar_law_book_is cs) fun cdv A outer s H E Z hr => ⟨r_law_book_is cs, ?_, (red_law_book_is cs)⟩
  exact (qss_cons (qs_if (qw_or (qt_cmp (op_neA hr.units) od_neA (qe_fld T.cl_Book T.n_Book_kernel (qe_var 0)) (qe_var 1)) (qw_or (qt_not (qt_truth (qe_isi (qe_fld T.cl_Book T.n_Book_layers (qe_var 0)) (by rfl) T.z_isinstance (by rfl) T.z_tuple (by decide +kernel)))) (qw_or1 (qt_cmp (op_neA hr.units) od_neA (qe_fld T.cl_Book T.n_Book_layers (qe_var 0)) (qe_tuple (by rfl) T.z_tuple (qe_var 2)))))).qt (qss_one (qs_ret qe_bl)) qss_nil)
      (qss_cons (qs_if (qw_or (qt_not (qt_truth (qe_call (ok_law_is_integer T) (hr.mono (by first | decide | omega | exact Nat.le_refl _ | exact Nat.le_trans (by decide) (Nat.le_add_right _ _))) (by rfl) T.m_law_is_integer T.F_law_is_integer.kp T.b_law_is_integer (qa_cons (qe_fld T.cl_Book T.n_Book_size (qe_var 0)) qa_nil)))) (qw_or (qt_cmp (op_neA hr.units) od_neA (qe_fld T.cl_Book T.n_Book_size (qe_var 0)) (qe_len (by rfl) T.z_len (qa_cons (qe_var 2) qa_nil))) (qw_or1 (qt_cmp (op_neA hr.units) od_neA (qe_meth T.cl_Book T.mm_Book_number_of (ok_Book_number_of T) (hr.mono (by first | decide | omega | exact Nat.le_refl _ | exact Nat.le_trans (by decide) (Nat.le_add_right _ _))) T.b_Book_number_of (qe_var 0) (qa_cons qe_str qa_nil)) qe_int)))).qt (qss_one (qs_ret qe_bl)) qss_nil)
      (qss_cons (qs_forR (j := 3) (js := [3, 4, 5, 6]) PassesOwn.never (by rfl) sc_law_book_is.nd (by rfl) T.z_range (qe_len (by rfl) T.z_len (qa_cons (qe_var 2) qa_nil)) (qss_cons (qs_set (i := 4) sc_law_book_is.nd (qe_ix (qe_var 2) (qe_var 3)))
    (qss_cons (qs_if (qw_or (qt_cmp (op_neA hr.units) od_neA (qe_meth T.cl_Book T.mm_Book_number_of (ok_Book_number_of T) (hr.mono (by first | decide | omega | exact Nat.le_refl _ | exact Nat.le_trans (by decide) (Nat.le_add_right _ _))) T.b_Book_number_of (qe_var 0) (qa_cons (qe_ix (qe_var 4) qe_int) qa_nil)) (qe_addT (qe_var 3) qe_int)) (qw_or1 (qt_cmp (op_neA hr.units) od_neA (qe_meth T.cl_Book T.mm_Book_word_at (ok_Book_word_at T) (hr.mono (by first | decide | omega | exact Nat.le_refl _ | exact Nat.le_trans (by decide) (Nat.le_add_right _ _))) T.b_Book_word_at (qe_var 0) (qa_cons (qe_addT (qe_var 3) qe_int) qa_nil)) (qe_ix (qe_var 4) qe_int)))).qt (qss_one (qs_ret qe_bl)) qss_nil)
    (qss_cons (qs_set (i := 5) sc_law_book_is.nd (qe_ix (qe_var 4) qe_int))
    (qss_cons (qs_if (qw_or (qt_cmp (op_eqA hr.units) od_eqA (qe_ix (qe_var 4) qe_int) qe_str) (qw_or1 (qt_cmp (op_eqA hr.units) od_eqA (qe_ix (qe_var 4) qe_int) qe_str))).qt (qss_one (qs_set (i := 5) sc_law_book_is.nd (qe_len (by rfl) T.z_len (qa_cons (qe_ix (qe_var 4) qe_int) qa_nil)))) qss_nil)
    (qss_cons (qs_if (qw_or (qt_not (qt_truth (qe_call (ok_law_is_integer T) (hr.mono (by first | decide | omega | exact Nat.le_refl _ | exact Nat.le_trans (by decide) (Nat.le_add_right _ _))) (by rfl) T.m_law_is_integer T.F_law_is_integer.kp T.b_law_is_integer (qa_cons (qe_meth T.cl_Book T.mm_Book_count_at (ok_Book_count_at T) (hr.mono (by first | decide | omega | exact Nat.le_refl _ | exact Nat.le_trans (by decide) (Nat.le_add_right _ _))) T.b_Book_count_at (qe_var 0) (qa_cons (qe_addT (qe_var 3) qe_int) qa_nil)) qa_nil)))) (qw_or1 (qt_cmp (op_neA hr.units) od_neA (qe_meth T.cl_Book T.mm_Book_count_at (ok_Book_count_at T) (hr.mono (by first | decide | omega | exact Nat.le_refl _ | exact Nat.le_trans (by decide) (Nat.le_add_right _ _))) T.b_Book_count_at (qe_var 0) (qa_cons (qe_addT (qe_var 3) qe_int) qa_nil)) (qe_var 5)))).qt (qss_one (qs_ret qe_bl)) qss_nil)
    (qss_one (qs_forR (j := 6) (js := [6]) PassesOwn.never (by rfl) sc_law_book_is.nd (by rfl) T.z_range (qe_var 5) (qss_cons (qs_if (qw_and (qt_cmp (op_eqA hr.units) od_eqA (qe_ix (qe_var 4) qe_int) qe_str) (qw_and1 (qt_cmp (op_neA hr.units) od_neA (qe_meth T.cl_Book T.mm_Book_ways_at (ok_Book_ways_at T) (hr.mono (by first | decide | omega | exact Nat.le_refl _ | exact Nat.le_trans (by decide) (Nat.le_add_right _ _))) T.b_Book_ways_at (qe_var 0) (qa_cons (qe_addT (qe_var 3) qe_int) (qa_cons (qe_var 6) qa_nil))) (qe_ix (qe_ix (qe_var 4) qe_int) (qe_var 6))))).qt (qss_one (qs_ret qe_bl)) qss_nil)
    (qss_one (qs_if (qt_cmp (op_eqA hr.units) od_eqA (qe_ix (qe_var 4) qe_int) qe_str) (qss_one (qs_forR (j := 7) (js := [7]) PassesOwn.never (by rfl) sc_law_book_is.nd (by rfl) T.z_range (qe_var 5) (qss_one (qs_if (qt_cmp (op_neA hr.units) od_neA (qe_meth T.cl_Book T.mm_Book_product (ok_Book_product T) (hr.mono (by first | decide | omega | exact Nat.le_refl _ | exact Nat.le_trans (by decide) (Nat.le_add_right _ _))) T.b_Book_product (qe_var 0) (qa_cons (qe_addT (qe_var 3) qe_int) (qa_cons (qe_var 6) (qa_cons (qe_var 7) qa_nil)))) (qe_ix (qe_ix (qe_ix (qe_var 4) qe_int) (qe_var 6)) (qe_var 7))) (qss_one (qs_ret qe_bl)) qss_nil)))) qss_nil)))))))))))
      (qss_one (qs_ret qe_bl)))))

theorem ok_law_fault (T : Txt K mg w cs) : FnOk P w K mg base CX0 7 T.f_law_fault T.d_law_fault ["_law_text", "_law_line", "_law_token"] (spOf K (S_law_fault cs)) := by
  refine fn_ok T.F_law_fault sc_law_fault (ar_law_fault cs) fun cdv A outer s H E Z hr => ⟨r_law_fault cs, ?_, (red_law_fault cs)⟩
  exact (qss_cons (qs_try_mix rfl rfl sc_law_fault.nd takes0 xok_E0 (fun W1 pn1 xe1 Z Ψ1 tk1 po1 xo1 => (qss_one (qs_expr (qe_callX (ok_read_book T) (hr.mono (by first | decide | omega | exact Nat.le_refl _ | exact Nat.le_trans (by decide) (Nat.le_add_right _ _))) tk1 xo1 (by rfl) T.m_read_book T.F_read_book.kp T.b_read_book (qa_cons (qe_var 0) qa_nil))))) (.as (i := 3) ⟨by rfl, by decide, .inl T.m_TextError⟩ rfl rfl (T.cat_TextError) (fun a oe C d fs pn Z hC hz hf xr => (by
        simp only [List.mem_cons, List.not_mem_nil, or_false, Prod.mk.injEq, reduceCtorEq, and_false, and_true, false_or] at hC
        subst hC
        exact (qss_one (qs_ret (qe_and (qe_isX T.xi_TextError T.ki_TextError_DeedsError hz hf xr (qe_var 3) (by rfl) T.z_isinstance (by rfl) T.m_DeedsError) (qe_and (qe_isXB T.xi_TextError T.kb_TextError_ValueError hz hf xr (qe_var 3) (by rfl) T.z_isinstance (by rfl) T.z_ValueError (by decide +kernel)) (qe_and (qe_cmp (op_eqA hr.units) od_eqA (qe_xf T.x_TextError T.n_TextError_line hz hf xr (qe_var 3)) (qe_var 1)) (qe_one (qe_cmp (op_eqA hr.units) od_eqA (qe_xf T.x_TextError T.n_TextError_token hz hf xr (qe_var 3)) (qe_var 2)))))))))) (.cons ⟨by rfl, by decide, .inl T.m_DeedsError⟩ (T.cat_DeedsError) (fun a oe C d fs pn Z hC hz hf xr => (qss_one (qs_ret qe_bl))) .nil)))
      (qss_one (qs_ret qe_bl)))

theorem ok_law_refused (T : Txt K mg w cs) : FnOk P w K mg base CX0 7 T.f_law_refused T.d_law_refused ["_law_kernel", "_law_layers", "_law_text", "_law_due_here"] (spOf K (S_law_refused cs)) := by
  refine fn_ok T.F_law_refused sc_law_refused (ar_law_refused cs) fun cdv A outer s H E Z hr => ⟨r_law_refused cs, ?_, (red_law_refused cs)⟩
  exact (qss_cons (qs_set (i := 4) sc_law_refused.nd (qe_neg qe_int))
      (qss_cons (qs_try_as (i := 5) rfl rfl sc_law_refused.nd rfl rfl ⟨by rfl, by decide, .inl T.m_BookError⟩ (T.cat_BookError) takes0 xok_E0 (fun W1 pn1 xe1 Z Ψ1 tk1 po1 xo1 => (qss_one (qs_expr (qe_makeS T.mk_Book (ok_Book_init T) (hr.mono (by first | decide | omega | exact Nat.le_refl _ | exact Nat.le_trans (by decide) (Nat.le_add_right _ _))) tk1 xo1 (by rfl) T.m_Book T.b_Book_init (qa_cons (qe_var 0) (qa_cons (qe_fz (ql_list (by rfl) T.z_list (qe_var 1))) qa_nil)))))) (fun a oe C d fs pn Z hC hz hf xr => (by
        simp only [List.mem_cons, List.not_mem_nil, or_false, Prod.mk.injEq, reduceCtorEq, and_false, and_true, false_or] at hC
        subst hC
        exact (qss_one (qs_set (i := 4) sc_law_refused.nd (qe_xf T.x_BookError T.n_BookError_layer hz hf xr (qe_var 5)))))))
      (qss_cons (qs_if (qt_cmp (op_neA hr.units) od_neA (qe_var 4) (qe_var 3)) (qss_one (qs_ret qe_bl)) qss_nil)
      (qss_cons (qs_set (i := 4) sc_law_refused.nd (qe_neg qe_int))
      (qss_cons (qs_try_mix rfl rfl sc_law_refused.nd takes0 xok_E0 (fun W1 pn1 xe1 Z Ψ1 tk1 po1 xo1 => (qss_one (qs_expr (qe_callX (ok_read_book T) (hr.mono (by first | decide | omega | exact Nat.le_refl _ | exact Nat.le_trans (by decide) (Nat.le_add_right _ _))) tk1 xo1 (by rfl) T.m_read_book T.F_read_book.kp T.b_read_book (qa_cons (qe_var 2) qa_nil))))) (.as (i := 5) ⟨by rfl, by decide, .inl T.m_BookError⟩ rfl rfl (T.cat_BookError) (fun a oe C d fs pn Z hC hz hf xr => (by
        simp only [List.mem_cons, List.not_mem_nil, or_false, Prod.mk.injEq, reduceCtorEq, and_false, and_true, false_or] at hC
        subst hC
        exact (qss_one (qs_set (i := 4) sc_law_refused.nd (qe_xf T.x_BookError T.n_BookError_layer hz hf xr (qe_var 5)))))) (.cons ⟨by rfl, by decide, .inl T.m_DeedsError⟩ (T.cat_DeedsError) (fun a oe C d fs pn Z hC hz hf xr => (qss_one (qs_set (i := 4) sc_law_refused.nd (qe_neg qe_int)))) .nil)))
      (qss_one (qs_ret (qe_cmp (op_eqA hr.units) od_eqA (qe_var 4) (qe_var 3)))))))))

theorem ok_law_spoilt (T : Txt K mg w cs) : FnOk P w K mg base CX0 8 T.f_law_spoilt T.d_law_spoilt ["_law_lines_here", "_law_text", "_law_row_here"] (spOf K (S_law_spoilt cs)) := by
  refine fn_ok T.F_law_spoilt sc_law_spoilt (ar_law_spoilt cs) fun cdv A outer s H E Z hr => ⟨r_law_spoilt cs, ?_, (red_law_spoilt cs)⟩
  exact (qss_cons (qs_set (i := 3) sc_law_spoilt.nd (qe_mod (qe_ixR (qe_var 2) qe_int) (qe_len (by rfl) T.z_len (qa_cons (qe_var 0) qa_nil))))
      (qss_cons (qs_set (i := 4) sc_law_spoilt.nd (qe_mod (qe_ixR (qe_var 2) qe_int) (qe_len (by rfl) T.z_len (qa_cons (qe_ixR (qe_var 0) (qe_var 3)) qa_nil))))
      (qss_cons (qs_setLcD (i := 5) (own := [("_law_one", 6)]) (vs := [6]) (by rfl) sc_law_spoilt.nd rfl rfl (sw_true rfl rfl rfl (by decide +kernel)) (qi_seq (qe_var 0)) (blkOk_by (N := ["_law_lines_here", "_law_text", "_law_row_here", "_law_line", "_law_token", "_law_words", "_law_one"]) (sc := defScope s_law_spoilt) (own := [("_law_one", 6)]) (by decide +kernel)) (simGw_name (j := 6) (by decide)) (fun _ _ _ _ _ => (pg_name (i := 6) sc_law_spoilt.nd rfl (Or.inl rfl))) (fun _ _ _ _ _ => pts_yes) (fun _ _ _ _ _ Z => (qe_newM (ql_list (by rfl) T.z_list (qe_var 6)))))
      (qss_cons (qs_if (qt_cmp (op_eqA hr.units) od_eqA (qe_mod (qe_ixR (qe_var 2) qe_int) qe_int) qe_int) (qss_one (qs_ret (qe_call (ok_law_fault T) (hr.mono (by first | decide | omega | exact Nat.le_refl _ | exact Nat.le_trans (by decide) (Nat.le_add_right _ _))) (by rfl) T.m_law_fault T.F_law_fault.kp T.b_law_fault (qa_cons (qe_addT (qe_var 1) qe_str) (qa_cons (qe_addT (qe_len (by rfl) T.z_len (qa_cons (qe_var 0) qa_nil)) qe_int) (qa_cons qe_int qa_nil)))))) qss_nil)
      (qss_cons (qs_if (qt_cmp (op_eqA hr.units) od_eqA (qe_mod (qe_ixR (qe_var 2) qe_int) qe_int) qe_int) (qss_one (qs_ret (qe_call (ok_law_fault T) (hr.mono (by first | decide | omega | exact Nat.le_refl _ | exact Nat.le_trans (by decide) (Nat.le_add_right _ _))) (by rfl) T.m_law_fault T.F_law_fault.kp T.b_law_fault (qa_cons (qe_addT (qe_var 1) qe_str) (qa_cons (qe_len (by rfl) T.z_len (qa_cons (qe_var 0) qa_nil)) (qa_cons (qe_addT (qe_len (by rfl) T.z_len (qa_cons (qe_ixR (qe_var 0) (qe_neg qe_int)) qa_nil)) qe_int) qa_nil)))))) qss_nil)
      (qss_cons (qs_if (qt_cmp (op_eqA hr.units) od_eqA (qe_mod (qe_ixR (qe_var 2) qe_int) qe_int) qe_int) (qss_one (qs_stoM qe_str (qe_ixR (qe_var 5) (qe_var 3)) (qe_var 4))) (qss_one (qs_stoM (qe_addT qe_str (qe_ixR (qe_ixR (qe_var 5) (qe_var 3)) (qe_var 4))) (qe_ixR (qe_var 5) (qe_var 3)) (qe_var 4))))
      (qss_one (qs_ret (qe_call (ok_law_fault T) (hr.mono (by first | decide | omega | exact Nat.le_refl _ | exact Nat.le_trans (by decide) (Nat.le_add_right _ _))) (by rfl) T.m_law_fault T.F_law_fault.kp T.b_law_fault (qa_cons (qe_joinL qe_str (qe_fz (ql_lc (own := [("_law_one", 6)]) (vs := [6]) (by rfl) sc_law_spoilt.nd (qi_seq (qe_var 5)) (blkOk_by (N := ["_law_lines_here", "_law_text", "_law_row_here", "_law_line", "_law_token", "_law_words", "_law_one"]) (sc := defScope s_law_spoilt) (own := [("_law_one", 6)]) (by decide +kernel)) (simGw_name (j := 6) (by decide)) (fun _ _ _ _ _ => (pg_name (i := 6) sc_law_spoilt.nd rfl (Or.inl rfl))) (fun _ _ _ _ _ => pts_yes) (fun _ _ _ _ _ Z => (qe_joinL qe_str (qe_var 6)))))) (qa_cons (qe_addT (qe_var 3) qe_int) (qa_cons (qe_addT (qe_var 4) qe_int) qa_nil))))))))))))

theorem ok_law (T : Txt K mg w cs) : FnOk P w K mg base CX0 9 T.f_law T.d_law ["_law_script"] (spOf K (S_law cs)) := by
  refine fn_ok T.F_law sc_law (ar_law cs) fun cdv A outer s H E Z hr => ⟨r_law cs, ?_, (red_law cs)⟩
  exact (qss_cons (qs_set (i := 1) sc_law.nd (qe_call (ok_law_row T) (hr.mono (by first | decide | omega | exact Nat.le_refl _ | exact Nat.le_trans (by decide) (Nat.le_add_right _ _))) (by rfl) T.m_law_row T.F_law_row.kp T.b_law_row (qa_cons (qe_var 0) (qa_cons qe_int (qa_cons qe_int qa_nil)))))
      (qss_cons (qs_set (i := 2) sc_law.nd (qe_ix (qe_lst (qa_cons qe_str (qa_cons qe_str (qa_cons qe_str (qa_cons qe_str (qa_cons qe_str (qa_cons qe_str (qa_cons qe_str qa_nil)))))))) (qe_mod (qe_ix (qe_var 1) qe_int) qe_int)))
      (qss_cons (qs_if (qt_cmp (op_eqA hr.units) od_eqA (qe_mod (qe_ix (qe_var 1) qe_int) qe_int) qe_int) (qss_one (qs_set (i := 2) sc_law.nd qe_str)) qss_nil)
      (qss_cons (qs_setO (i := 3) sc_law.nd (ql_lst qa_nil))
      (qss_cons (qs_set (i := 4) sc_law.nd qe_str)
      (qss_cons (qs_forR (j := 5) (js := [5]) PassesOwn.never (by rfl) sc_law.nd (by rfl) T.z_range (qe_ix (qe_lst (qa_cons qe_int (qa_cons qe_int (qa_cons qe_int (qa_cons qe_int (qa_cons qe_int (qa_cons qe_int (qa_cons qe_int (qa_cons qe_int (qa_cons qe_int (qa_cons qe_int (qa_cons qe_int (qa_cons qe_int qa_nil))))))))))))) (qe_mod (qe_ix (qe_var 1) qe_int) qe_int)) (qss_cons (qs_app (j := 3) (qe_call (ok_law_layer T) (hr.mono (by first | decide | omega | exact Nat.le_refl _ | exact Nat.le_trans (by decide) (Nat.le_add_right _ _))) (by rfl) T.m_law_layer T.F_law_layer.kp T.b_law_layer (qa_cons (qe_call (ok_law_row T) (hr.mono (by first | decide | omega | exact Nat.le_refl _ | exact Nat.le_trans (by decide) (Nat.le_add_right _ _))) (by rfl) T.m_law_row T.F_law_row.kp T.b_law_row (qa_cons (qe_var 0) (qa_cons (qe_addT qe_int (qe_var 5)) (qa_cons qe_int qa_nil)))) (qa_cons (qe_var 4) qa_nil))))
    (qss_one (qs_set (i := 4) sc_law.nd (qe_ix (qe_ixO 3 (qe_neg qe_int)) qe_int)))))
      (qss_cons (qs_set (i := 6) sc_law.nd (qe_call (ok_law_lines T) (hr.mono (by first | decide | omega | exact Nat.le_refl _ | exact Nat.le_trans (by decide) (Nat.le_add_right _ _))) (by rfl) T.m_law_lines T.F_law_lines.kp T.b_law_lines (qa_cons (qe_var 2) (qa_cons (qe_var 3) qa_nil))))
      (qss_cons (qs_set (i := 7) sc_law.nd (qe_joinL qe_str (qe_fz (ql_lc (own := [("_law_one", 8)]) (vs := [8]) (by rfl) sc_law.nd (qi_seq (qe_var 6)) (blkOk_by (N := ["_law_script", "_law_row_here", "_law_kernel", "_law_layers", "_law_before", "_law_at", "_law_lines_here", "_law_text", "_law_one", "_law_due_here", "_law_book", "_law_twin", "_law_many"]) (sc := defScope s_law) (own := [("_law_one", 8)]) (by decide +kernel)) (simGw_name (j := 8) (by decide)) (fun _ _ _ _ _ => (pg_name (i := 8) sc_law.nd rfl (Or.inl rfl))) (fun _ _ _ _ _ => pts_yes) (fun _ _ _ _ _ Z => (qe_joinL qe_str (qe_var 8)))))))
      (qss_cons (qs_set (i := 9) sc_law.nd (qe_call (ok_law_due T) (hr.mono (by first | decide | omega | exact Nat.le_refl _ | exact Nat.le_trans (by decide) (Nat.le_add_right _ _))) (by rfl) T.m_law_due T.F_law_due.kp T.b_law_due (qa_cons (qe_var 2) (qa_cons (qe_var 3) qa_nil))))
      (qss_cons (qs_if (qt_cmp (op_eqA hr.units) od_eqA (qe_var 2) qe_str) (qss_one (qs_if (qt_not (qt_truth (qe_call (ok_law_fault T) (hr.mono (by first | decide | omega | exact Nat.le_refl _ | exact Nat.le_trans (by decide) (Nat.le_add_right _ _))) (by rfl) T.m_law_fault T.F_law_fault.kp T.b_law_fault (qa_cons (qe_var 7) (qa_cons qe_int (qa_cons qe_int qa_nil)))))) (qss_one (qs_ret qe_bl)) qss_nil)) (qss_one (qs_if (qt_cmp op_ge od_ge (qe_var 9) qe_int) (qss_one (qs_if (qt_not (qt_truth (qe_call (ok_law_refused T) (hr.mono (by first | decide | omega | exact Nat.le_refl _ | exact Nat.le_trans (by decide) (Nat.le_add_right _ _))) (by rfl) T.m_law_refused T.F_law_refused.kp T.b_law_refused (qa_cons (qe_var 2) (qa_cons (qe_var 3) (qa_cons (qe_var 7) (qa_cons (qe_var 9) qa_nil))))))) (qss_one (qs_ret qe_bl)) qss_nil)) (qss_cons (qs_set (i := 10) sc_law.nd (qe_callX (ok_read_book T) (hr.mono (by first | decide | omega | exact Nat.le_refl _ | exact Nat.le_trans (by decide) (Nat.le_add_right _ _))) takes0 xok_E0 (by rfl) T.m_read_book T.F_read_book.kp T.b_read_book (qa_cons (qe_var 7) qa_nil)))
      (qss_cons (qs_set (i := 11) sc_law.nd (qe_makeX takes0 xok_E0 T.mk_Book (ok_Book_init T) (hr.mono (by first | decide | omega | exact Nat.le_refl _ | exact Nat.le_trans (by decide) (Nat.le_add_right _ _))) (by rfl) T.m_Book T.b_Book_init (qa_cons (qe_var 2) (qa_cons (qe_fz (ql_list (by rfl) T.z_list (qe_var 3))) qa_nil))))
      (qss_cons (qs_if (qw_or (qt_not (qt_truth (qe_call (ok_law_book_is T) (hr.mono (by first | decide | omega | exact Nat.le_refl _ | exact Nat.le_trans (by decide) (Nat.le_add_right _ _))) (by rfl) T.m_law_book_is T.F_law_book_is.kp T.b_law_book_is (qa_cons (qe_var 10) (qa_cons (qe_var 2) (qa_cons (qe_var 3) qa_nil)))))) (qw_or1 (qt_not (qt_truth (qe_call (ok_law_book_is T) (hr.mono (by first | decide | omega | exact Nat.le_refl _ | exact Nat.le_trans (by decide) (Nat.le_add_right _ _))) (by rfl) T.m_law_book_is T.F_law_book_is.kp T.b_law_book_is (qa_cons (qe_var 11) (qa_cons (qe_var 2) (qa_cons (qe_var 3) qa_nil)))))))).qt (qss_one (qs_ret qe_bl)) qss_nil)
      (qss_cons (qs_if (qw_or (qt_cmp (op_neA hr.units) od_neA (qe_call (ok_write_book T) (hr.mono (by first | decide | omega | exact Nat.le_refl _ | exact Nat.le_trans (by decide) (Nat.le_add_right _ _))) (by rfl) T.m_write_book T.F_write_book.kp T.b_write_book (qa_cons (qe_var 10) qa_nil)) (qe_var 7)) (qw_or (qt_cmp (op_neA hr.units) od_neA (qe_call (ok_write_book T) (hr.mono (by first | decide | omega | exact Nat.le_refl _ | exact Nat.le_trans (by decide) (Nat.le_add_right _ _))) (by rfl) T.m_write_book T.F_write_book.kp T.b_write_book (qa_cons (qe_var 11) qa_nil)) (qe_var 7)) (qw_or1 (qt_cmp op_notBl od_notB (qe_call (ok_like_books T) (hr.mono (by first | decide | omega | exact Nat.le_refl _ | exact Nat.le_trans (by decide) (Nat.le_add_right _ _))) (by rfl) T.m_like_books T.F_like_books.kp T.b_like_books (qa_cons (qe_var 10) (qa_cons (qe_var 11) qa_nil))) qe_bl)))).qt (qss_one (qs_ret qe_bl)) qss_nil)
      (qss_cons (qs_set (i := 12) sc_law.nd (qe_dispC (kvs := [(.inr "none", .int 0), (.inr "choose", .int 1), (.inr "draw", .int 10), (.inr "spread", .int 11), (.inr "twochoose", .int 2), (.inr "twodraw", .int 20), (.inr "mixed", .int 11)]) (qps_cons (qps_cons (qps_cons (qps_cons (qps_cons (qps_cons (qps_cons qps_nil)))))))))
      (qss_one (qs_if (qt_cmp (op_neA hr.units) od_neA (qe_addT (qe_call (ok_choices T) (hr.mono (by first | decide | omega | exact Nat.le_refl _ | exact Nat.le_trans (by decide) (Nat.le_add_right _ _))) (by rfl) T.m_choices T.F_choices.kp T.b_choices (qa_cons (qe_var 2) qa_nil)) (qe_mulA qe_int (qe_call (ok_draws T) (hr.mono (by first | decide | omega | exact Nat.le_refl _ | exact Nat.le_trans (by decide) (Nat.le_add_right _ _))) (by rfl) T.m_draws T.F_draws.kp T.b_draws (qa_cons (qe_var 2) qa_nil)))) (qe_item (Nat.lt_of_le_of_lt (Nat.add_le_add_left (by decide : 1 ≤ 64) _) hr.units) (qe_var 12) (qe_var 2))) (qss_one (qs_ret qe_bl)) qss_nil))))))))))
      (qss_cons (qs_if (qw_and (qt_cmp (op_eqA hr.units) od_eqA (qe_mod (qe_ix (qe_var 1) qe_int) qe_int) qe_int) (qw_and1 (qt_cmp (op_neA hr.units) od_neA (qe_var 2) qe_str))).qt (qss_one (qs_ret (qe_call (ok_law_spoilt T) (hr.mono (by first | decide | omega | exact Nat.le_refl _ | exact Nat.le_trans (by decide) (Nat.le_add_right _ _))) (by rfl) T.m_law_spoilt T.F_law_spoilt.kp T.b_law_spoilt (qa_cons (qe_var 6) (qa_cons (qe_var 7) (qa_cons (qe_call (ok_law_row T) (hr.mono (by first | decide | omega | exact Nat.le_refl _ | exact Nat.le_trans (by decide) (Nat.le_add_right _ _))) (by rfl) T.m_law_row T.F_law_row.kp T.b_law_row (qa_cons (qe_var 0) (qa_cons qe_int (qa_cons qe_int qa_nil)))) qa_nil)))))) qss_nil)
      (qss_one (qs_ret qe_bl)))))))))))))

end
theorem all_mk {l : PySem.W.OpenLaw} {w : World} {K : PySem.W.Frag} {h : Heap} {mg : Str → Option Value} {fa f0 f1 f2 f3 f4 f5 f6 f7 f8 f9 f10 f11 f12 f13 f14 f15 f16 f17 f18 f19 f20 f21 f22 f23 f24 f25 f26 f27 f28 f29 f30 f31 f32 f33 f34 f35 f36 f37 f38 f39 f40 f41 f42 f43 k_LAYER_WORDS k_KERNELS c_DeedsError c_TextError c_BookError c_Book : Addr} (X : K.In h) (G : h.Ns mainGlobals mg) (hfa : mg "law" = some (.ref fa))
    (m_DeedsError : PySem.W.nsIn K mainGlobals "DeedsError" = some (some (.ref c_DeedsError))) (kc_DeedsError : PySem.W.keepIn K (.ref c_DeedsError) = true)
    (m_TextError : PySem.W.nsIn K mainGlobals "TextError" = some (some (.ref c_TextError))) (kc_TextError : PySem.W.keepIn K (.ref c_TextError) = true)
    {nm_TextError q_TextError : Str} {N_TextError : Addr} {bs_TextError : List Value} {sn_TextError : List Str} {sub_TextError : List Value} {ab_TextError : Bool} {col_TextError : Option Bool} {dd_TextError : Option Addr} {k0_TextError k1_TextError k2_TextError k3_TextError k5_TextError : Option Value}
    (xL_TextError : K.lookup c_TextError = some (excClassObj nm_TextError q_TextError c_TextError N_TextError bs_TextError [.ref c_DeedsError, .type "ValueError", .type "Exception", .type "BaseException", .type "object"] true sn_TextError sub_TextError ab_TextError col_TextError dd_TextError k0_TextError k1_TextError k2_TextError k3_TextError k5_TextError "ValueError.__new__"))
    (sa_TextError : PySem.W.findIn K (.ref c_TextError) "__setattr__" = some (some (.builtin "object.__setattr__"))) (ga_TextError : PySem.W.findIn K (.ref c_TextError) "__getattribute__" = some (some (.builtin "BaseException.__getattribute__"))) (gg_TextError : PySem.W.findIn K (.ref c_TextError) "__getattr__" = some none)
    (eC_TextError : PySem.W.subIn K (.ref c_TextError) (.type "BaseException") = some true) (tC_TextError : PySem.W.typeIn K (.ref c_TextError) = some (.type "type")) (hC_TextError : PySem.W.hasDictIn K c_TextError = true)
    (n_TextError_line : PySem.W.findIn K (.ref c_TextError) "line" = some none)
    (n_TextError_token : PySem.W.findIn K (.ref c_TextError) "token" = some none)
    (m_BookError : PySem.W.nsIn K mainGlobals "BookError" = some (some (.ref c_BookError))) (kc_BookError : PySem.W.keepIn K (.ref c_BookError) = true)
    {nm_BookError q_BookError : Str} {N_BookError : Addr} {bs_BookError : List Value} {sn_BookError : List Str} {sub_BookError : List Value} {ab_BookError : Bool} {col_BookError : Option Bool} {dd_BookError : Option Addr} {k0_BookError k1_BookError k2_BookError k3_BookError k5_BookError : Option Value}
    (xL_BookError : K.lookup c_BookError = some (excClassObj nm_BookError q_BookError c_BookError N_BookError bs_BookError [.ref c_DeedsError, .type "ValueError", .type "Exception", .type "BaseException", .type "object"] true sn_BookError sub_BookError ab_BookError col_BookError dd_BookError k0_BookError k1_BookError k2_BookError k3_BookError k5_BookError "ValueError.__new__"))
    (sa_BookError : PySem.W.findIn K (.ref c_BookError) "__setattr__" = some (some (.builtin "object.__setattr__"))) (ga_BookError : PySem.W.findIn K (.ref c_BookError) "__getattribute__" = some (some (.builtin "BaseException.__getattribute__"))) (gg_BookError : PySem.W.findIn K (.ref c_BookError) "__getattr__" = some none)
    (eC_BookError : PySem.W.subIn K (.ref c_BookError) (.type "BaseException") = some true) (tC_BookError : PySem.W.typeIn K (.ref c_BookError) = some (.type "type")) (hC_BookError : PySem.W.hasDictIn K c_BookError = true)
    (n_BookError_layer : PySem.W.findIn K (.ref c_BookError) "layer" = some none)
    (m_Book : PySem.W.nsIn K mainGlobals "Book" = some (some (.ref c_Book))) (kc_Book : PySem.W.keepIn K (.ref c_Book) = true)
    (pg_Book : PySem.W.plainGet K c_Book Str.empty = true) (hd_Book : PySem.W.hasDictIn K c_Book = true) (po_Book : PySem.W.plainOver K c_Book = true) (sa_Book : PySem.W.findIn K (.ref c_Book) "__setattr__" = some (some (.builtin "object.__setattr__")))
    (n_Book_kernel : PySem.W.findIn K (.ref c_Book) "kernel" = some none)
    (n_Book_layers : PySem.W.findIn K (.ref c_Book) "layers" = some none)
    (n_Book_numbers : PySem.W.findIn K (.ref c_Book) "numbers" = some none)
    (n_Book_size : PySem.W.findIn K (.ref c_Book) "size" = some none)
    (s_TextError_BookError : PySem.W.subIn K (.ref c_TextError) (.ref c_BookError) = some false)
    (s_BookError_BookError : PySem.W.subIn K (.ref c_BookError) (.ref c_BookError) = some true)
    (eC_DeedsError : PySem.W.subIn K (.ref c_DeedsError) (.type "BaseException") = some true) (tC_DeedsError : PySem.W.typeIn K (.ref c_DeedsError) = some (.type "type")) (hC_DeedsError : PySem.W.hasDictIn K c_DeedsError = true)
    (s_TextError_DeedsError : PySem.W.subIn K (.ref c_TextError) (.ref c_DeedsError) = some true)
    (s_BookError_DeedsError : PySem.W.subIn K (.ref c_BookError) (.ref c_DeedsError) = some true)
    (s_TextError_TextError : PySem.W.subIn K (.ref c_TextError) (.ref c_TextError) = some true)
    (s_BookError_TextError : PySem.W.subIn K (.ref c_BookError) (.ref c_TextError) = some false)
    (xa_TextError : PySem.W.findIn K (.ref c_TextError) "__class__" = some (some (.builtin "object.__class__"))) (xm_TextError : PySem.W.mroIn K c_TextError (.type "object") = some true) (xn_TextError : PySem.W.specialIn K (.builtin "object.__class__") "__get__" = some (some (.builtin "getset_descriptor.__get__"))) (xt_TextError : PySem.W.takesIn K (.builtin "object.__class__") = some true)
    (sb_TextError_ValueError : PySem.W.subIn K (.ref c_TextError) (.type "ValueError") = some true)
    {oc0 kV0 dc0 pm0 cd0 ct0 : Value} {od0 an0 : Option Addr} {sl0 : Array (Option Value)}
    (a0 : PySem.W.findIn K (.ref c_TextError) "__init__" = some (some (.ref f0)))
    (l0 : K.lookup f0 = some ⟨oc0, od0, .func (PySem.W.fnOf "__init__" "TextError.__init__" (defArgs s_TextError_init) (defBody s_TextError_init) (defScope s_TextError_init) .none kV0 dc0 pm0 an0 cd0 ct0), sl0⟩) (c0 : PySem.W.codeIn K cd0 "TextError.__init__" = true) (k0 : PySem.W.keepIn K (.ref f0) = true)
    (t0 : PySem.W.typeIn K (.ref f0) = some (.type "function"))
    {oc1 kV1 dc1 pm1 cd1 ct1 : Value} {od1 an1 : Option Addr} {sl1 : Array (Option Value)}
    (a1 : PySem.W.findIn K (.ref c_BookError) "__init__" = some (some (.ref f1)))
    (l1 : K.lookup f1 = some ⟨oc1, od1, .func (PySem.W.fnOf "__init__" "BookError.__init__" (defArgs s_BookError_init) (defBody s_BookError_init) (defScope s_BookError_init) .none kV1 dc1 pm1 an1 cd1 ct1), sl1⟩) (c1 : PySem.W.codeIn K cd1 "BookError.__init__" = true) (k1 : PySem.W.keepIn K (.ref f1) = true)
    (t1 : PySem.W.typeIn K (.ref f1) = some (.type "function"))
    {oc2 kV2 dc2 pm2 cd2 ct2 : Value} {od2 an2 : Option Addr} {sl2 : Array (Option Value)}
    (a2 : PySem.W.nsIn K mainGlobals "_token_begin" = some (some (.ref f2)))
    (l2 : K.lookup f2 = some ⟨oc2, od2, .func (PySem.W.fnOf "_token_begin" "_token_begin" (defArgs s_token_begin) (defBody s_token_begin) (defScope s_token_begin) .none kV2 dc2 pm2 an2 cd2 ct2), sl2⟩) (c2 : PySem.W.codeIn K cd2 "_token_begin" = true) (k2 : PySem.W.keepIn K (.ref f2) = true)
    {oc3 kV3 dc3 pm3 cd3 ct3 : Value} {od3 an3 : Option Addr} {sl3 : Array (Option Value)}
    (a3 : PySem.W.nsIn K mainGlobals "_token_end" = some (some (.ref f3)))
    (l3 : K.lookup f3 = some ⟨oc3, od3, .func (PySem.W.fnOf "_token_end" "_token_end" (defArgs s_token_end) (defBody s_token_end) (defScope s_token_end) .none kV3 dc3 pm3 an3 cd3 ct3), sl3⟩) (c3 : PySem.W.codeIn K cd3 "_token_end" = true) (k3 : PySem.W.keepIn K (.ref f3) = true)
    {oc4 kV4 dc4 pm4 cd4 ct4 : Value} {od4 an4 : Option Addr} {sl4 : Array (Option Value)}
    (a4 : PySem.W.nsIn K mainGlobals "tokens_of" = some (some (.ref f4)))
    (l4 : K.lookup f4 = some ⟨oc4, od4, .func (PySem.W.fnOf "tokens_of" "tokens_of" (defArgs s_tokens_of) (defBody s_tokens_of) (defScope s_tokens_of) .none kV4 dc4 pm4 an4 cd4 ct4), sl4⟩) (c4 : PySem.W.codeIn K cd4 "tokens_of" = true) (k4 : PySem.W.keepIn K (.ref f4) = true)
    {oc5 kV5 dc5 pm5 cd5 ct5 : Value} {od5 an5 : Option Addr} {sl5 : Array (Option Value)}
    (a5 : PySem.W.nsIn K mainGlobals "is_digits" = some (some (.ref f5)))
    (l5 : K.lookup f5 = some ⟨oc5, od5, .func (PySem.W.fnOf "is_digits" "is_digits" (defArgs s_is_digits) (defBody s_is_digits) (defScope s_is_digits) .none kV5 dc5 pm5 an5 cd5 ct5), sl5⟩) (c5 : PySem.W.codeIn K cd5 "is_digits" = true) (k5 : PySem.W.keepIn K (.ref f5) = true)
    {oc6 kV6 dc6 pm6 cd6 ct6 : Value} {od6 an6 : Option Addr} {sl6 : Array (Option Value)}
    (a6 : PySem.W.nsIn K mainGlobals "whole_in" = some (some (.ref f6)))
    (l6 : K.lookup f6 = some ⟨oc6, od6, .func (PySem.W.fnOf "whole_in" "whole_in" (defArgs s_whole_in) (defBody s_whole_in) (defScope s_whole_in) .none kV6 dc6 pm6 an6 cd6 ct6), sl6⟩) (c6 : PySem.W.codeIn K cd6 "whole_in" = true) (k6 : PySem.W.keepIn K (.ref f6) = true)
    {oc7 kV7 dc7 pm7 cd7 ct7 : Value} {od7 an7 : Option Addr} {sl7 : Array (Option Value)}
    (a7 : PySem.W.nsIn K mainGlobals "number_in" = some (some (.ref f7)))
    (l7 : K.lookup f7 = some ⟨oc7, od7, .func (PySem.W.fnOf "number_in" "number_in" (defArgs s_number_in) (defBody s_number_in) (defScope s_number_in) .none kV7 dc7 pm7 an7 cd7 ct7), sl7⟩) (c7 : PySem.W.codeIn K cd7 "number_in" = true) (k7 : PySem.W.keepIn K (.ref f7) = true)
    {oc8 kV8 dc8 pm8 cd8 ct8 : Value} {od8 an8 : Option Addr} {sl8 : Array (Option Value)}
    (a8 : PySem.W.nsIn K mainGlobals "is_name" = some (some (.ref f8)))
    (l8 : K.lookup f8 = some ⟨oc8, od8, .func (PySem.W.fnOf "is_name" "is_name" (defArgs s_is_name) (defBody s_is_name) (defScope s_is_name) .none kV8 dc8 pm8 an8 cd8 ct8), sl8⟩) (c8 : PySem.W.codeIn K cd8 "is_name" = true) (k8 : PySem.W.keepIn K (.ref f8) = true)
    {oc9 kV9 dc9 pm9 cd9 ct9 : Value} {od9 an9 : Option Addr} {sl9 : Array (Option Value)}
    (a9 : PySem.W.nsIn K mainGlobals "choices" = some (some (.ref f9)))
    (l9 : K.lookup f9 = some ⟨oc9, od9, .func (PySem.W.fnOf "choices" "choices" (defArgs s_choices) (defBody s_choices) (defScope s_choices) .none kV9 dc9 pm9 an9 cd9 ct9), sl9⟩) (c9 : PySem.W.codeIn K cd9 "choices" = true) (k9 : PySem.W.keepIn K (.ref f9) = true)
    {oc10 kV10 dc10 pm10 cd10 ct10 : Value} {od10 an10 : Option Addr} {sl10 : Array (Option Value)}
    (a10 : PySem.W.nsIn K mainGlobals "draws" = some (some (.ref f10)))
    (l10 : K.lookup f10 = some ⟨oc10, od10, .func (PySem.W.fnOf "draws" "draws" (defArgs s_draws) (defBody s_draws) (defScope s_draws) .none kV10 dc10 pm10 an10 cd10 ct10), sl10⟩) (c10 : PySem.W.codeIn K cd10 "draws" = true) (k10 : PySem.W.keepIn K (.ref f10) = true)
    {oc11 kV11 dc11 pm11 cd11 ct11 : Value} {od11 an11 : Option Addr} {sl11 : Array (Option Value)}
    (a11 : PySem.W.nsIn K mainGlobals "_is_associative" = some (some (.ref f11)))
    (l11 : K.lookup f11 = some ⟨oc11, od11, .func (PySem.W.fnOf "_is_associative" "_is_associative" (defArgs s_is_associative) (defBody s_is_associative) (defScope s_is_associative) .none kV11 dc11 pm11 an11 cd11 ct11), sl11⟩) (c11 : PySem.W.codeIn K cd11 "_is_associative" = true) (k11 : PySem.W.keepIn K (.ref f11) = true)
    {oc12 kV12 dc12 pm12 cd12 ct12 : Value} {od12 an12 : Option Addr} {sl12 : Array (Option Value)}
    (a12 : PySem.W.nsIn K mainGlobals "_is_square" = some (some (.ref f12)))
    (l12 : K.lookup f12 = some ⟨oc12, od12, .func (PySem.W.fnOf "_is_square" "_is_square" (defArgs s_is_square) (defBody s_is_square) (defScope s_is_square) .none kV12 dc12 pm12 an12 cd12 ct12), sl12⟩) (c12 : PySem.W.codeIn K cd12 "_is_square" = true) (k12 : PySem.W.keepIn K (.ref f12) = true)
    {oc13 kV13 dc13 pm13 cd13 ct13 : Value} {od13 an13 : Option Addr} {sl13 : Array (Option Value)}
    (a13 : PySem.W.nsIn K mainGlobals "_is_monoid" = some (some (.ref f13)))
    (l13 : K.lookup f13 = some ⟨oc13, od13, .func (PySem.W.fnOf "_is_monoid" "_is_monoid" (defArgs s_is_monoid) (defBody s_is_monoid) (defScope s_is_monoid) .none kV13 dc13 pm13 an13 cd13 ct13), sl13⟩) (c13 : PySem.W.codeIn K cd13 "_is_monoid" = true) (k13 : PySem.W.keepIn K (.ref f13) = true)
    {oc14 kV14 dc14 pm14 cd14 ct14 : Value} {od14 an14 : Option Addr} {sl14 : Array (Option Value)}
    (a14 : PySem.W.nsIn K mainGlobals "_is_layer" = some (some (.ref f14)))
    (l14 : K.lookup f14 = some ⟨oc14, od14, .func (PySem.W.fnOf "_is_layer" "_is_layer" (defArgs s_is_layer) (defBody s_is_layer) (defScope s_is_layer) .none kV14 dc14 pm14 an14 cd14 ct14), sl14⟩) (c14 : PySem.W.codeIn K cd14 "_is_layer" = true) (k14 : PySem.W.keepIn K (.ref f14) = true)
    {oc15 kV15 dc15 pm15 cd15 ct15 : Value} {od15 an15 : Option Addr} {sl15 : Array (Option Value)}
    (a15 : PySem.W.nsIn K mainGlobals "_states_of" = some (some (.ref f15)))
    (l15 : K.lookup f15 = some ⟨oc15, od15, .func (PySem.W.fnOf "_states_of" "_states_of" (defArgs s_states_of) (defBody s_states_of) (defScope s_states_of) .none kV15 dc15 pm15 an15 cd15 ct15), sl15⟩) (c15 : PySem.W.codeIn K cd15 "_states_of" = true) (k15 : PySem.W.keepIn K (.ref f15) = true)
    {oc16 kV16 dc16 pm16 cd16 ct16 : Value} {od16 an16 : Option Addr} {sl16 : Array (Option Value)}
    (a16 : PySem.W.findIn K (.ref c_Book) "__init__" = some (some (.ref f16)))
    (l16 : K.lookup f16 = some ⟨oc16, od16, .func (PySem.W.fnOf "__init__" "Book.__init__" (defArgs s_Book_init) (defBody s_Book_init) (defScope s_Book_init) .none kV16 dc16 pm16 an16 cd16 ct16), sl16⟩) (c16 : PySem.W.codeIn K cd16 "Book.__init__" = true) (k16 : PySem.W.keepIn K (.ref f16) = true)
    (i16 : PySem.W.isFn K (.ref f16) = true)
    (mk_Book : PySem.W.makesIn K c_Book = true)
    {oc17 kV17 dc17 pm17 cd17 ct17 : Value} {od17 an17 : Option Addr} {sl17 : Array (Option Value)}
    (a17 : PySem.W.findIn K (.ref c_Book) "word_at" = some (some (.ref f17)))
    (l17 : K.lookup f17 = some ⟨oc17, od17, .func (PySem.W.fnOf "word_at" "Book.word_at" (defArgs s_Book_word_at) (defBody s_Book_word_at) (defScope s_Book_word_at) .none kV17 dc17 pm17 an17 cd17 ct17), sl17⟩) (c17 : PySem.W.codeIn K cd17 "Book.word_at" = true) (k17 : PySem.W.keepIn K (.ref f17) = true)
    (i17 : PySem.W.isFn K (.ref f17) = true)
    {oc18 kV18 dc18 pm18 cd18 ct18 : Value} {od18 an18 : Option Addr} {sl18 : Array (Option Value)}
    (a18 : PySem.W.findIn K (.ref c_Book) "count_at" = some (some (.ref f18)))
    (l18 : K.lookup f18 = some ⟨oc18, od18, .func (PySem.W.fnOf "count_at" "Book.count_at" (defArgs s_Book_count_at) (defBody s_Book_count_at) (defScope s_Book_count_at) .none kV18 dc18 pm18 an18 cd18 ct18), sl18⟩) (c18 : PySem.W.codeIn K cd18 "Book.count_at" = true) (k18 : PySem.W.keepIn K (.ref f18) = true)
    (i18 : PySem.W.isFn K (.ref f18) = true)
    {oc19 kV19 dc19 pm19 cd19 ct19 : Value} {od19 an19 : Option Addr} {sl19 : Array (Option Value)}
    (a19 : PySem.W.findIn K (.ref c_Book) "ways_at" = some (some (.ref f19)))
    (l19 : K.lookup f19 = some ⟨oc19, od19, .func (PySem.W.fnOf "ways_at" "Book.ways_at" (defArgs s_Book_ways_at) (defBody s_Book_ways_at) (defScope s_Book_ways_at) .none kV19 dc19 pm19 an19 cd19 ct19), sl19⟩) (c19 : PySem.W.codeIn K cd19 "Book.ways_at" = true) (k19 : PySem.W.keepIn K (.ref f19) = true)
    (i19 : PySem.W.isFn K (.ref f19) = true)
    {oc20 kV20 dc20 pm20 cd20 ct20 : Value} {od20 an20 : Option Addr} {sl20 : Array (Option Value)}
    (a20 : PySem.W.findIn K (.ref c_Book) "product" = some (some (.ref f20)))
    (l20 : K.lookup f20 = some ⟨oc20, od20, .func (PySem.W.fnOf "product" "Book.product" (defArgs s_Book_product) (defBody s_Book_product) (defScope s_Book_product) .none kV20 dc20 pm20 an20 cd20 ct20), sl20⟩) (c20 : PySem.W.codeIn K cd20 "Book.product" = true) (k20 : PySem.W.keepIn K (.ref f20) = true)
    (i20 : PySem.W.isFn K (.ref f20) = true)
    {oc21 kV21 dc21 pm21 cd21 ct21 : Value} {od21 an21 : Option Addr} {sl21 : Array (Option Value)}
    (a21 : PySem.W.findIn K (.ref c_Book) "number_of" = some (some (.ref f21)))
    (l21 : K.lookup f21 = some ⟨oc21, od21, .func (PySem.W.fnOf "number_of" "Book.number_of" (defArgs s_Book_number_of) (defBody s_Book_number_of) (defScope s_Book_number_of) .none kV21 dc21 pm21 an21 cd21 ct21), sl21⟩) (c21 : PySem.W.codeIn K cd21 "Book.number_of" = true) (k21 : PySem.W.keepIn K (.ref f21) = true)
    (i21 : PySem.W.isFn K (.ref f21) = true)
    {oc22 kV22 dc22 pm22 cd22 ct22 : Value} {od22 an22 : Option Addr} {sl22 : Array (Option Value)}
    (a22 : PySem.W.nsIn K mainGlobals "like_books" = some (some (.ref f22)))
    (l22 : K.lookup f22 = some ⟨oc22, od22, .func (PySem.W.fnOf "like_books" "like_books" (defArgs s_like_books) (defBody s_like_books) (defScope s_like_books) .none kV22 dc22 pm22 an22 cd22 ct22), sl22⟩) (c22 : PySem.W.codeIn K cd22 "like_books" = true) (k22 : PySem.W.keepIn K (.ref f22) = true)
    {oc23 kV23 dc23 pm23 cd23 ct23 : Value} {od23 an23 : Option Addr} {sl23 : Array (Option Value)}
    (a23 : PySem.W.nsIn K mainGlobals "_is_extent" = some (some (.ref f23)))
    (l23 : K.lookup f23 = some ⟨oc23, od23, .func (PySem.W.fnOf "_is_extent" "_is_extent" (defArgs s_is_extent) (defBody s_is_extent) (defScope s_is_extent) .none kV23 dc23 pm23 an23 cd23 ct23), sl23⟩) (c23 : PySem.W.codeIn K cd23 "_is_extent" = true) (k23 : PySem.W.keepIn K (.ref f23) = true)
    {oc24 kV24 dc24 pm24 cd24 ct24 : Value} {od24 an24 : Option Addr} {sl24 : Array (Option Value)}
    (a24 : PySem.W.nsIn K mainGlobals "_kernel_fault" = some (some (.ref f24)))
    (l24 : K.lookup f24 = some ⟨oc24, od24, .func (PySem.W.fnOf "_kernel_fault" "_kernel_fault" (defArgs s_kernel_fault) (defBody s_kernel_fault) (defScope s_kernel_fault) .none kV24 dc24 pm24 an24 cd24 ct24), sl24⟩) (c24 : PySem.W.codeIn K cd24 "_kernel_fault" = true) (k24 : PySem.W.keepIn K (.ref f24) = true)
    {oc25 kV25 dc25 pm25 cd25 ct25 : Value} {od25 an25 : Option Addr} {sl25 : Array (Option Value)}
    (a25 : PySem.W.nsIn K mainGlobals "_layer_fault" = some (some (.ref f25)))
    (l25 : K.lookup f25 = some ⟨oc25, od25, .func (PySem.W.fnOf "_layer_fault" "_layer_fault" (defArgs s_layer_fault) (defBody s_layer_fault) (defScope s_layer_fault) .none kV25 dc25 pm25 an25 cd25 ct25), sl25⟩) (c25 : PySem.W.codeIn K cd25 "_layer_fault" = true) (k25 : PySem.W.keepIn K (.ref f25) = true)
    {oc26 kV26 dc26 pm26 cd26 ct26 : Value} {od26 an26 : Option Addr} {sl26 : Array (Option Value)}
    (a26 : PySem.W.nsIn K mainGlobals "_layer_of" = some (some (.ref f26)))
    (l26 : K.lookup f26 = some ⟨oc26, od26, .func (PySem.W.fnOf "_layer_of" "_layer_of" (defArgs s_layer_of) (defBody s_layer_of) (defScope s_layer_of) .none kV26 dc26 pm26 an26 cd26 ct26), sl26⟩) (c26 : PySem.W.codeIn K cd26 "_layer_of" = true) (k26 : PySem.W.keepIn K (.ref f26) = true)
    {oc27 kV27 dc27 pm27 cd27 ct27 : Value} {od27 an27 : Option Addr} {sl27 : Array (Option Value)}
    (a27 : PySem.W.nsIn K mainGlobals "read_book" = some (some (.ref f27)))
    (l27 : K.lookup f27 = some ⟨oc27, od27, .func (PySem.W.fnOf "read_book" "read_book" (defArgs s_read_book) (defBody s_read_book) (defScope s_read_book) .none kV27 dc27 pm27 an27 cd27 ct27), sl27⟩) (c27 : PySem.W.codeIn K cd27 "read_book" = true) (k27 : PySem.W.keepIn K (.ref f27) = true)
    {oc28 kV28 dc28 pm28 cd28 ct28 : Value} {od28 an28 : Option Addr} {sl28 : Array (Option Value)}
    (a28 : PySem.W.nsIn K mainGlobals "_extent_text" = some (some (.ref f28)))
    (l28 : K.lookup f28 = some ⟨oc28, od28, .func (PySem.W.fnOf "_extent_text" "_extent_text" (defArgs s_extent_text) (defBody s_extent_text) (defScope s_extent_text) .none kV28 dc28 pm28 an28 cd28 ct28), sl28⟩) (c28 : PySem.W.codeIn K cd28 "_extent_text" = true) (k28 : PySem.W.keepIn K (.ref f28) = true)
    {oc29 kV29 dc29 pm29 cd29 ct29 : Value} {od29 an29 : Option Addr} {sl29 : Array (Option Value)}
    (a29 : PySem.W.nsIn K mainGlobals "write_book" = some (some (.ref f29)))
    (l29 : K.lookup f29 = some ⟨oc29, od29, .func (PySem.W.fnOf "write_book" "write_book" (defArgs s_write_book) (defBody s_write_book) (defScope s_write_book) .none kV29 dc29 pm29 an29 cd29 ct29), sl29⟩) (c29 : PySem.W.codeIn K cd29 "write_book" = true) (k29 : PySem.W.keepIn K (.ref f29) = true)
    {oc30 kV30 dc30 pm30 cd30 ct30 : Value} {od30 an30 : Option Addr} {sl30 : Array (Option Value)}
    (a30 : PySem.W.nsIn K mainGlobals "_law_row" = some (some (.ref f30)))
    (l30 : K.lookup f30 = some ⟨oc30, od30, .func (PySem.W.fnOf "_law_row" "_law_row" (defArgs s_law_row) (defBody s_law_row) (defScope s_law_row) .none kV30 dc30 pm30 an30 cd30 ct30), sl30⟩) (c30 : PySem.W.codeIn K cd30 "_law_row" = true) (k30 : PySem.W.keepIn K (.ref f30) = true)
    {oc31 kV31 dc31 pm31 cd31 ct31 : Value} {od31 an31 : Option Addr} {sl31 : Array (Option Value)}
    (a31 : PySem.W.nsIn K mainGlobals "_law_is_integer" = some (some (.ref f31)))
    (l31 : K.lookup f31 = some ⟨oc31, od31, .func (PySem.W.fnOf "_law_is_integer" "_law_is_integer" (defArgs s_law_is_integer) (defBody s_law_is_integer) (defScope s_law_is_integer) .none kV31 dc31 pm31 an31 cd31 ct31), sl31⟩) (c31 : PySem.W.codeIn K cd31 "_law_is_integer" = true) (k31 : PySem.W.keepIn K (.ref f31) = true)
    {oc32 kV32 dc32 pm32 cd32 ct32 : Value} {od32 an32 : Option Addr} {sl32 : Array (Option Value)}
    (a32 : PySem.W.nsIn K mainGlobals "_law_name" = some (some (.ref f32)))
    (l32 : K.lookup f32 = some ⟨oc32, od32, .func (PySem.W.fnOf "_law_name" "_law_name" (defArgs s_law_name) (defBody s_law_name) (defScope s_law_name) .none kV32 dc32 pm32 an32 cd32 ct32), sl32⟩) (c32 : PySem.W.codeIn K cd32 "_law_name" = true) (k32 : PySem.W.keepIn K (.ref f32) = true)
    {oc33 kV33 dc33 pm33 cd33 ct33 : Value} {od33 an33 : Option Addr} {sl33 : Array (Option Value)}
    (a33 : PySem.W.nsIn K mainGlobals "_law_table" = some (some (.ref f33)))
    (l33 : K.lookup f33 = some ⟨oc33, od33, .func (PySem.W.fnOf "_law_table" "_law_table" (defArgs s_law_table) (defBody s_law_table) (defScope s_law_table) .none kV33 dc33 pm33 an33 cd33 ct33), sl33⟩) (c33 : PySem.W.codeIn K cd33 "_law_table" = true) (k33 : PySem.W.keepIn K (.ref f33) = true)
    {oc34 kV34 dc34 pm34 cd34 ct34 : Value} {od34 an34 : Option Addr} {sl34 : Array (Option Value)}
    (a34 : PySem.W.nsIn K mainGlobals "_law_layer" = some (some (.ref f34)))
    (l34 : K.lookup f34 = some ⟨oc34, od34, .func (PySem.W.fnOf "_law_layer" "_law_layer" (defArgs s_law_layer) (defBody s_law_layer) (defScope s_law_layer) .none kV34 dc34 pm34 an34 cd34 ct34), sl34⟩) (c34 : PySem.W.codeIn K cd34 "_law_layer" = true) (k34 : PySem.W.keepIn K (.ref f34) = true)
    {oc35 kV35 dc35 pm35 cd35 ct35 : Value} {od35 an35 : Option Addr} {sl35 : Array (Option Value)}
    (a35 : PySem.W.nsIn K mainGlobals "_law_monoid" = some (some (.ref f35)))
    (l35 : K.lookup f35 = some ⟨oc35, od35, .func (PySem.W.fnOf "_law_monoid" "_law_monoid" (defArgs s_law_monoid) (defBody s_law_monoid) (defScope s_law_monoid) .none kV35 dc35 pm35 an35 cd35 ct35), sl35⟩) (c35 : PySem.W.codeIn K cd35 "_law_monoid" = true) (k35 : PySem.W.keepIn K (.ref f35) = true)
    {oc36 kV36 dc36 pm36 cd36 ct36 : Value} {od36 an36 : Option Addr} {sl36 : Array (Option Value)}
    (a36 : PySem.W.nsIn K mainGlobals "_law_good" = some (some (.ref f36)))
    (l36 : K.lookup f36 = some ⟨oc36, od36, .func (PySem.W.fnOf "_law_good" "_law_good" (defArgs s_law_good) (defBody s_law_good) (defScope s_law_good) .none kV36 dc36 pm36 an36 cd36 ct36), sl36⟩) (c36 : PySem.W.codeIn K cd36 "_law_good" = true) (k36 : PySem.W.keepIn K (.ref f36) = true)
    {oc37 kV37 dc37 pm37 cd37 ct37 : Value} {od37 an37 : Option Addr} {sl37 : Array (Option Value)}
    (a37 : PySem.W.nsIn K mainGlobals "_law_due" = some (some (.ref f37)))
    (l37 : K.lookup f37 = some ⟨oc37, od37, .func (PySem.W.fnOf "_law_due" "_law_due" (defArgs s_law_due) (defBody s_law_due) (defScope s_law_due) .none kV37 dc37 pm37 an37 cd37 ct37), sl37⟩) (c37 : PySem.W.codeIn K cd37 "_law_due" = true) (k37 : PySem.W.keepIn K (.ref f37) = true)
    {oc38 kV38 dc38 pm38 cd38 ct38 : Value} {od38 an38 : Option Addr} {sl38 : Array (Option Value)}
    (a38 : PySem.W.nsIn K mainGlobals "_law_lines" = some (some (.ref f38)))
    (l38 : K.lookup f38 = some ⟨oc38, od38, .func (PySem.W.fnOf "_law_lines" "_law_lines" (defArgs s_law_lines) (defBody s_law_lines) (defScope s_law_lines) .none kV38 dc38 pm38 an38 cd38 ct38), sl38⟩) (c38 : PySem.W.codeIn K cd38 "_law_lines" = true) (k38 : PySem.W.keepIn K (.ref f38) = true)
    {oc39 kV39 dc39 pm39 cd39 ct39 : Value} {od39 an39 : Option Addr} {sl39 : Array (Option Value)}
    (a39 : PySem.W.nsIn K mainGlobals "_law_book_is" = some (some (.ref f39)))
    (l39 : K.lookup f39 = some ⟨oc39, od39, .func (PySem.W.fnOf "_law_book_is" "_law_book_is" (defArgs s_law_book_is) (defBody s_law_book_is) (defScope s_law_book_is) .none kV39 dc39 pm39 an39 cd39 ct39), sl39⟩) (c39 : PySem.W.codeIn K cd39 "_law_book_is" = true) (k39 : PySem.W.keepIn K (.ref f39) = true)
    {oc40 kV40 dc40 pm40 cd40 ct40 : Value} {od40 an40 : Option Addr} {sl40 : Array (Option Value)}
    (a40 : PySem.W.nsIn K mainGlobals "_law_fault" = some (some (.ref f40)))
    (l40 : K.lookup f40 = some ⟨oc40, od40, .func (PySem.W.fnOf "_law_fault" "_law_fault" (defArgs s_law_fault) (defBody s_law_fault) (defScope s_law_fault) .none kV40 dc40 pm40 an40 cd40 ct40), sl40⟩) (c40 : PySem.W.codeIn K cd40 "_law_fault" = true) (k40 : PySem.W.keepIn K (.ref f40) = true)
    {oc41 kV41 dc41 pm41 cd41 ct41 : Value} {od41 an41 : Option Addr} {sl41 : Array (Option Value)}
    (a41 : PySem.W.nsIn K mainGlobals "_law_refused" = some (some (.ref f41)))
    (l41 : K.lookup f41 = some ⟨oc41, od41, .func (PySem.W.fnOf "_law_refused" "_law_refused" (defArgs s_law_refused) (defBody s_law_refused) (defScope s_law_refused) .none kV41 dc41 pm41 an41 cd41 ct41), sl41⟩) (c41 : PySem.W.codeIn K cd41 "_law_refused" = true) (k41 : PySem.W.keepIn K (.ref f41) = true)
    {oc42 kV42 dc42 pm42 cd42 ct42 : Value} {od42 an42 : Option Addr} {sl42 : Array (Option Value)}
    (a42 : PySem.W.nsIn K mainGlobals "_law_spoilt" = some (some (.ref f42)))
    (l42 : K.lookup f42 = some ⟨oc42, od42, .func (PySem.W.fnOf "_law_spoilt" "_law_spoilt" (defArgs s_law_spoilt) (defBody s_law_spoilt) (defScope s_law_spoilt) .none kV42 dc42 pm42 an42 cd42 ct42), sl42⟩) (c42 : PySem.W.codeIn K cd42 "_law_spoilt" = true) (k42 : PySem.W.keepIn K (.ref f42) = true)
    {oc43 kV43 dc43 pm43 cd43 ct43 : Value} {od43 an43 : Option Addr} {sl43 : Array (Option Value)}
    (a43 : PySem.W.nsIn K mainGlobals "law" = some (some (.ref f43)))
    (l43 : K.lookup f43 = some ⟨oc43, od43, .func (PySem.W.fnOf "law" "law" (defArgs s_law) (defBody s_law) (defScope s_law) .none kV43 dc43 pm43 an43 cd43 ct43), sl43⟩) (c43 : PySem.W.codeIn K cd43 "law" = true) (k43 : PySem.W.keepIn K (.ref f43) = true)
    (z_ValueError : PySem.W.nsIn K mainGlobals "ValueError" = some none)
    (z_bool : PySem.W.nsIn K mainGlobals "bool" = some none)
    (z_enumerate : PySem.W.nsIn K mainGlobals "enumerate" = some none)
    (z_int : PySem.W.nsIn K mainGlobals "int" = some none)
    (z_isinstance : PySem.W.nsIn K mainGlobals "isinstance" = some none)
    (z_len : PySem.W.nsIn K mainGlobals "len" = some none)
    (z_list : PySem.W.nsIn K mainGlobals "list" = some none)
    (z_map : PySem.W.nsIn K mainGlobals "map" = some none)
    (z_max : PySem.W.nsIn K mainGlobals "max" = some none)
    (z_min : PySem.W.nsIn K mainGlobals "min" = some none)
    (z_range : PySem.W.nsIn K mainGlobals "range" = some none)
    (z_str : PySem.W.nsIn K mainGlobals "str" = some none)
    (z_tuple : PySem.W.nsIn K mainGlobals "tuple" = some none)
    {t_MOST_LAYERS : Tok} (g_MOST_LAYERS : PySem.W.nsIn K mainGlobals "MOST_LAYERS" = some (some (.int 5 t_MOST_LAYERS)))
    {t_MOST_STATES : Tok} (g_MOST_STATES : PySem.W.nsIn K mainGlobals "MOST_STATES" = some (some (.int 12 t_MOST_STATES)))
    {od_LAYER_WORDS : Option Addr} {its_LAYER_WORDS : Array Value} {n_LAYER_WORDS : Nat} {sl_LAYER_WORDS : Array (Option Value)}
    (g_LAYER_WORDS : PySem.W.nsIn K mainGlobals "LAYER_WORDS" = some (some (.ref k_LAYER_WORDS))) (lk_LAYER_WORDS : K.lookup k_LAYER_WORDS = some ⟨.type "tuple", od_LAYER_WORDS, .seq its_LAYER_WORDS n_LAYER_WORDS, sl_LAYER_WORDS⟩) (zz_LAYER_WORDS : its_LAYER_WORDS.size ≤ sizeLine) (vv_LAYER_WORDS : Vals ((["cell", "setting", "note", "fail", "outside"] : List Str).map V.str) its_LAYER_WORDS.toList)
    {es_KERNELS : Array DictEntry} {n_KERNELS : Nat} {t_KERNELS_0 : Addr} {od_KERNELS_0 : Option Addr} {ts_KERNELS_0 : Array Value} {tn_KERNELS_0 : Nat} {sl_KERNELS_0 : Array (Option Value)} {t_KERNELS_1 : Addr} {od_KERNELS_1 : Option Addr} {ts_KERNELS_1 : Array Value} {tn_KERNELS_1 : Nat} {sl_KERNELS_1 : Array (Option Value)} {t_KERNELS_2 : Addr} {od_KERNELS_2 : Option Addr} {ts_KERNELS_2 : Array Value} {tn_KERNELS_2 : Nat} {sl_KERNELS_2 : Array (Option Value)} {t_KERNELS_3 : Addr} {od_KERNELS_3 : Option Addr} {ts_KERNELS_3 : Array Value} {tn_KERNELS_3 : Nat} {sl_KERNELS_3 : Array (Option Value)} {t_KERNELS_4 : Addr} {od_KERNELS_4 : Option Addr} {ts_KERNELS_4 : Array Value} {tn_KERNELS_4 : Nat} {sl_KERNELS_4 : Array (Option Value)} {t_KERNELS_5 : Addr} {od_KERNELS_5 : Option Addr} {ts_KERNELS_5 : Array Value} {tn_KERNELS_5 : Nat} {sl_KERNELS_5 : Array (Option Value)} {t_KERNELS_6 : Addr} {od_KERNELS_6 : Option Addr} {ts_KERNELS_6 : Array Value} {tn_KERNELS_6 : Nat} {sl_KERNELS_6 : Array (Option Value)}
    (g_KERNELS : PySem.W.nsIn K mainGlobals "KERNELS" = some (some (.ref k_KERNELS))) (lk_KERNELS : K.lookup k_KERNELS = some ⟨.type "dict", none, .dict es_KERNELS n_KERNELS, #[]⟩) (kl_KERNELS : PySem.W.KeysLit w.params es_KERNELS.toList) (lw_KERNELS : (k_KERNELS == sysModules) = false)
    (nk_KERNELS_0 : PySem.W.nsIn K k_KERNELS "none" = some (some (.ref t_KERNELS_0)))
    (nk_KERNELS_1 : PySem.W.nsIn K k_KERNELS "choose" = some (some (.ref t_KERNELS_1)))
    (nk_KERNELS_2 : PySem.W.nsIn K k_KERNELS "draw" = some (some (.ref t_KERNELS_2)))
    (nk_KERNELS_3 : PySem.W.nsIn K k_KERNELS "spread" = some (some (.ref t_KERNELS_3)))
    (nk_KERNELS_4 : PySem.W.nsIn K k_KERNELS "twochoose" = some (some (.ref t_KERNELS_4)))
    (nk_KERNELS_5 : PySem.W.nsIn K k_KERNELS "twodraw" = some (some (.ref t_KERNELS_5)))
    (nk_KERNELS_6 : PySem.W.nsIn K k_KERNELS "mixed" = some (some (.ref t_KERNELS_6)))
    (no_KERNELS_0 : PySem.W.nsIn K k_KERNELS "chance" = some none)
    (no_KERNELS_1 : PySem.W.nsIn K k_KERNELS "A" = some none)
    (lt_KERNELS_0 : K.lookup t_KERNELS_0 = some ⟨.type "tuple", od_KERNELS_0, .seq ts_KERNELS_0 tn_KERNELS_0, sl_KERNELS_0⟩) (zt_KERNELS_0 : ts_KERNELS_0.size ≤ sizeLine) (vt_KERNELS_0 : Vals (([0, 0] : List Int).map V.int) ts_KERNELS_0.toList)
    (lt_KERNELS_1 : K.lookup t_KERNELS_1 = some ⟨.type "tuple", od_KERNELS_1, .seq ts_KERNELS_1 tn_KERNELS_1, sl_KERNELS_1⟩) (zt_KERNELS_1 : ts_KERNELS_1.size ≤ sizeLine) (vt_KERNELS_1 : Vals (([1, 0] : List Int).map V.int) ts_KERNELS_1.toList)
    (lt_KERNELS_2 : K.lookup t_KERNELS_2 = some ⟨.type "tuple", od_KERNELS_2, .seq ts_KERNELS_2 tn_KERNELS_2, sl_KERNELS_2⟩) (zt_KERNELS_2 : ts_KERNELS_2.size ≤ sizeLine) (vt_KERNELS_2 : Vals (([0, 1] : List Int).map V.int) ts_KERNELS_2.toList)
    (lt_KERNELS_3 : K.lookup t_KERNELS_3 = some ⟨.type "tuple", od_KERNELS_3, .seq ts_KERNELS_3 tn_KERNELS_3, sl_KERNELS_3⟩) (zt_KERNELS_3 : ts_KERNELS_3.size ≤ sizeLine) (vt_KERNELS_3 : Vals (([1, 1] : List Int).map V.int) ts_KERNELS_3.toList)
    (lt_KERNELS_4 : K.lookup t_KERNELS_4 = some ⟨.type "tuple", od_KERNELS_4, .seq ts_KERNELS_4 tn_KERNELS_4, sl_KERNELS_4⟩) (zt_KERNELS_4 : ts_KERNELS_4.size ≤ sizeLine) (vt_KERNELS_4 : Vals (([2, 0] : List Int).map V.int) ts_KERNELS_4.toList)
    (lt_KERNELS_5 : K.lookup t_KERNELS_5 = some ⟨.type "tuple", od_KERNELS_5, .seq ts_KERNELS_5 tn_KERNELS_5, sl_KERNELS_5⟩) (zt_KERNELS_5 : ts_KERNELS_5.size ≤ sizeLine) (vt_KERNELS_5 : Vals (([0, 2] : List Int).map V.int) ts_KERNELS_5.toList)
    (lt_KERNELS_6 : K.lookup t_KERNELS_6 = some ⟨.type "tuple", od_KERNELS_6, .seq ts_KERNELS_6 tn_KERNELS_6, sl_KERNELS_6⟩) (zt_KERNELS_6 : ts_KERNELS_6.size ≤ sizeLine) (vt_KERNELS_6 : Vals (([1, 1] : List Int).map V.int) ts_KERNELS_6.toList) :
    ∃ fd : FuncData, (∀ (s : Shared) (v : Value), BindsTo s fd ⟨[v], []⟩ [("_law_script", v)]) ∧ ∀ base : Heap, K.In base → base.Ns mainGlobals mg → FnOk l.prog w K mg base CX0 9 fa fd ["_law_script"] (spOf K lawSp) := by
  have e := hfa.symm.trans (PySem.W.mg_of X G a43)
  cases e
  have F0 := fun_mk (st := s_TextError_init) l0 c0 k0
  have b0 := F0.binds (ps := ["self", "line", "token"]) fun _ _ _ _ _ _ us hl => match us, hl with | [_, _, _], _ => rfl
  have F1 := fun_mk (st := s_BookError_init) l1 c1 k1
  have b1 := F1.binds (ps := ["self", "layer"]) fun _ _ _ _ _ _ us hl => match us, hl with | [_, _], _ => rfl
  have F2 := fun_mk (st := s_token_begin) l2 c2 k2
  have b2 := F2.binds (ps := ["line", "place", "found"]) fun _ _ _ _ _ _ us hl => match us, hl with | [_, _, _], _ => rfl
  have F3 := fun_mk (st := s_token_end) l3 c3 k3
  have b3 := F3.binds (ps := ["line", "begin"]) fun _ _ _ _ _ _ us hl => match us, hl with | [_, _], _ => rfl
  have F4 := fun_mk (st := s_tokens_of) l4 c4 k4
  have b4 := F4.binds (ps := ["line", "number"]) fun _ _ _ _ _ _ us hl => match us, hl with | [_, _], _ => rfl
  have F5 := fun_mk (st := s_is_digits) l5 c5 k5
  have b5 := F5.binds (ps := ["token"]) fun _ _ _ _ _ _ us hl => match us, hl with | [_], _ => rfl
  have F6 := fun_mk (st := s_whole_in) l6 c6 k6
  have b6 := F6.binds (ps := ["token", "most"]) fun _ _ _ _ _ _ us hl => match us, hl with | [_, _], _ => rfl
  have F7 := fun_mk (st := s_number_in) l7 c7 k7
  have b7 := F7.binds (ps := ["token"]) fun _ _ _ _ _ _ us hl => match us, hl with | [_], _ => rfl
  have F8 := fun_mk (st := s_is_name) l8 c8 k8
  have b8 := F8.binds (ps := ["token"]) fun _ _ _ _ _ _ us hl => match us, hl with | [_], _ => rfl
  have F9 := fun_mk (st := s_choices) l9 c9 k9
  have b9 := F9.binds (ps := ["kernel"]) fun _ _ _ _ _ _ us hl => match us, hl with | [_], _ => rfl
  have F10 := fun_mk (st := s_draws) l10 c10 k10
  have b10 := F10.binds (ps := ["kernel"]) fun _ _ _ _ _ _ us hl => match us, hl with | [_], _ => rfl
  have F11 := fun_mk (st := s_is_associative) l11 c11 k11
  have b11 := F11.binds (ps := ["table"]) fun _ _ _ _ _ _ us hl => match us, hl with | [_], _ => rfl
  have F12 := fun_mk (st := s_is_square) l12 c12 k12
  have b12 := F12.binds (ps := ["table"]) fun _ _ _ _ _ _ us hl => match us, hl with | [_], _ => rfl
  have F13 := fun_mk (st := s_is_monoid) l13 c13 k13
  have b13 := F13.binds (ps := ["table"]) fun _ _ _ _ _ _ us hl => match us, hl with | [_], _ => rfl
  have F14 := fun_mk (st := s_is_layer) l14 c14 k14
  have b14 := F14.binds (ps := ["layer"]) fun _ _ _ _ _ _ us hl => match us, hl with | [_], _ => rfl
  have F15 := fun_mk (st := s_states_of) l15 c15 k15
  have b15 := F15.binds (ps := ["layers"]) fun _ _ _ _ _ _ us hl => match us, hl with | [_], _ => rfl
  have F16 := fun_mk (st := s_Book_init) l16 c16 k16
  have b16 := F16.binds (ps := ["self", "kernel", "layers"]) fun _ _ _ _ _ _ us hl => match us, hl with | [_, _, _], _ => rfl
  have F17 := fun_mk (st := s_Book_word_at) l17 c17 k17
  have b17 := F17.binds (ps := ["self", "layer"]) fun _ _ _ _ _ _ us hl => match us, hl with | [_, _], _ => rfl
  have F18 := fun_mk (st := s_Book_count_at) l18 c18 k18
  have b18 := F18.binds (ps := ["self", "layer"]) fun _ _ _ _ _ _ us hl => match us, hl with | [_, _], _ => rfl
  have F19 := fun_mk (st := s_Book_ways_at) l19 c19 k19
  have b19 := F19.binds (ps := ["self", "layer", "deed"]) fun _ _ _ _ _ _ us hl => match us, hl with | [_, _, _], _ => rfl
  have F20 := fun_mk (st := s_Book_product) l20 c20 k20
  have b20 := F20.binds (ps := ["self", "layer", "first", "second"]) fun _ _ _ _ _ _ us hl => match us, hl with | [_, _, _, _], _ => rfl
  have F21 := fun_mk (st := s_Book_number_of) l21 c21 k21
  have b21 := F21.binds (ps := ["self", "name"]) fun _ _ _ _ _ _ us hl => match us, hl with | [_, _], _ => rfl
  have F22 := fun_mk (st := s_like_books) l22 c22 k22
  have b22 := F22.binds (ps := ["one", "other"]) fun _ _ _ _ _ _ us hl => match us, hl with | [_, _], _ => rfl
  have F23 := fun_mk (st := s_is_extent) l23 c23 k23
  have b23 := F23.binds (ps := ["word", "token"]) fun _ _ _ _ _ _ us hl => match us, hl with | [_, _], _ => rfl
  have F24 := fun_mk (st := s_kernel_fault) l24 c24 k24
  have b24 := F24.binds (ps := ["tokens"]) fun _ _ _ _ _ _ us hl => match us, hl with | [_], _ => rfl
  have F25 := fun_mk (st := s_layer_fault) l25 c25 k25
  have b25 := F25.binds (ps := ["tokens"]) fun _ _ _ _ _ _ us hl => match us, hl with | [_], _ => rfl
  have F26 := fun_mk (st := s_layer_of) l26 c26 k26
  have b26 := F26.binds (ps := ["tokens"]) fun _ _ _ _ _ _ us hl => match us, hl with | [_], _ => rfl
  have F27 := fun_mk (st := s_read_book) l27 c27 k27
  have b27 := F27.binds (ps := ["text"]) fun _ _ _ _ _ _ us hl => match us, hl with | [_], _ => rfl
  have F28 := fun_mk (st := s_extent_text) l28 c28 k28
  have b28 := F28.binds (ps := ["word", "extent"]) fun _ _ _ _ _ _ us hl => match us, hl with | [_, _], _ => rfl
  have F29 := fun_mk (st := s_write_book) l29 c29 k29
  have b29 := F29.binds (ps := ["book"]) fun _ _ _ _ _ _ us hl => match us, hl with | [_], _ => rfl
  have F30 := fun_mk (st := s_law_row) l30 c30 k30
  have b30 := F30.binds (ps := ["_law_script", "_law_k", "_law_count"]) fun _ _ _ _ _ _ us hl => match us, hl with | [_, _, _], _ => rfl
  have F31 := fun_mk (st := s_law_is_integer) l31 c31 k31
  have b31 := F31.binds (ps := ["_law_actual"]) fun _ _ _ _ _ _ us hl => match us, hl with | [_], _ => rfl
  have F32 := fun_mk (st := s_law_name) l32 c32 k32
  have b32 := F32.binds (ps := ["_law_a", "_law_b", "_law_c"]) fun _ _ _ _ _ _ us hl => match us, hl with | [_, _, _], _ => rfl
  have F33 := fun_mk (st := s_law_table) l33 c33 k33
  have b33 := F33.binds (ps := ["_law_a", "_law_b"]) fun _ _ _ _ _ _ us hl => match us, hl with | [_, _], _ => rfl
  have F34 := fun_mk (st := s_law_layer) l34 c34 k34
  have b34 := F34.binds (ps := ["_law_row_here", "_law_before"]) fun _ _ _ _ _ _ us hl => match us, hl with | [_, _], _ => rfl
  have F35 := fun_mk (st := s_law_monoid) l35 c35 k35
  have b35 := F35.binds (ps := ["_law_table_here"]) fun _ _ _ _ _ _ us hl => match us, hl with | [_], _ => rfl
  have F36 := fun_mk (st := s_law_good) l36 c36 k36
  have b36 := F36.binds (ps := ["_law_layer_here"]) fun _ _ _ _ _ _ us hl => match us, hl with | [_], _ => rfl
  have F37 := fun_mk (st := s_law_due) l37 c37 k37
  have b37 := F37.binds (ps := ["_law_kernel", "_law_layers"]) fun _ _ _ _ _ _ us hl => match us, hl with | [_, _], _ => rfl
  have F38 := fun_mk (st := s_law_lines) l38 c38 k38
  have b38 := F38.binds (ps := ["_law_kernel", "_law_layers"]) fun _ _ _ _ _ _ us hl => match us, hl with | [_, _], _ => rfl
  have F39 := fun_mk (st := s_law_book_is) l39 c39 k39
  have b39 := F39.binds (ps := ["_law_book", "_law_kernel", "_law_layers"]) fun _ _ _ _ _ _ us hl => match us, hl with | [_, _, _], _ => rfl
  have F40 := fun_mk (st := s_law_fault) l40 c40 k40
  have b40 := F40.binds (ps := ["_law_text", "_law_line", "_law_token"]) fun _ _ _ _ _ _ us hl => match us, hl with | [_, _, _], _ => rfl
  have F41 := fun_mk (st := s_law_refused) l41 c41 k41
  have b41 := F41.binds (ps := ["_law_kernel", "_law_layers", "_law_text", "_law_due_here"]) fun _ _ _ _ _ _ us hl => match us, hl with | [_, _, _, _], _ => rfl
  have F42 := fun_mk (st := s_law_spoilt) l42 c42 k42
  have b42 := F42.binds (ps := ["_law_lines_here", "_law_text", "_law_row_here"]) fun _ _ _ _ _ _ us hl => match us, hl with | [_, _, _], _ => rfl
  have F43 := fun_mk (st := s_law) l43 c43 k43
  have b43 := F43.binds (ps := ["_law_script"]) fun _ _ _ _ _ _ us hl => match us, hl with | [_], _ => rfl
  have cat_BookError : ∀ C b, (C, b) ∈ [(c_TextError, false), (c_BookError, true)] → PySem.W.exmOne K (.ref C) (.ref c_BookError) = some b := by
    intro C b h
    simp only [List.mem_cons, List.not_mem_nil, or_false, Prod.mk.injEq] at h
    rcases h with ⟨rfl, rfl⟩ | ⟨rfl, rfl⟩
    · exact PySem.W.exm_ref eC_BookError hC_BookError tC_BookError s_TextError_BookError
    · exact PySem.W.exm_ref eC_BookError hC_BookError tC_BookError s_BookError_BookError
  have cat_DeedsError : ∀ C b, (C, b) ∈ [(c_TextError, true), (c_BookError, true)] → PySem.W.exmOne K (.ref C) (.ref c_DeedsError) = some b := by
    intro C b h
    simp only [List.mem_cons, List.not_mem_nil, or_false, Prod.mk.injEq] at h
    rcases h with ⟨rfl, rfl⟩ | ⟨rfl, rfl⟩
    · exact PySem.W.exm_ref eC_DeedsError hC_DeedsError tC_DeedsError s_TextError_DeedsError
    · exact PySem.W.exm_ref eC_DeedsError hC_DeedsError tC_DeedsError s_BookError_DeedsError
  have cat_TextError : ∀ C b, (C, b) ∈ [(c_TextError, true), (c_BookError, false)] → PySem.W.exmOne K (.ref C) (.ref c_TextError) = some b := by
    intro C b h
    simp only [List.mem_cons, List.not_mem_nil, or_false, Prod.mk.injEq] at h
    rcases h with ⟨rfl, rfl⟩ | ⟨rfl, rfl⟩
    · exact PySem.W.exm_ref eC_TextError hC_TextError tC_TextError s_TextError_TextError
    · exact PySem.W.exm_ref eC_TextError hC_TextError tC_TextError s_BookError_TextError
  have nk_KERNELS : ∀ z ∈ (["none", "choose", "draw", "spread", "twochoose", "twodraw", "mixed"] : List Str), ∃ u, PySem.W.nsIn K k_KERNELS z = some (some u) := by
    intro z hz
    simp only [List.mem_cons, List.not_mem_nil, or_false] at hz
    rcases hz with rfl | rfl | rfl | rfl | rfl | rfl | rfl
    · exact ⟨_, nk_KERNELS_0⟩
    · exact ⟨_, nk_KERNELS_1⟩
    · exact ⟨_, nk_KERNELS_2⟩
    · exact ⟨_, nk_KERNELS_3⟩
    · exact ⟨_, nk_KERNELS_4⟩
    · exact ⟨_, nk_KERNELS_5⟩
    · exact ⟨_, nk_KERNELS_6⟩
  have no_KERNELS : ∀ z ∈ (["chance", "A"] : List Str), PySem.W.nsIn K k_KERNELS z = some none := by
    intro z hz
    simp only [List.mem_cons, List.not_mem_nil, or_false] at hz
    rcases hz with rfl | rfl
    · exact no_KERNELS_0
    · exact no_KERNELS_1
  have it_KERNELS : ∀ z dd, ([("none", .tup (([0, 0] : List Int).map .int)), ("choose", .tup (([1, 0] : List Int).map .int)), ("draw", .tup (([0, 1] : List Int).map .int)), ("spread", .tup (([1, 1] : List Int).map .int)), ("twochoose", .tup (([2, 0] : List Int).map .int)), ("twodraw", .tup (([0, 2] : List Int).map .int)), ("mixed", .tup (([1, 1] : List Int).map .int))] : List (Str × D)).lookup z = some dd → ∃ (u : Value) (v : V), PySem.W.nsIn K k_KERNELS z = some (some u) ∧ RelV v u ∧ ∀ F, Rp K F dd v := by
    intro z dd h
    have hz : z ∈ (["none", "choose", "draw", "spread", "twochoose", "twodraw", "mixed"] : List Str) := lookup_mem h
    simp only [List.mem_cons, List.not_mem_nil, or_false] at hz
    rcases hz with rfl | rfl | rfl | rfl | rfl | rfl | rfl
    · cases h; exact ⟨_, .ref t_KERNELS_0, nk_KERNELS_0, rfl, fun F => rp_intsK lt_KERNELS_0 rfl rfl zt_KERNELS_0 vt_KERNELS_0⟩
    · cases h; exact ⟨_, .ref t_KERNELS_1, nk_KERNELS_1, rfl, fun F => rp_intsK lt_KERNELS_1 rfl rfl zt_KERNELS_1 vt_KERNELS_1⟩
    · cases h; exact ⟨_, .ref t_KERNELS_2, nk_KERNELS_2, rfl, fun F => rp_intsK lt_KERNELS_2 rfl rfl zt_KERNELS_2 vt_KERNELS_2⟩
    · cases h; exact ⟨_, .ref t_KERNELS_3, nk_KERNELS_3, rfl, fun F => rp_intsK lt_KERNELS_3 rfl rfl zt_KERNELS_3 vt_KERNELS_3⟩
    · cases h; exact ⟨_, .ref t_KERNELS_4, nk_KERNELS_4, rfl, fun F => rp_intsK lt_KERNELS_4 rfl rfl zt_KERNELS_4 vt_KERNELS_4⟩
    · cases h; exact ⟨_, .ref t_KERNELS_5, nk_KERNELS_5, rfl, fun F => rp_intsK lt_KERNELS_5 rfl rfl zt_KERNELS_5 vt_KERNELS_5⟩
    · cases h; exact ⟨_, .ref t_KERNELS_6, nk_KERNELS_6, rfl, fun F => rp_intsK lt_KERNELS_6 rfl rfl zt_KERNELS_6 vt_KERNELS_6⟩
  exact ⟨_, fun s v => .of_eq rfl, fun base _ _ => ok_law (T := (⟨_, _, F0, b0, t0, _, _, F1, b1, t1, _, _, F2, b2, PySem.W.mg_of X G a2, _, _, F3, b3, PySem.W.mg_of X G a3, _, _, F4, b4, PySem.W.mg_of X G a4, _, _, F5, b5, PySem.W.mg_of X G a5, _, _, F6, b6, PySem.W.mg_of X G a6, _, _, F7, b7, PySem.W.mg_of X G a7, _, _, F8, b8, PySem.W.mg_of X G a8, _, _, F9, b9, PySem.W.mg_of X G a9, _, _, F10, b10, PySem.W.mg_of X G a10, _, _, F11, b11, PySem.W.mg_of X G a11, _, _, F12, b12, PySem.W.mg_of X G a12, _, _, F13, b13, PySem.W.mg_of X G a13, _, _, F14, b14, PySem.W.mg_of X G a14, _, _, F15, b15, PySem.W.mg_of X G a15, _, _, F16, b16, ⟨mk_Book, a16, i16, kc_Book⟩, _, _, F17, b17, ⟨a17, i17, k17⟩, _, _, F18, b18, ⟨a18, i18, k18⟩, _, _, F19, b19, ⟨a19, i19, k19⟩, _, _, F20, b20, ⟨a20, i20, k20⟩, _, _, F21, b21, ⟨a21, i21, k21⟩, _, _, F22, b22, PySem.W.mg_of X G a22, _, _, F23, b23, PySem.W.mg_of X G a23, _, _, F24, b24, PySem.W.mg_of X G a24, _, _, F25, b25, PySem.W.mg_of X G a25, _, _, F26, b26, PySem.W.mg_of X G a26, _, _, F27, b27, PySem.W.mg_of X G a27, _, _, F28, b28, PySem.W.mg_of X G a28, _, _, F29, b29, PySem.W.mg_of X G a29, _, _, F30, b30, PySem.W.mg_of X G a30, _, _, F31, b31, PySem.W.mg_of X G a31, _, _, F32, b32, PySem.W.mg_of X G a32, _, _, F33, b33, PySem.W.mg_of X G a33, _, _, F34, b34, PySem.W.mg_of X G a34, _, _, F35, b35, PySem.W.mg_of X G a35, _, _, F36, b36, PySem.W.mg_of X G a36, _, _, F37, b37, PySem.W.mg_of X G a37, _, _, F38, b38, PySem.W.mg_of X G a38, _, _, F39, b39, PySem.W.mg_of X G a39, _, _, F40, b40, PySem.W.mg_of X G a40, _, _, F41, b41, PySem.W.mg_of X G a41, _, _, F42, b42, PySem.W.mg_of X G a42, _, _, F43, b43, PySem.W.mg_of X G a43, PySem.W.mg_of X G m_DeedsError, PySem.W.mg_of X G m_TextError, ⟨⟨nm_TextError, q_TextError, N_TextError, bs_TextError, _, sn_TextError, sub_TextError, ab_TextError, col_TextError, dd_TextError, k0_TextError, k1_TextError, k2_TextError, k3_TextError, k5_TextError, xL_TextError, rfl⟩, sa_TextError, eC_TextError, tC_TextError, kc_TextError⟩, a0, ⟨ga_TextError, gg_TextError, eC_TextError, hC_TextError⟩, n_TextError_line, n_TextError_token, PySem.W.mg_of X G m_BookError, ⟨⟨nm_BookError, q_BookError, N_BookError, bs_BookError, _, sn_BookError, sub_BookError, ab_BookError, col_BookError, dd_BookError, k0_BookError, k1_BookError, k2_BookError, k3_BookError, k5_BookError, xL_BookError, rfl⟩, sa_BookError, eC_BookError, tC_BookError, kc_BookError⟩, a1, ⟨ga_BookError, gg_BookError, eC_BookError, hC_BookError⟩, n_BookError_layer, PySem.W.mg_of X G m_Book, ⟨pg_Book, hd_Book, po_Book, sa_Book⟩, n_Book_kernel, n_Book_layers, n_Book_numbers, n_Book_size, cat_BookError, cat_DeedsError, cat_TextError, ⟨ga_TextError, gg_TextError, eC_TextError, hC_TextError, xa_TextError, xn_TextError, xt_TextError, xm_TextError⟩, kitB_true (by decide +kernel) sb_TextError_ValueError, kit_true hC_DeedsError tC_DeedsError s_TextError_DeedsError, PySem.W.mg_none_of X G z_ValueError, PySem.W.mg_none_of X G z_bool, PySem.W.mg_none_of X G z_enumerate, PySem.W.mg_none_of X G z_int, PySem.W.mg_none_of X G z_isinstance, PySem.W.mg_none_of X G z_len, PySem.W.mg_none_of X G z_list, PySem.W.mg_none_of X G z_map, PySem.W.mg_none_of X G z_max, PySem.W.mg_none_of X G z_min, PySem.W.mg_none_of X G z_range, PySem.W.mg_none_of X G z_str, PySem.W.mg_none_of X G z_tuple, ⟨t_MOST_LAYERS, PySem.W.mg_of X G g_MOST_LAYERS⟩, ⟨t_MOST_STATES, PySem.W.mg_of X G g_MOST_STATES⟩, _, PySem.W.mg_of X G g_LAYER_WORDS, (fun F => rp_strs lk_LAYER_WORDS rfl rfl zz_LAYER_WORDS vv_LAYER_WORDS), _, _, _, PySem.W.mg_of X G g_KERNELS, ⟨lk_KERNELS, kl_KERNELS, lw_KERNELS⟩, nk_KERNELS, no_KERNELS, it_KERNELS⟩ : Txt K mg w ⟨c_DeedsError, c_TextError, c_BookError, c_Book⟩))⟩
end My
open PySem PySem.W PyProof.Rows
set_option maxHeartbeats 0 in
theorem PySem.Challenge.cw_besideandthrough_k00_book_texts_holds : PySem.Challenge.rw_besideandthrough_k00_book_texts.Holds := by
  w_on; o_law; k_head; (case hw => w_witness2)
  k_fill
  refine L2.walk_of (l := PySem.Challenge.rw_besideandthrough_k00_book_texts) (n := 63) (k := 9) (x := "_law_script") (CX := fun _ => L2.CX0) (sp := fun w => DL.spOf _ DL.lawSp) rfl (by decide) rfl ⟨rfl, by decide, by decide⟩ (fun w h Y => PySem.W.kIn_of Y) ?F (fun _ _ a ns hl _ hS => DL.law_start hl hS) (fun _ _ _ _ _ h => h)
  case F =>
    intro w mg fa h KX G hmg
    refine' My.all_mk KX G hmg ?m_DeedsError ?kc_DeedsError ?m_TextError ?kc_TextError ?xL_TextError ?sa_TextError ?ga_TextError ?gg_TextError ?eC_TextError ?tC_TextError ?hC_TextError ?n_TextError_line ?n_TextError_token ?m_BookError ?kc_BookError ?xL_BookError ?sa_BookError ?ga_BookError ?gg_BookError ?eC_BookError ?tC_BookError ?hC_BookError ?n_BookError_layer ?m_Book ?kc_Book ?pg_Book ?hd_Book ?po_Book ?sa_Book ?n_Book_kernel ?n_Book_layers ?n_Book_numbers ?n_Book_size ?s_TextError_BookError ?s_BookError_BookError ?eC_DeedsError ?tC_DeedsError ?hC_DeedsError ?s_TextError_DeedsError ?s_BookError_DeedsError ?s_TextError_TextError ?s_BookError_TextError ?xa_TextError ?xm_TextError ?xn_TextError ?xt_TextError ?sb_TextError_ValueError ?a0 ?l0 ?c0 ?k0 ?t0 ?a1 ?l1 ?c1 ?k1 ?t1 ?a2 ?l2 ?c2 ?k2 ?a3 ?l3 ?c3 ?k3 ?a4 ?l4 ?c4 ?k4 ?a5 ?l5 ?c5 ?k5 ?a6 ?l6 ?c6 ?k6 ?a7 ?l7 ?c7 ?k7 ?a8 ?l8 ?c8 ?k8 ?a9 ?l9 ?c9 ?k9 ?a10 ?l10 ?c10 ?k10 ?a11 ?l11 ?c11 ?k11 ?a12 ?l12 ?c12 ?k12 ?a13 ?l13 ?c13 ?k13 ?a14 ?l14 ?c14 ?k14 ?a15 ?l15 ?c15 ?k15 ?a16 ?l16 ?c16 ?k16 ?i16 ?mk_Book ?a17 ?l17 ?c17 ?k17 ?i17 ?a18 ?l18 ?c18 ?k18 ?i18 ?a19 ?l19 ?c19 ?k19 ?i19 ?a20 ?l20 ?c20 ?k20 ?i20 ?a21 ?l21 ?c21 ?k21 ?i21 ?a22 ?l22 ?c22 ?k22 ?a23 ?l23 ?c23 ?k23 ?a24 ?l24 ?c24 ?k24 ?a25 ?l25 ?c25 ?k25 ?a26 ?l26 ?c26 ?k26 ?a27 ?l27 ?c27 ?k27 ?a28 ?l28 ?c28 ?k28 ?a29 ?l29 ?c29 ?k29 ?a30 ?l30 ?c30 ?k30 ?a31 ?l31 ?c31 ?k31 ?a32 ?l32 ?c32 ?k32 ?a33 ?l33 ?c33 ?k33 ?a34 ?l34 ?c34 ?k34 ?a35 ?l35 ?c35 ?k35 ?a36 ?l36 ?c36 ?k36 ?a37 ?l37 ?c37 ?k37 ?a38 ?l38 ?c38 ?k38 ?a39 ?l39 ?c39 ?k39 ?a40 ?l40 ?c40 ?k40 ?a41 ?l41 ?c41 ?k41 ?a42 ?l42 ?c42 ?k42 ?a43 ?l43 ?c43 ?k43 ?z_ValueError ?z_bool ?z_enumerate ?z_int ?z_isinstance ?z_len ?z_list ?z_map ?z_max ?z_min ?z_range ?z_str ?z_tuple ?g_MOST_LAYERS ?g_MOST_STATES ?g_LAYER_WORDS ?lk_LAYER_WORDS ?zz_LAYER_WORDS ?vv_LAYER_WORDS ?g_KERNELS ?lk_KERNELS ?kl_KERNELS ?lw_KERNELS ?nk_KERNELS_0 ?nk_KERNELS_1 ?nk_KERNELS_2 ?nk_KERNELS_3 ?nk_KERNELS_4 ?nk_KERNELS_5 ?nk_KERNELS_6 ?no_KERNELS_0 ?no_KERNELS_1 ?lt_KERNELS_0 ?zt_KERNELS_0 ?vt_KERNELS_0 ?lt_KERNELS_1 ?zt_KERNELS_1 ?vt_KERNELS_1 ?lt_KERNELS_2 ?zt_KERNELS_2 ?vt_KERNELS_2 ?lt_KERNELS_3 ?zt_KERNELS_3 ?vt_KERNELS_3 ?lt_KERNELS_4 ?zt_KERNELS_4 ?vt_KERNELS_4 ?lt_KERNELS_5 ?zt_KERNELS_5 ?vt_KERNELS_5 ?lt_KERNELS_6 ?zt_KERNELS_6 ?vt_KERNELS_6
    (case m_DeedsError => k_is); (case kc_DeedsError => k_is); (case m_TextError => k_is); (case kc_TextError => k_is); (case xL_TextError => k_is); (case sa_TextError => k_is); (case ga_TextError => k_is); (case gg_TextError => k_is); (case eC_TextError => k_is); (case tC_TextError => k_is); (case hC_TextError => k_is); (case n_TextError_line => k_is); (case n_TextError_token => k_is); (case m_BookError => k_is); (case kc_BookError => k_is); (case xL_BookError => k_is); (case sa_BookError => k_is); (case ga_BookError => k_is); (case gg_BookError => k_is); (case eC_BookError => k_is); (case tC_BookError => k_is); (case hC_BookError => k_is); (case n_BookError_layer => k_is); (case m_Book => k_is); (case kc_Book => k_is); (case pg_Book => k_is); (case hd_Book => k_is); (case po_Book => k_is); (case sa_Book => k_is); (case n_Book_kernel => k_is); (case n_Book_layers => k_is); (case n_Book_numbers => k_is); (case n_Book_size => k_is); (case s_TextError_BookError => first | rfl | k_is); (case s_BookError_BookError => first | rfl | k_is); (case eC_DeedsError => k_is); (case tC_DeedsError => k_is); (case hC_DeedsError => k_is); (case s_TextError_DeedsError => first | rfl | k_is); (case s_BookError_DeedsError => first | rfl | k_is); (case s_TextError_TextError => first | rfl | k_is); (case s_BookError_TextError => first | rfl | k_is); (case xa_TextError => k_is); (case xm_TextError => k_is); (case xn_TextError => k_is); (case xt_TextError => k_is); (case sb_TextError_ValueError => first | rfl | k_is); (case a0 => k_is); (case l0 => k_is); (case c0 => k_is); (case k0 => k_is); (case t0 => k_is); (case a1 => k_is); (case l1 => k_is); (case c1 => k_is); (case k1 => k_is); (case t1 => k_is); (case a2 => k_is); (case l2 => k_is); (case c2 => k_is); (case k2 => k_is); (case a3 => k_is); (case l3 => k_is); (case c3 => k_is); (case k3 => k_is); (case a4 => k_is); (case l4 => k_is); (case c4 => k_is); (case k4 => k_is); (case a5 => k_is); (case l5 => k_is); (case c5 => k_is); (case k5 => k_is); (case a6 => k_is); (case l6 => k_is); (case c6 => k_is); (case k6 => k_is); (case a7 => k_is); (case l7 => k_is); (case c7 => k_is); (case k7 => k_is); (case a8 => k_is); (case l8 => k_is); (case c8 => k_is); (case k8 => k_is); (case a9 => k_is); (case l9 => k_is); (case c9 => k_is); (case k9 => k_is); (case a10 => k_is); (case l10 => k_is); (case c10 => k_is); (case k10 => k_is); (case a11 => k_is); (case l11 => k_is); (case c11 => k_is); (case k11 => k_is); (case a12 => k_is); (case l12 => k_is); (case c12 => k_is); (case k12 => k_is); (case a13 => k_is); (case l13 => k_is); (case c13 => k_is); (case k13 => k_is); (case a14 => k_is); (case l14 => k_is); (case c14 => k_is); (case k14 => k_is); (case a15 => k_is); (case l15 => k_is); (case c15 => k_is); (case k15 => k_is); (case a16 => k_is); (case l16 => k_is); (case c16 => k_is); (case k16 => k_is); (case i16 => k_is); (case mk_Book => k_is); (case a17 => k_is); (case l17 => k_is); (case c17 => k_is); (case k17 => k_is); (case i17 => k_is); (case a18 => k_is); (case l18 => k_is); (case c18 => k_is); (case k18 => k_is); (case i18 => k_is); (case a19 => k_is); (case l19 => k_is); (case c19 => k_is); (case k19 => k_is); (case i19 => k_is); (case a20 => k_is); (case l20 => k_is); (case c20 => k_is); (case k20 => k_is); (case i20 => k_is); (case a21 => k_is); (case l21 => k_is); (case c21 => k_is); (case k21 => k_is); (case i21 => k_is); (case a22 => k_is); (case l22 => k_is); (case c22 => k_is); (case k22 => k_is); (case a23 => k_is); (case l23 => k_is); (case c23 => k_is); (case k23 => k_is); (case a24 => k_is); (case l24 => k_is); (case c24 => k_is); (case k24 => k_is); (case a25 => k_is); (case l25 => k_is); (case c25 => k_is); (case k25 => k_is); (case a26 => k_is); (case l26 => k_is); (case c26 => k_is); (case k26 => k_is); (case a27 => k_is); (case l27 => k_is); (case c27 => k_is); (case k27 => k_is); (case a28 => k_is); (case l28 => k_is); (case c28 => k_is); (case k28 => k_is); (case a29 => k_is); (case l29 => k_is); (case c29 => k_is); (case k29 => k_is); (case a30 => k_is); (case l30 => k_is); (case c30 => k_is); (case k30 => k_is); (case a31 => k_is); (case l31 => k_is); (case c31 => k_is); (case k31 => k_is); (case a32 => k_is); (case l32 => k_is); (case c32 => k_is); (case k32 => k_is); (case a33 => k_is); (case l33 => k_is); (case c33 => k_is); (case k33 => k_is); (case a34 => k_is); (case l34 => k_is); (case c34 => k_is); (case k34 => k_is); (case a35 => k_is); (case l35 => k_is); (case c35 => k_is); (case k35 => k_is); (case a36 => k_is); (case l36 => k_is); (case c36 => k_is); (case k36 => k_is); (case a37 => k_is); (case l37 => k_is); (case c37 => k_is); (case k37 => k_is); (case a38 => k_is); (case l38 => k_is); (case c38 => k_is); (case k38 => k_is); (case a39 => k_is); (case l39 => k_is); (case c39 => k_is); (case k39 => k_is); (case a40 => k_is); (case l40 => k_is); (case c40 => k_is); (case k40 => k_is); (case a41 => k_is); (case l41 => k_is); (case c41 => k_is); (case k41 => k_is); (case a42 => k_is); (case l42 => k_is); (case c42 => k_is); (case k42 => k_is); (case a43 => k_is); (case l43 => k_is); (case c43 => k_is); (case k43 => k_is); (case z_ValueError => k_is); (case z_bool => k_is); (case z_enumerate => k_is); (case z_int => k_is); (case z_isinstance => k_is); (case z_len => k_is); (case z_list => k_is); (case z_map => k_is); (case z_max => k_is); (case z_min => k_is); (case z_range => k_is); (case z_str => k_is); (case z_tuple => k_is); (case g_MOST_LAYERS => k_is); (case g_MOST_STATES => k_is); (case g_LAYER_WORDS => k_is); (case lk_LAYER_WORDS => k_is); (case zz_LAYER_WORDS => show 5 ≤ sizeLine; decide); (case vv_LAYER_WORDS => exact .cons ⟨_, rfl⟩ (.cons ⟨_, rfl⟩ (.cons ⟨_, rfl⟩ (.cons ⟨_, rfl⟩ (.cons ⟨_, rfl⟩ .nil))))); (case g_KERNELS => k_is); (case lk_KERNELS => k_is); (case kl_KERNELS => first | exact ⟨⟨_, _, rfl, rfl⟩, ⟨⟨_, _, rfl, rfl⟩, ⟨⟨_, _, rfl, rfl⟩, ⟨⟨_, _, rfl, rfl⟩, ⟨⟨_, _, rfl, rfl⟩, ⟨⟨_, _, rfl, rfl⟩, ⟨⟨_, _, rfl, rfl⟩, trivial⟩⟩⟩⟩⟩⟩⟩ | k_is); (case lw_KERNELS => first | rfl | decide | k_is); (case nk_KERNELS_0 => k_is); (case nk_KERNELS_1 => k_is); (case nk_KERNELS_2 => k_is); (case nk_KERNELS_3 => k_is); (case nk_KERNELS_4 => k_is); (case nk_KERNELS_5 => k_is); (case nk_KERNELS_6 => k_is); (case no_KERNELS_0 => k_is); (case no_KERNELS_1 => k_is); (case lt_KERNELS_0 => k_is); (case zt_KERNELS_0 => show 2 ≤ sizeLine; decide); (case vt_KERNELS_0 => exact .cons ⟨_, rfl⟩ (.cons ⟨_, rfl⟩ .nil)); (case lt_KERNELS_1 => k_is); (case zt_KERNELS_1 => show 2 ≤ sizeLine; decide); (case vt_KERNELS_1 => exact .cons ⟨_, rfl⟩ (.cons ⟨_, rfl⟩ .nil)); (case lt_KERNELS_2 => k_is); (case zt_KERNELS_2 => show 2 ≤ sizeLine; decide); (case vt_KERNELS_2 => exact .cons ⟨_, rfl⟩ (.cons ⟨_, rfl⟩ .nil)); (case lt_KERNELS_3 => k_is); (case zt_KERNELS_3 => show 2 ≤ sizeLine; decide); (case vt_KERNELS_3 => exact .cons ⟨_, rfl⟩ (.cons ⟨_, rfl⟩ .nil)); (case lt_KERNELS_4 => k_is); (case zt_KERNELS_4 => show 2 ≤ sizeLine; decide); (case vt_KERNELS_4 => exact .cons ⟨_, rfl⟩ (.cons ⟨_, rfl⟩ .nil)); (case lt_KERNELS_5 => k_is); (case zt_KERNELS_5 => show 2 ≤ sizeLine; decide); (case vt_KERNELS_5 => exact .cons ⟨_, rfl⟩ (.cons ⟨_, rfl⟩ .nil)); (case lt_KERNELS_6 => k_is); (case zt_KERNELS_6 => show 2 ≤ sizeLine; decide); (case vt_KERNELS_6 => exact .cons ⟨_, rfl⟩ (.cons ⟨_, rfl⟩ .nil))
