import PyProof.Rows.All
import Wide.All
import OpenK.AllK
import Wide.FinOn
import HandS.ForMost
import HandS.Evl
import HandS.Wide
import HandS.Gcd
import HandS.Style
import HandS.IsInst
import KE.KeyNested
import KE.KDictKeyed
import HandS.WordsExc
import HandS.ExcInit
import HandS.ExcField
import HandS.TryOnly
import HandS.ExcOwn
import HandS.Text
import HandS.StrMore
import HandS.Iter
import HandS.FStr
import HandS.RaiseMore
import HandS.ExcIs
import KE.KExcIs
import KE.KIntText
import KE.KxLen
import KE.KxText
import PySem.Challenge.RW_besideandthrough_k89_tokens_and_values
set_option Elab.async false
set_option linter.all false
set_option maxRecDepth 100000
set_option maxHeartbeats 4000000
/-! Data over the hand layer: values as trees of data, frozen in a part F of the heap; lists that a def owns stand in its slots. -/
namespace DL
open PySem L2
open Evl (Ex)

/-- a value as data -/
inductive D where
  | non | bl (b : Bool) | int (i : Int) | str (x : Str) | tup (xs : List D) | lst (xs : List D) | scr (ns : List Int) | ref (a : Addr) | rng (lo hi : Int)

mutual
def Rp (K : PySem.W.Frag) (F : Hp) : D → V → Prop
  | .non, v => v = .non
  | .bl b, v => v = .bl b
  | .int i, v => v = .int i
  | .str x, v => v = .str x
  | .tup ds, v => ∃ a vs, v = .ref a ∧ SqT K F a vs ∧ Rps K F ds vs
  | .lst ds, v => ∃ a vs, v = .ref a ∧ F a = some (.lst vs) ∧ Rps K F ds vs
  | .scr ns, v => ∃ a, v = .ref a ∧ SqL K F a (ns.map V.int)
  | .ref a, v => v = .ref a
  | .rng lo hi, v => ∃ a, v = .ref a ∧ F a = some (.rng lo hi)
def Rps (K : PySem.W.Frag) (F : Hp) : List D → List V → Prop
  | [], vs => vs = []
  | d :: ds, vs => ∃ v r, vs = v :: r ∧ Rp K F d v ∧ Rps K F ds r
end

section
variable {K : PySem.W.Frag} {F F' : Hp}
mutual
theorem rp_mono (e : Ex F F') : ∀ (d : D) (v : V), Rp K F d v → Rp K F' d v
  | .non, _, h => h
  | .bl _, _, h => h
  | .int _, _, h => h
  | .str _, _, h => h
  | .tup ds, v, h => by
    obtain ⟨a, vs, e1, h1, h2⟩ := h
    exact ⟨a, vs, e1, Evl.ex_t e h1, rps_mono e ds vs h2⟩
  | .lst ds, v, h => by
    obtain ⟨a, vs, e1, h1, h2⟩ := h
    exact ⟨a, vs, e1, e _ _ h1, rps_mono e ds vs h2⟩
  | .scr ns, v, h => by
    obtain ⟨a, e1, h1⟩ := h
    exact ⟨a, e1, Evl.ex_l e h1⟩
  | .ref _, _, h => h
  | .rng _ _, v, h => by
    obtain ⟨a, e1, h1⟩ := h
    exact ⟨a, e1, e _ _ h1⟩
theorem rps_mono (e : Ex F F') : ∀ (ds : List D) (vs : List V), Rps K F ds vs → Rps K F' ds vs
  | [], _, h => h
  | d :: ds, vs, h => by
    obtain ⟨v, r, e1, h1, h2⟩ := h
    exact ⟨v, r, e1, rp_mono e d v h1, rps_mono e ds r h2⟩
end
theorem rps_len : ∀ {ds : List D} {vs : List V}, Rps K F ds vs → vs.length = ds.length
  | [], vs, h => by
    rw [show vs = [] from h]
    rfl
  | d :: ds, vs, h => by
    obtain ⟨v, r, e1, h1, h2⟩ := h
    rw [e1, List.length_cons, List.length_cons, rps_len h2]
theorem rps_get : ∀ {ds : List D} {vs : List V} {i : Nat} {d : D}, Rps K F ds vs → ds[i]? = some d → ∃ v, vs[i]? = some v ∧ Rp K F d v
  | [], _, _, _, _, h => by simp at h
  | d :: ds, vs, 0, e, h, h' => by
    obtain ⟨v, r, e1, h1, h2⟩ := h
    have : d = e := by simpa using h'
    subst this
    exact ⟨v, by rw [e1] <;> rfl, h1⟩
  | d :: ds, vs, i + 1, e, h, h' => by
    obtain ⟨v, r, e1, h1, h2⟩ := h
    obtain ⟨w, h3, h4⟩ := rps_get (i := i) h2 (by simpa using h')
    exact ⟨w, by rw [e1]; simpa using h3, h4⟩
theorem rps_get' : ∀ {ds : List D} {vs : List V} {i : Nat} {v : V}, Rps K F ds vs → vs[i]? = some v → ∃ d, ds[i]? = some d ∧ Rp K F d v := fun {ds vs i v} h h' => by
  have hl := rps_len h
  have hi : i < vs.length := (List.getElem?_eq_some_iff.mp h').1
  have hd : ds[i]? = some ds[i] := List.getElem?_eq_getElem (by omega)
  obtain ⟨w, h1, h2⟩ := rps_get h hd
  rw [h'] at h1
  cases h1
  exact ⟨_, hd, h2⟩
theorem rps_app : ∀ {ds es : List D} {vs ws : List V}, Rps K F ds vs → Rps K F es ws → Rps K F (ds ++ es) (vs ++ ws)
  | [], _, vs, _, h, h' => by
    rw [show vs = [] from h]
    exact h'
  | d :: ds, es, vs, ws, h, h' => by
    obtain ⟨v, r, e1, h1, h2⟩ := h
    exact ⟨v, r ++ ws, by rw [e1] <;> rfl, h1, rps_app h2 h'⟩
theorem rps_one {d : D} {v : V} (h : Rp K F d v) : Rps K F [d] [v] := ⟨v, [], rfl, h, rfl⟩
theorem rps_ints : ∀ (ns : List Int) (vs : List V), Rps K F (ns.map D.int) vs → vs = ns.map V.int
  | [], _, h => h
  | n :: ns, vs, h => by
    obtain ⟨v, r, e1, h1, h2⟩ := h
    rw [e1, show v = V.int n from h1, rps_ints ns r h2] <;> rfl
theorem ints_rps : ∀ (ns : List Int), Rps K F (ns.map D.int) (ns.map V.int)
  | [] => rfl
  | n :: ns => ⟨.int n, ns.map V.int, rfl, rfl, ints_rps ns⟩
theorem rps_take : ∀ {ds : List D} {vs : List V} (n : Nat), Rps K F ds vs → Rps K F (ds.take n) (vs.take n)
  | [], vs, n, h => by
    rw [show vs = [] from h]
    cases n <;> rfl
  | d :: ds, vs, 0, h => by
    rw [List.take_zero, List.take_zero]
    rfl
  | d :: ds, vs, n + 1, h => by
    obtain ⟨v, r, e1, h1, h2⟩ := h
    rw [e1]
    exact ⟨v, r.take n, rfl, h1, rps_take n h2⟩
theorem rps_drop : ∀ {ds : List D} {vs : List V} (n : Nat), Rps K F ds vs → Rps K F (ds.drop n) (vs.drop n)
  | [], vs, n, h => by
    rw [show vs = [] from h]
    cases n <;> rfl
  | d :: ds, vs, 0, h => h
  | d :: ds, vs, n + 1, h => by
    obtain ⟨v, r, e1, h1, h2⟩ := h
    rw [e1]
    exact rps_drop n h2
theorem rps_set : ∀ {ds : List D} {vs : List V} {d : D} {v : V} (i : Nat), Rps K F ds vs → Rp K F d v → Rps K F (ds.set i d) (vs.set i v)
  | [], vs, d, v, i, h, h' => by
    rw [show vs = [] from h]
    rfl
  | e :: ds, vs, d, v, 0, h, h' => by
    obtain ⟨w, r, e1, h1, h2⟩ := h
    rw [e1]
    exact ⟨v, r, rfl, h', h2⟩
  | e :: ds, vs, d, v, i + 1, h, h' => by
    obtain ⟨w, r, e1, h1, h2⟩ := h
    rw [e1]
    exact ⟨w, r.set i v, rfl, h1, rps_set i h2 h'⟩
end

/-! ### memory that may change, frames -/
/-! data as a nested key -/
mutual
def nkD : D → Option NestedKey
  | .non => some .none
  | .int i => some (.num i)
  | .str x => some (.text x)
  | .tup ds => match nkDs ds with
    | some ks => some (.tup ks)
    | none => none
  | _ => none
def nkDs : List D → Option (List NestedKey)
  | [] => some []
  | d :: ds => match nkD d, nkDs ds with
    | some k, some ks => some (k :: ks)
    | _, _ => none
end
/-- a dict whose keys are nested tuples, told by its entries -/
def nestO (w : World) (a : Addr) (xs : List (NestedKey × Addr × Value)) : HO :=
  .ext fun h => (xs.map (·.1)).Nodup ∧ xs.length ≤ sizeLine ∧ (a == sysModules) = false ∧ ∃ o es ep, h.get? a = some o ∧ o.ExactDict ∧ o.data = .dict es ep ∧ es.toList = xs.map fun x => ⟨x.1.hash w, .ref x.2.1, x.2.2⟩
/-- its keys and values as data -/
def NRel (K : PySem.W.Frag) (F : Hp) : List (D × D) → List (NestedKey × Addr × Value) → Prop
  | [], xs => xs = []
  | kd :: kvs, xs => ∃ x r, xs = x :: r ∧ nkD kd.1 = some x.1 ∧ Rp K F kd.1 (.ref x.2.1) ∧ x.1.depth ≤ 8 ∧ (∃ v, Rp K F kd.2 v ∧ RelV v x.2.2) ∧ NRel K F kvs r
theorem NRel.mono {K : PySem.W.Frag} {F F' : Hp} (e : Ex F F') : ∀ {kvs : List (D × D)} {xs : List (NestedKey × Addr × Value)}, NRel K F kvs xs → NRel K F' kvs xs
  | [], _, h => h
  | kd :: kvs, xs, h => by
    obtain ⟨x, r, e1, h1, h2, h3, ⟨v, h4, h5⟩, h6⟩ := h
    exact ⟨x, r, e1, h1, rp_mono e _ _ h2, h3, ⟨v, rp_mono e _ _ h4, h5⟩, NRel.mono e h6⟩
inductive OD where
  | lst (ds : List D) | ins (C : Addr) (fs : List (Str × D)) | dct (kvs : List (Key × D)) | nst (w : World) (a : Addr) (kvs : List (D × D))
abbrev Mem := Addr → Option OD
def RpO (K : PySem.W.Frag) (F : Hp) : OD → Option HO → Prop
  | .lst ds, h => ∃ vs, h = some (.lst vs) ∧ Rps K F ds vs
  | .ins C fs, h => ∃ dx vfs, h = some (.ins C dx vfs) ∧ vfs.map Prod.fst = fs.map Prod.fst ∧ Rps K F (fs.map Prod.snd) (vfs.map Prod.snd)
  | .dct kvs, h => ∃ vs, h = some (.dK vs) ∧ vs.map Prod.fst = kvs.map Prod.fst ∧ Rps K F (kvs.map Prod.snd) (vs.map Prod.snd)
  | .nst w a kvs, h => ∃ xs, h = some (nestO w a xs) ∧ NRel K F kvs xs
theorem RpO.mono {K : PySem.W.Frag} {F F' : Hp} (e : Ex F F') {o : OD} {h : Option HO} (x : RpO K F o h) : RpO K F' o h := by
  cases o with
  | lst ds =>
    obtain ⟨vs, e1, h1⟩ := x
    exact ⟨vs, e1, rps_mono e _ _ h1⟩
  | ins C fs =>
    obtain ⟨dx, vfs, e1, h0, h1⟩ := x
    exact ⟨dx, vfs, e1, h0, rps_mono e _ _ h1⟩
  | dct kvs =>
    obtain ⟨vs, e1, h0, h1⟩ := x
    exact ⟨vs, e1, h0, rps_mono e _ _ h1⟩
  | nst w a kvs =>
    obtain ⟨xs, e1, h1⟩ := x
    exact ⟨xs, e1, NRel.mono e h1⟩
theorem RpO.some {K : PySem.W.Frag} {F : Hp} {o : OD} {h : Option HO} (x : RpO K F o h) : ∃ u, h = some u := by
  cases o with
  | lst ds =>
    obtain ⟨vs, e1, h1⟩ := x
    exact ⟨_, e1⟩
  | ins C fs =>
    obtain ⟨dx, vfs, e1, h0, h1⟩ := x
    exact ⟨_, e1⟩
  | dct kvs =>
    obtain ⟨vs, e1, h0, h1⟩ := x
    exact ⟨_, e1⟩
  | nst w a kvs =>
    obtain ⟨xs, e1, h1⟩ := x
    exact ⟨_, e1⟩

/-- what stays: the rest R of the heap, what was frozen at the entry -/
structure Zx where
  R : Hp
  F0 : Hp
structure Bs (K : PySem.W.Frag) (Z : Zx) (M : Mem) (H F : Hp) : Prop where
  f0 : Ex Z.F0 F
  fH : Ex F H
  rH : Ex Z.R H
  fr : ∀ a o, F a = some o → Z.R a = none
  mm : ∀ a o, M a = some o → F a = none ∧ Z.R a = none ∧ RpO K F o (H a)

inductive Sl where
  | un | d (d : D) | own (ds : List D)
def SlotOk (K : PySem.W.Frag) (Z : Zx) (F : Hp) (M : Mem) (H : Hp) (o : Option (Option V)) : Sl → Prop
  | .un => True
  | .d d => ∃ v, o = some (some v) ∧ Rp K F d v
  | .own ds => ∃ a vs, o = some (some (.ref a)) ∧ H a = some (.lst vs) ∧ Rps K F ds vs ∧ F a = none ∧ Z.R a = none ∧ M a = none
structure Cn (K : PySem.W.Frag) (Z : Zx) (M : Mem) (σ : L2.St) (H : Hp) (Δ : List Sl) (F : Hp) : Prop where
  bs : Bs K Z M H F
  len : Δ.length = σ.length
  slot : ∀ (i : Nat) (s : Sl), Δ[i]? = some s → SlotOk K Z F M H σ[i]? s
  sep : ∀ (i j : Nat) (a : Addr) (ds es : List D), i ≠ j → Δ[i]? = some (.own ds) → Δ[j]? = some (.own es) → σ[i]? = some (some (.ref a)) → σ[j]? = some (some (.ref a)) → False

section
variable {K : PySem.W.Frag} {Z : Zx} {M : Mem} {σ : L2.St} {H F : Hp} {Δ : List Sl} {p : Addr} {o : HO}
theorem Bs.new (b : Bs K Z M H F) (hp : H p = none) (o : HO) : Bs K Z M (upd H p o) (upd F p o) where
  f0 := b.f0.trans (Ex.new (by
    cases h : F p with
    | none => rfl
    | some u => rw [b.fH p u h] at hp; cases hp))
  fH := fun a u h => by
    by_cases e : a = p
    · subst e; rw [upd_same] at h ⊢; exact h
    · rw [upd_ne e] at h ⊢; exact b.fH a u h
  rH := b.rH.trans (Ex.new hp)
  fr := fun a u h => by
    by_cases e : a = p
    · subst e
      cases h : Z.R a with
      | none => rfl
      | some u => rw [b.rH a u h] at hp; cases hp
    · rw [upd_ne e] at h; exact b.fr a u h
  mm := fun a u h => by
    obtain ⟨h1, h2, h3⟩ := b.mm a u h
    obtain ⟨v, hv⟩ := h3.some
    have e : a ≠ p := ne_of_none hv hp
    have eF : Ex F (upd F p o) := Ex.new (by
      cases h : F p with
      | none => rfl
      | some u => rw [b.fH p u h] at hp; cases hp)
    exact ⟨by rw [upd_ne e]; exact h1, h2, by rw [upd_ne e]; exact h3.mono eF⟩
theorem Bs.freeF (b : Bs K Z M H F) (hp : H p = none) : F p = none := by
  cases h : F p with
  | none => rfl
  | some u => rw [b.fH p u h] at hp; cases hp
theorem Bs.freeR (b : Bs K Z M H F) (hp : H p = none) : Z.R p = none := by
  cases h : Z.R p with
  | none => rfl
  | some u => rw [b.rH p u h] at hp; cases hp
theorem Bs.freeM (b : Bs K Z M H F) (hp : H p = none) : M p = none := by
  cases h : M p with
  | none => rfl
  | some u =>
    obtain ⟨h1, h2, h3⟩ := b.mm p u h
    obtain ⟨v, hv⟩ := h3.some
    rw [hp] at hv; cases hv
theorem Bs.newH (b : Bs K Z M H F) (hp : H p = none) (o : HO) : Bs K Z M (upd H p o) F where
  f0 := b.f0
  fH := b.fH.trans (Ex.new hp)
  rH := b.rH.trans (Ex.new hp)
  fr := b.fr
  mm := fun a u h => by
    obtain ⟨h1, h2, h3⟩ := b.mm a u h
    obtain ⟨v, hv⟩ := h3.some
    exact ⟨h1, h2, by rw [upd_ne (ne_of_none hv hp)]; exact h3⟩
theorem Bs.exF (b : Bs K Z M H F) (hp : H p = none) (o : HO) : Ex F (upd F p o) := Ex.new (b.freeF hp)

theorem SlotOk.mono {H' F' : Hp} {so : Option (Option V)} {s : Sl} (h : SlotOk K Z F M H so s) (eF : Ex F F') (hO : ∀ a vs, H a = some (.lst vs) → F a = none → Z.R a = none → M a = none → F' a = none ∧ H' a = some (.lst vs)) : SlotOk K Z F' M H' so s := by
  cases s with
  | un => exact True.intro
  | d d =>
    obtain ⟨v, e, r⟩ := h
    exact ⟨v, e, rp_mono eF _ _ r⟩
  | own ds =>
    obtain ⟨a, vs, e, h1, h2, h3, h4, h5⟩ := h
    obtain ⟨q1, q2⟩ := hO a vs h1 h3 h4 h5
    exact ⟨a, vs, e, q2, rps_mono eF _ _ h2, q1, h4, h5⟩
/-- a new object is laid and frozen -/
theorem Cn.new (c : Cn K Z M σ H Δ F) (hp : H p = none) (o : HO) : Cn K Z M σ (upd H p o) Δ (upd F p o) where
  bs := c.bs.new hp o
  len := c.len
  slot := fun i s h => (c.slot i s h).mono (c.bs.exF hp o) fun a vs h1 h2 _ _ => by
    have e : a ≠ p := ne_of_none h1 hp
    rw [upd_ne e, upd_ne e]
    exact ⟨h2, h1⟩
  sep := c.sep
theorem Cn.newH (c : Cn K Z M σ H Δ F) (hp : H p = none) (o : HO) : Cn K Z M σ (upd H p o) Δ F where
  bs := c.bs.newH hp o
  len := c.len
  slot := fun i s h => (c.slot i s h).mono (Ex.refl _) fun a vs h1 h2 _ _ => by
    have e : a ≠ p := ne_of_none h1 hp
    rw [upd_ne e]
    exact ⟨h2, h1⟩
  sep := c.sep
theorem get_set {α : Type} {xs : List α} {i j : Nat} {x y : α} (h : (xs.set i x)[j]? = some y) : (i = j ∧ i < xs.length ∧ y = x) ∨ (i ≠ j ∧ xs[j]? = some y) := by
  by_cases e : i = j
  · subst e
    left
    by_cases hl : i < xs.length
    · rw [List.getElem?_set_self hl] at h
      exact ⟨rfl, hl, (Option.some.inj h).symm⟩
    · rw [List.getElem?_eq_none_iff.mpr (by rw [List.length_set]; omega)] at h
      cases h
  · right
    rw [List.getElem?_set_ne e] at h
    exact ⟨e, h⟩
/-- a slot is stored -/
theorem Cn.set (c : Cn K Z M σ H Δ F) {d : D} {v : V} (r : Rp K F d v) (i : Nat) : Cn K Z M (σ.set i (some v)) H (Δ.set i (.d d)) F where
  bs := c.bs
  len := by rw [List.length_set, List.length_set, c.len]
  slot := fun j s h => by
    rcases get_set h with ⟨e, hl, e2⟩ | ⟨e, h'⟩
    · subst e e2
      exact ⟨v, by rw [List.getElem?_set_self (by rw [← c.len]; exact hl)], r⟩
    · have q := c.slot j s h'
      rw [List.getElem?_set_ne e]
      exact q
  sep := fun j l a ds es hne h1 h2 h3 h4 => by
    rcases get_set h1 with ⟨_, _, e⟩ | ⟨n1, h1'⟩
    · cases e
    rcases get_set h2 with ⟨_, _, e⟩ | ⟨n2, h2'⟩
    · cases e
    rw [List.getElem?_set_ne n1] at h3
    rw [List.getElem?_set_ne n2] at h4
    exact c.sep j l a ds es hne h1' h2' h3 h4
/-- a slot is stored with a list that is new and its own -/
theorem Cn.setOwn (c : Cn K Z M σ H Δ F) {ds : List D} {vs : List V} (hp : H p = none) (r : Rps K F ds vs) (i : Nat) : Cn K Z M (σ.set i (some (.ref p))) (upd H p (.lst vs)) (Δ.set i (.own ds)) F where
  bs := c.bs.newH hp _
  len := by rw [List.length_set, List.length_set, c.len]
  slot := fun j s h => by
    rcases get_set h with ⟨e, hl, e2⟩ | ⟨e, h'⟩
    · subst e e2
      exact ⟨p, vs, by rw [List.getElem?_set_self (by rw [← c.len]; exact hl)], upd_same, r, c.bs.freeF hp, c.bs.freeR hp, c.bs.freeM hp⟩
    · have q := (c.newH hp (.lst vs)).slot j s h'
      rw [List.getElem?_set_ne e]
      exact q
  sep := fun j l a es fs hne h1 h2 h3 h4 => by
    have other : ∀ (j : Nat) (es : List D) (a : Addr), Δ[j]? = some (.own es) → σ[j]? = some (some (.ref a)) → a ≠ p := fun j es a h h' => by
      obtain ⟨b, ws, e1, e2, _⟩ := c.slot j _ h
      rw [h'] at e1
      cases e1
      exact ne_of_none e2 hp
    rcases get_set h1 with ⟨e1, l1, e1'⟩ | ⟨n1, h1'⟩
    · subst e1
      rcases get_set h2 with ⟨e2, _, _⟩ | ⟨n2, h2'⟩
      · exact hne e2
      rw [List.getElem?_set_ne n2] at h4
      rw [List.getElem?_set_self (by rw [← c.len]; exact l1)] at h3
      cases h3
      exact other l fs _ h2' h4 rfl
    · rw [List.getElem?_set_ne n1] at h3
      rcases get_set h2 with ⟨e2, l2, e2'⟩ | ⟨n2, h2'⟩
      · subst e2
        rw [List.getElem?_set_self (by rw [← c.len]; exact l2)] at h4
        cases h4
        exact other j es _ h1' h3 rfl
      · rw [List.getElem?_set_ne n2] at h4
        exact c.sep j l a es fs hne h1' h2' h3 h4
/-- a slot is forgotten -/
theorem Cn.drop (c : Cn K Z M σ H Δ F) (i : Nat) : Cn K Z M σ H (Δ.set i .un) F where
  bs := c.bs
  len := by rw [List.length_set, c.len]
  slot := fun j s h => by
    rcases get_set h with ⟨e, hl, e2⟩ | ⟨e, h'⟩
    · subst e2; exact True.intro
    · exact c.slot j s h'
  sep := fun j l a ds es hne h1 h2 h3 h4 => by
    rcases get_set h1 with ⟨_, _, e⟩ | ⟨n1, h1'⟩
    · cases e
    rcases get_set h2 with ⟨_, _, e⟩ | ⟨n2, h2'⟩
    · cases e
    exact c.sep j l a ds es hne h1' h2' h3 h4
/-- an own list becomes data -/
theorem Cn.freeze (c : Cn K Z M σ H Δ F) {i : Nat} {ds : List D} {a : Addr} {vs : List V} (hi : Δ[i]? = some (.own ds)) (hσ : σ[i]? = some (some (.ref a))) (hH : H a = some (.lst vs)) (r : Rps K F ds vs) (hF : F a = none) (hR : Z.R a = none) (hM : M a = none) :
    Cn K Z M σ H (Δ.set i (.d (.lst ds))) (upd F a (.lst vs)) where
  bs := {
    f0 := c.bs.f0.trans (Ex.new hF)
    fH := fun b u h => by
      by_cases e : b = a
      · subst e; rw [upd_same] at h; rw [hH]; exact h
      · rw [upd_ne e] at h; exact c.bs.fH b u h
    rH := c.bs.rH
    fr := fun b u h => by
      by_cases e : b = a
      · subst e; exact hR
      · rw [upd_ne e] at h; exact c.bs.fr b u h
    mm := fun b u h => by
      obtain ⟨h1, h2, h3⟩ := c.bs.mm b u h
      have e : b ≠ a := fun e => by
        subst e; rw [hM] at h; cases h
      exact ⟨by rw [upd_ne e]; exact h1, h2, h3.mono (Ex.new hF)⟩ }
  len := by rw [List.length_set, c.len]
  slot := fun j s h => by
    rcases get_set h with ⟨e, hl, e2⟩ | ⟨e, h'⟩
    · subst e e2
      exact ⟨.ref a, hσ, a, vs, rfl, upd_same, rps_mono (Ex.new hF) _ _ r⟩
    · have q := c.slot j s h'
      cases s with
      | un => exact True.intro
      | d d =>
        obtain ⟨v, e1, r1⟩ := q
        exact ⟨v, e1, rp_mono (Ex.new hF) _ _ r1⟩
      | own es =>
        obtain ⟨b, ws, e1, h1, h2, h3, h4, h5⟩ := q
        have hb : b ≠ a := fun e2 => by
          subst e2
          exact c.sep i j b ds es e hi h' hσ e1
        exact ⟨b, ws, e1, h1, rps_mono (Ex.new hF) _ _ h2, by rw [upd_ne hb]; exact h3, h4, h5⟩
  sep := fun j l b es fs hne h1 h2 h3 h4 => by
    rcases get_set h1 with ⟨_, _, e⟩ | ⟨n1, h1'⟩
    · cases e
    rcases get_set h2 with ⟨_, _, e⟩ | ⟨n2, h2'⟩
    · cases e
    exact c.sep j l b es fs hne h1' h2' h3 h4
/-- an own list changes -/
theorem Cn.change (c : Cn K Z M σ H Δ F) {i : Nat} {ds es : List D} {a : Addr} {vs : List V} (hi : Δ[i]? = some (.own ds)) (hσ : σ[i]? = some (some (.ref a))) (hF : F a = none) (hR : Z.R a = none) (hM : M a = none) (r : Rps K F es vs) :
    Cn K Z M σ (upd H a (.lst vs)) (Δ.set i (.own es)) F where
  bs := {
    f0 := c.bs.f0
    fH := fun b u h => by
      have e : b ≠ a := fun e => by subst e; rw [hF] at h; cases h
      rw [upd_ne e]; exact c.bs.fH b u h
    rH := fun b u h => by
      have e : b ≠ a := fun e => by subst e; rw [hR] at h; cases h
      rw [upd_ne e]; exact c.bs.rH b u h
    fr := c.bs.fr
    mm := fun b u h => by
      have e : b ≠ a := fun e => by subst e; rw [hM] at h; cases h
      rw [upd_ne e]; exact c.bs.mm b u h }
  len := by rw [List.length_set, c.len]
  slot := fun j s h => by
    rcases get_set h with ⟨e, hl, e2⟩ | ⟨e, h'⟩
    · subst e e2
      exact ⟨a, vs, hσ, upd_same, r, hF, hR, hM⟩
    · have q := c.slot j s h'
      cases s with
      | un => exact True.intro
      | d d => exact q
      | own fs =>
        obtain ⟨b, ws, e1, h1, h2, h3, h4, h5⟩ := q
        have hb : b ≠ a := fun e2 => by
          subst e2
          exact c.sep i j b ds fs e hi h' hσ e1
        exact ⟨b, ws, e1, by rw [upd_ne hb]; exact h1, h2, h3, h4, h5⟩
  sep := fun j l b fs gs hne h1 h2 h3 h4 => by
    rcases get_set h1 with ⟨e1, l1, e1'⟩ | ⟨n1, h1'⟩
    · subst e1
      rcases get_set h2 with ⟨e2, _, _⟩ | ⟨n2, h2'⟩
      · exact hne e2
      · exact c.sep i l b ds gs hne hi h2' h3 h4
    · rcases get_set h2 with ⟨e2, l2, e2'⟩ | ⟨n2, h2'⟩
      · subst e2
        exact c.sep j i b fs ds hne h1' hi h3 h4
      · exact c.sep j l b fs gs hne h1' h2' h3 h4
end
end DL

set_option Elab.async false
set_option linter.all false
set_option maxRecDepth 100000
set_option maxHeartbeats 4000000
namespace DL
open PySem L2
open Evl (Ex)

/-! ### readings over data -/
abbrev RE := List Sl → Mem → (D → List Sl → Mem → Prop) → Prop
abbrev RT := List Sl → Mem → (Bool → List Sl → Mem → Prop) → Prop
abbrev RA := List Sl → Mem → (List D → List Sl → Mem → Prop) → Prop
structure DE where
  nx : List Sl → Mem → Prop
  rt : D → Mem → Prop
  bk : List Sl → Mem → Prop := fun _ _ => False
  ct : List Sl → Mem → Prop := fun _ _ => False
abbrev RS := DE → List Sl → Mem → Prop

def Sim (K : PySem.W.Frag) (Z : Zx) (t : TE) (r : RE) : Prop := ∀ (M : Mem) (σ : L2.St) (H : Hp) (Δ : List Sl) (F : Hp) (Φ : D → List Sl → Mem → Prop), Cn K Z M σ H Δ F → r Δ M Φ →
  ∀ Q : VK, (∀ v H' d Δ' M' F', Ex F F' → Cn K Z M' σ H' Δ' F' → Rp K F' d v → Φ d Δ' M' → Q v H') → t σ H Q
def SimT (K : PySem.W.Frag) (Z : Zx) (t : TT) (r : RT) : Prop := ∀ (M : Mem) (σ : L2.St) (H : Hp) (Δ : List Sl) (F : Hp) (Φ : Bool → List Sl → Mem → Prop), Cn K Z M σ H Δ F → r Δ M Φ →
  ∀ Q : Bool → Hp → Prop, (∀ b H' Δ' M' F', Ex F F' → Cn K Z M' σ H' Δ' F' → Φ b Δ' M' → Q b H') → t σ H Q
def SimA (K : PySem.W.Frag) (Z : Zx) (n : Nat) (t : TA) (r : RA) : Prop := ∀ (M : Mem) (σ : L2.St) (H : Hp) (Δ : List Sl) (F : Hp) (Φ : List D → List Sl → Mem → Prop), Cn K Z M σ H Δ F → r Δ M Φ →
  ∀ Q : List V → Hp → Prop, (∀ vs H' ds Δ' M' F', Ex F F' → Cn K Z M' σ H' Δ' F' → Rps K F' ds vs → ds.length = n → Φ ds Δ' M' → Q vs H') → t σ H Q
/-- what the concrete ends must take, from the frozen part F on -/
structure EndsOk (K : PySem.W.Frag) (Z : Zx) (F : Hp) (De : DE) (Dv : Ends) : Prop where
  nx : ∀ σ' H' Δ' M' F', Ex F F' → Cn K Z M' σ' H' Δ' F' → De.nx Δ' M' → Dv.nx σ' H'
  rt : ∀ v H' d M' F', Ex F F' → Bs K Z M' H' F' → Rp K F' d v → De.rt d M' → Dv.rt v H'
  bk : ∀ σ' H' Δ' M' F', Ex F F' → Cn K Z M' σ' H' Δ' F' → De.bk Δ' M' → Dv.bk σ' H'
  ct : ∀ σ' H' Δ' M' F', Ex F F' → Cn K Z M' σ' H' Δ' F' → De.ct Δ' M' → Dv.ct σ' H'
theorem EndsOk.mono {K : PySem.W.Frag} {Z : Zx} {F F1 : Hp} {De : DE} {Dv : Ends} (e : Ex F F1) (ok : EndsOk K Z F De Dv) : EndsOk K Z F1 De Dv :=
  ⟨fun σ' H' Δ' M' F' e1 => ok.nx σ' H' Δ' M' F' (e.trans e1), fun v H' d M' F' e1 => ok.rt v H' d M' F' (e.trans e1), fun σ' H' Δ' M' F' e1 => ok.bk σ' H' Δ' M' F' (e.trans e1), fun σ' H' Δ' M' F' e1 => ok.ct σ' H' Δ' M' F' (e.trans e1)⟩
def SimS (K : PySem.W.Frag) (Z : Zx) (t : TS) (r : RS) : Prop := ∀ (M : Mem) (σ : L2.St) (H : Hp) (Δ : List Sl) (F : Hp) (De : DE), Cn K Z M σ H Δ F → r De Δ M → ∀ Dv : Ends, EndsOk K Z F De Dv → t Dv σ H

def QE (X : Cx) (Z : Zx) (e : Expr) (r : RE) : Prop := ∃ t, PE X e t ∧ Sim X.K Z t r
def QT (X : Cx) (Z : Zx) (e : Expr) (r : RT) : Prop := ∃ t, PT X e t ∧ SimT X.K Z t r
def QW (X : Cx) (Z : Zx) (e : Expr) (r : RT) : Prop := ∃ t, PW X e t ∧ SimT X.K Z t r
def QA (X : Cx) (Z : Zx) (n : Nat) (es : List Expr) (r : RA) : Prop := ∃ t, PA X es t ∧ SimA X.K Z n t r
def QS (X : Cx) (Z : Zx) (s : Stmt) (r : RS) : Prop := ∃ t, PS X s t ∧ SimS X.K Z t r
def QSs (X : Cx) (Z : Zx) (s : List Stmt) (r : RS) : Prop := ∃ t, PSs X s t ∧ SimS X.K Z t r

section
variable {X : Cx} {Z : Zx} {e a b c : Expr} {ra rb rc r : RE} {pos : Pos}

/-! ### names, constants -/
/-- the value in a slot; an own list becomes data -/
def dVar (i : Nat) : RE := fun Δ M Φ => match Δ[i]? with
  | some (.d d) => Φ d Δ M
  | some (.own ds) => Φ (.lst ds) (Δ.set i (.d (.lst ds))) M
  | _ => False
def dC (d : D) : RE := fun Δ M Φ => Φ d Δ M
theorem sim_var {K : PySem.W.Frag} {i : Nat} : Sim K Z (tVar i) (dVar i) := by
  intro M σ H Δ F Φ c h Q q
  unfold dVar at h
  cases hs : Δ[i]? with
  | none => rw [hs] at h; exact h.elim
  | some s =>
    rw [hs] at h
    have k := c.slot i s hs
    cases s with
    | un => exact h.elim
    | d d =>
      obtain ⟨v, e, r⟩ := k
      exact ⟨v, e, q v H d Δ M F (Ex.refl _) c r h⟩
    | own ds =>
      obtain ⟨p, vs, e, h1, h2, h3, h4, h5⟩ := k
      exact ⟨.ref p, e, q _ H (.lst ds) _ M (upd F p (.lst vs)) (Ex.new h3) (c.freeze hs e h1 h2 h3 h4 h5) ⟨p, vs, rfl, upd_same, rps_mono (Ex.new h3) _ _ h2⟩ h⟩
theorem qe_var (i : Nat) {x : Str} (hN : X.N[i]? = some x := by rfl) (hv : Vis X.env.scope x := by first | exact Or.inl rfl | exact Or.inr (Or.inl rfl) | exact Or.inr (Or.inr rfl)) (hd : (x == ("__debug__" : Str)) = false := by decide)
    (hcd : (x == ("__classdict__" : Str)) = false := by decide) : QE X Z (.Name x pos) (dVar i) := ⟨_, pe_var hN hv hd hcd, sim_var⟩
theorem sim_c {K : PySem.W.Frag} {v : V} {d : D} (h : ∀ F, Rp K F d v) : Sim K Z (tC v) (dC d) := fun M σ H Δ F Φ c k Q q => q v H d Δ M F (Ex.refl _) c (h F) k
theorem qe_int {i j} : QE X Z (.Constant (.int i) j pos) (dC (.int i)) := ⟨_, pe_int, sim_c fun _ => rfl⟩
theorem qe_bl {b j} : QE X Z (.Constant (.bool b) j pos) (dC (.bl b)) := ⟨_, pe_bl, sim_c fun _ => rfl⟩
theorem qe_non {j} : QE X Z (.Constant .none j pos) (dC .non) := ⟨_, pe_non, sim_c fun _ => rfl⟩
theorem qe_str {x j} : QE X Z (.Constant (.str x) j pos) (dC (.str x)) := ⟨_, pe_str, sim_c fun _ => rfl⟩

/-! ### two-place operations -/
/-- an operation on data: dr x y Φ asks, then hands on a value; nothing but new frozen objects is made -/
def OpD (K : PySem.W.Frag) (rv : R2) (dr : D → D → (D → Prop) → Prop) : Prop := ∀ (Z : Zx) (M : Mem) (σ : L2.St) (H : Hp) (Δ : List Sl) (F : Hp) (x y : D) (v w : V) (Φ : D → Prop), Cn K Z M σ H Δ F → Rp K F x v → Rp K F y w → dr x y Φ →
  ∀ Q : VK, (∀ u H' d F', Ex F F' → Cn K Z M σ H' Δ F' → Rp K F' d u → Φ d → Q u H') → rv v w H Q
def dOp (dr : D → D → (D → Prop) → Prop) (ra rb : RE) : RE := fun Δ M Φ => ra Δ M fun x Δ1 M1 => rb Δ1 M1 fun y Δ2 M2 => dr x y fun d => Φ d Δ2 M2
theorem sim_op {K : PySem.W.Frag} {rv : R2} {dr : D → D → (D → Prop) → Prop} {ta tb : TE} (ho : OpD K rv dr) (ha : Sim K Z ta ra) (hb : Sim K Z tb rb) : Sim K Z (tOp rv ta tb) (dOp dr ra rb) := by
  intro M σ H Δ F Φ c h Q q
  refine ha M σ H Δ F _ c h _ fun v H1 x Δ1 M1 F1 e1 c1 r1 h1 => ?_
  refine hb M1 σ H1 Δ1 F1 _ c1 h1 _ fun w H2 y Δ2 M2 F2 e2 c2 r2 h2 => ?_
  exact ho Z M2 σ H2 Δ2 F2 x y v w _ c2 (rp_mono e2 _ _ r1) r2 h2 Q fun u H3 d F3 e3 c3 r3 h3 => q u H3 d Δ2 M2 F3 ((e1.trans e2).trans e3) c3 r3 h3
theorem OpD.or {K : PySem.W.Frag} {r1 r2 : R2} {d1 d2 dr : D → D → (D → Prop) → Prop} (h1 : OpD K r1 d1) (h2 : OpD K r2 d2) (h : ∀ x y Φ, dr x y Φ → d1 x y Φ ∨ d2 x y Φ) : OpD K (fun x y H Q => r1 x y H Q ∨ r2 x y H Q) dr := by
  intro Z M σ H Δ F x y v w Φ c rx ry k Q q
  rcases h x y Φ k with k | k
  · exact .inl (h1 Z M σ H Δ F x y v w Φ c rx ry k Q q)
  · exact .inr (h2 Z M σ H Δ F x y v w Φ c rx ry k Q q)
theorem qe_bin {op : Operator} {rv : R2} {dr : D → D → (D → Prop) → Prop} (ho : OpR X (binaryOp op) rv) (hd : OpD X.K rv dr) (ha : QE X Z a ra) (hb : QE X Z b rb) : QE X Z (.BinOp a op b pos) (dOp dr ra rb) := by
  obtain ⟨ta, pa, sa⟩ := ha
  obtain ⟨tb, pb, sb⟩ := hb
  exact ⟨_, pe_op ho pa pb, sim_op hd sa sb⟩
theorem qe_cmp {op : CmpOp} {rv : R2} {dr : D → D → (D → Prop) → Prop} (ho : OpR X (compareOp op) rv) (hd : OpD X.K rv dr) (ha : QE X Z a ra) (hb : QE X Z b rb) (hm : behindInMarks op b = false := by first | exact nobehind _ (by decide) (by decide) | rfl) : QE X Z (.Compare a [op] [b] pos) (dOp dr ra rb) := by
  obtain ⟨ta, pa, sa⟩ := ha
  obtain ⟨tb, pb, sb⟩ := hb
  exact ⟨_, pe_cmpR ho pa pb hm, sim_op hd sa sb⟩
/-- the two ways of a truth value -/
def bs (k : Bool) (Φ : Bool → Prop) : Prop := (k = true → Φ true) ∧ (k = false → Φ false)
theorem bs_of {k : Bool} {Φ : Bool → Prop} (h : bs k Φ) : Φ k := by
  cases k with
  | true => exact h.1 rfl
  | false => exact h.2 rfl
/-- a test that is a truth value -/
def dTest (r : RE) : RT := fun Δ M Φ => r Δ M fun x Δ1 M1 => match x with
  | .bl k => bs k fun k => Φ k Δ1 M1
  | _ => False
theorem simT_test {K : PySem.W.Frag} {t : TE} (h : Sim K Z t r) : SimT K Z (tTest t) (dTest r) := by
  intro M σ H Δ F Φ c k Q q
  refine h M σ H Δ F _ c k _ fun v H1 x Δ1 M1 F1 e1 c1 r1 h1 => ?_
  cases x with
  | bl b => exact ⟨b, r1, q b H1 Δ1 M1 F1 e1 c1 (bs_of h1)⟩
  | _ => exact h1.elim
theorem qt_cmp {op : CmpOp} {rv : R2} {dr : D → D → (D → Prop) → Prop} (ho : OpR X (compareOp op) rv) (hd : OpD X.K rv dr) (ha : QE X Z a ra) (hb : QE X Z b rb) (hm : behindInMarks op b = false := by first | exact nobehind _ (by decide) (by decide) | rfl) : QT X Z (.Compare a [op] [b] pos) (dTest (dOp dr ra rb)) := by
  obtain ⟨ta, pa, sa⟩ := ha
  obtain ⟨tb, pb, sb⟩ := hb
  exact ⟨_, pt_cmpR ho pa pb hm, simT_test (sim_op hd sa sb)⟩
/-- an expression whose value is a truth value, as a test -/
theorem qt_val (h : QE X Z e r) (he : ∀ whole, isTrue e X.env whole = (do let v ← whole; standAt e.pos; holding [v] (truthy v)) := by intro _; rfl) : QT X Z e (dTest r) := by
  obtain ⟨t, p, s⟩ := h
  exact ⟨_, pt_val p he, simT_test s⟩

/-- ints -/
def dI (g : Int → Int → D) : D → D → (D → Prop) → Prop := fun x y Φ => match x, y with
  | .int i, .int j => Φ (g i j)
  | _, _ => False
def dIC (C : Int → Int → Prop) (g : Int → Int → D) : D → D → (D → Prop) → Prop := fun x y Φ => match x, y with
  | .int i, .int j => C i j ∧ Φ (g i j)
  | _, _ => False
theorem opD_I {K : PySem.W.Frag} {g : Int → Int → V} {g' : Int → Int → D} (hg : ∀ F i j, Rp K F (g' i j) (g i j)) : OpD K (rI0 g) (dI g') := by
  intro Z M σ H Δ F x y v w Φ c rx ry k Q q
  unfold dI at k
  split at k
  · exact ⟨_, _, rx, ry, q _ H _ F (Ex.refl _) c (hg F _ _) k⟩
  · exact k.elim
theorem opD_IC {K : PySem.W.Frag} {C : Int → Int → Prop} {g : Int → Int → V} {g' : Int → Int → D} (hg : ∀ F i j, Rp K F (g' i j) (g i j)) : OpD K (rI C g) (dIC C g') := by
  intro Z M σ H Δ F x y v w Φ c rx ry k Q q
  unfold dIC at k
  split at k
  · exact ⟨_, _, rx, ry, k.1, q _ H _ F (Ex.refl _) c (hg F _ _) k.2⟩
  · exact k.elim
theorem qe_sub (ha : QE X Z a ra) (hb : QE X Z b rb) : QE X Z (.BinOp a .Sub b pos) (dOp (dI fun i j => .int (i - j)) ra rb) := qe_bin op_sub (opD_I fun _ _ _ => rfl) ha hb
theorem qe_mul (ha : QE X Z a ra) (hb : QE X Z b rb) : QE X Z (.BinOp a .Mult b pos) (dOp (dIC CMul fun i j => .int (i * j)) ra rb) := qe_bin op_mul (opD_IC fun _ _ _ => rfl) ha hb
theorem qe_mulW (ha : QE X Z a ra) (hb : QE X Z b rb) : QE X Z (.BinOp a .Mult b pos) (dOp (dIC CMulW fun i j => .int (i * j)) ra rb) := qe_bin op_mulW (opD_IC fun _ _ _ => rfl) ha hb
theorem qe_fdiv (ha : QE X Z a ra) (hb : QE X Z b rb) : QE X Z (.BinOp a .FloorDiv b pos) (dOp (dIC CDiv fun i j => .int (i / j)) ra rb) := qe_bin op_fdiv (opD_IC fun _ _ _ => rfl) ha hb
theorem qe_fdivW (ha : QE X Z a ra) (hb : QE X Z b rb) : QE X Z (.BinOp a .FloorDiv b pos) (dOp (dIC CDivW fun i j => .int (i / j)) ra rb) := qe_bin op_fdivW (opD_IC fun _ _ _ => rfl) ha hb
theorem qe_mod (ha : QE X Z a ra) (hb : QE X Z b rb) : QE X Z (.BinOp a .Mod b pos) (dOp (dIC (fun _ j => 0 < j) fun i j => .int (i % j)) ra rb) := qe_bin op_mod (opD_IC fun _ _ _ => rfl) ha hb
theorem qe_pow (ha : QE X Z a ra) (hb : QE X Z b rb) : QE X Z (.BinOp a .Pow b pos) (dOp (dIC CPow fun i j => .int (i ^ j.toNat)) ra rb) := qe_bin op_pow (opD_IC fun _ _ _ => rfl) ha hb
/-- + : ints, texts, lists, tuples -/
def dAdd : D → D → (D → Prop) → Prop := fun x y Φ => match x, y with
  | .int i, .int j => Φ (.int (i + j))
  | .str i, .str j => i.length + j.length ≤ sizeLine ∧ Φ (.str (i ++ j))
  | .lst xs, .lst ys => xs.length + ys.length ≤ sizeLine ∧ Φ (.lst (xs ++ ys))
  | .tup xs, .tup ys => xs ≠ [] ∧ xs.length + ys.length ≤ sizeLine ∧ Φ (.tup (xs ++ ys))
  | _, _ => False
def rAddAll (K : PySem.W.Frag) : R2 := fun x y H Q => (rI0 (fun i j => .int (i + j)) x y H Q ∨ (∃ i j, x = .str i ∧ y = .str j ∧ i.length + j.length ≤ sizeLine ∧ Q (.str (i ++ j)) H)) ∨ (rCat x y H Q ∨ rCatT K x y H Q)
theorem op_addAll : OpR X (binaryOp .Add) (rAddAll X.K) := OpR.or (OpR.or op_add op_add_str) (OpR.or op_cat op_catT)
theorem opD_add {K : PySem.W.Frag} : OpD K (rAddAll K) dAdd := by
  intro Z M σ H Δ F x y v w Φ c rx ry k Q q
  unfold dAdd at k
  split at k
  · exact .inl (.inl ⟨_, _, rx, ry, q _ H (.int _) F (Ex.refl _) c rfl k⟩)
  · exact .inl (.inr ⟨_, _, rx, ry, k.1, q _ H (.str _) F (Ex.refl _) c rfl k.2⟩)
  · obtain ⟨a, vs, e1, h1, h2⟩ := rx
    obtain ⟨b, ws, e2, h3, h4⟩ := ry
    obtain ⟨k1, k2⟩ := k
    refine .inr (.inl ⟨a, b, vs, ws, e1, e2, c.bs.fH _ _ h1, c.bs.fH _ _ h3, by rw [rps_len h2, rps_len h4]; exact k1, fun p hp => ?_⟩)
    exact q _ _ (.lst _) _ (c.bs.exF hp _) (c.new hp _) ⟨p, _, rfl, upd_same, rps_mono (c.bs.exF hp _) _ _ (rps_app h2 h4)⟩ k2
  · rename_i xs ys
    obtain ⟨a, vs, e1, h1, h2⟩ := rx
    obtain ⟨b, ws, e2, h3, h4⟩ := ry
    obtain ⟨k0, k1, k2⟩ := k
    refine .inr (.inr ⟨a, b, vs, ws, e1, e2, Evl.ex_t c.bs.fH h1, Evl.ex_t c.bs.fH h3, fun z => ?_, by rw [rps_len h2, rps_len h4]; exact k1, fun z => ?_, fun z p hp => ?_⟩)
    · have := rps_len h2
      rw [z] at this
      exact k0 (List.length_eq_zero_iff.mp this.symm)
    · have hy : ys = [] := by
        have := rps_len h4
        rw [z] at this
        exact List.length_eq_zero_iff.mp this.symm
      refine q _ H (.tup xs) F (Ex.refl _) c ⟨a, vs, rfl, h1, h2⟩ ?_
      rw [hy, List.append_nil] at k2
      exact k2
    · exact q _ _ (.tup _) _ (c.bs.exF hp _) (c.new hp _) ⟨p, _, rfl, SqT.of upd_same, rps_mono (c.bs.exF hp _) _ _ (rps_app h2 h4)⟩ k2
  · exact k.elim
theorem qe_add (ha : QE X Z a ra) (hb : QE X Z b rb) : QE X Z (.BinOp a .Add b pos) (dOp dAdd ra rb) := qe_bin op_addAll opD_add ha hb

/-! ### comparisons of ints -/
abbrev dLt := dI fun i j => .bl (decide (i < j))
abbrev dLe := dI fun i j => .bl (decide (i ≤ j))
abbrev dGt := dI fun i j => .bl (decide (j < i))
abbrev dGe := dI fun i j => .bl (decide (j ≤ i))
theorem od_lt {K : PySem.W.Frag} : OpD K (rI0 fun i j => .bl (decide (i < j))) dLt := opD_I fun _ _ _ => rfl
theorem od_le {K : PySem.W.Frag} : OpD K (rI0 fun i j => .bl (decide (i ≤ j))) dLe := opD_I fun _ _ _ => rfl
theorem od_gt {K : PySem.W.Frag} : OpD K (rI0 fun i j => .bl (decide (j < i))) dGt := opD_I fun _ _ _ => rfl
theorem od_ge {K : PySem.W.Frag} : OpD K (rI0 fun i j => .bl (decide (j ≤ i))) dGe := opD_I fun _ _ _ => rfl

/-! ### == over data -/
/-! whole data -/
mutual
def D.py : D → PyData
  | .non => .none
  | .bl b => .bool b
  | .int i => .int i
  | .str x => .str x
  | .tup ds => .tuple (pys ds)
  | .lst ds => .list (pys ds)
  | .scr ns => .list (ns.map .int)
  | .ref _ => .none
  | .rng _ _ => .none
def pys : List D → List PyData
  | [] => []
  | d :: ds => d.py :: pys ds
end
mutual
def D.pure : D → Bool
  | .tup ds => pures ds
  | .lst ds => pures ds
  | .ref _ => false
  | .rng _ _ => false
  | _ => true
def pures : List D → Bool
  | [] => true
  | d :: ds => d.pure && pures ds
end
theorem dpAll_ints {K : PySem.W.Frag} {H : Hp} : ∀ ns : List Int, DpAll K H (ns.map V.int) (ns.map PyData.int)
  | [] => .nil
  | n :: ns => .cons (.int n) (dpAll_ints ns)
mutual
theorem rp_dp {K : PySem.W.Frag} {F H : Hp} (e : Ex F H) : ∀ (d : D) (v : V), d.pure = true → Rp K F d v → Dp K H v d.py
  | .non, v, _, h => by rw [show v = .non from h]; exact .non
  | .bl b, v, _, h => by rw [show v = .bl b from h]; exact .bl b
  | .int i, v, _, h => by rw [show v = .int i from h]; exact .int i
  | .str x, v, _, h => by rw [show v = .str x from h]; exact .str x
  | .tup ds, v, p, h => by
    obtain ⟨a, vs, e1, h1, h2⟩ := h
    rw [e1]
    exact .tup (Evl.ex_t e h1) (rps_dp e ds vs p h2)
  | .lst ds, v, p, h => by
    obtain ⟨a, vs, e1, h1, h2⟩ := h
    rw [e1]
    exact .lst (SqL.of (e _ _ h1)) (rps_dp e ds vs p h2)
  | .scr ns, v, p, h => by
    obtain ⟨a, e1, h1⟩ := h
    rw [e1]
    exact .lst (Evl.ex_l e h1) (dpAll_ints ns)
  | .ref _, _, p, _ => by cases p
  | .rng _ _, _, p, _ => by cases p
theorem rps_dp {K : PySem.W.Frag} {F H : Hp} (e : Ex F H) : ∀ (ds : List D) (vs : List V), pures ds = true → Rps K F ds vs → DpAll K H vs (pys ds)
  | [], vs, _, h => by rw [show vs = [] from h]; exact .nil
  | d :: ds, vs, p, h => by
    obtain ⟨v, r, e1, h1, h2⟩ := h
    rw [e1]
    have p' : (d.pure && pures ds) = true := p
    rw [Bool.and_eq_true] at p'
    exact .cons (rp_dp e d v p'.1 h1) (rps_dp e ds r p'.2 h2)
end
def dEq : D → D → (D → Prop) → Prop := fun x y Φ => x.pure = true ∧ y.pure = true ∧ SeqAt.shaped x.py = true ∧ SeqAt.shaped y.py = true ∧ Φ (.bl (PyData.eqv x.py y.py))
def dNe : D → D → (D → Prop) → Prop := fun x y Φ => x.pure = true ∧ y.pure = true ∧ SeqAt.shaped x.py = true ∧ SeqAt.shaped y.py = true ∧ Φ (.bl (!PyData.eqv x.py y.py))
theorem od_eq {K : PySem.W.Frag} : OpD K (rEqD K) dEq := by
  intro Z M σ H Δ F x y v w Φ c rx ry k Q q
  obtain ⟨h1, h2, h3, h4, k⟩ := k
  exact ⟨_, _, rp_dp c.bs.fH x v h1 rx, rp_dp c.bs.fH y w h2 ry, h3, h4, q _ H (.bl _) F (Ex.refl _) c rfl k⟩
theorem od_ne {K : PySem.W.Frag} : OpD K (rNeD K) dNe := by
  intro Z M σ H Δ F x y v w Φ c rx ry k Q q
  obtain ⟨h1, h2, h3, h4, k⟩ := k
  exact ⟨_, _, rp_dp c.bs.fH x v h1 rx, rp_dp c.bs.fH y w h2 ry, h3, h4, q _ H (.bl _) F (Ex.refl _) c rfl k⟩
/-- == of two ints, texts or truth values -/
def dEqS : D → D → (D → Prop) → Prop := fun x y Φ => match x, y with
  | .int i, .int j => Φ (.bl (decide (i = j)))
  | .str i, .str j => Φ (.bl (decide (i = j)))
  | .bl i, .bl j => Φ (.bl (decide (i = j)))
  | _, _ => False
def dNeS : D → D → (D → Prop) → Prop := fun x y Φ => match x, y with
  | .int i, .int j => Φ (.bl (!decide (i = j)))
  | .str i, .str j => Φ (.bl (!decide (i = j)))
  | .bl i, .bl j => Φ (.bl (!decide (i = j)))
  | _, _ => False
theorem dec_vi {i j : Int} : decide (V.int i = V.int j) = decide (i = j) := by simp
theorem dec_vs {i j : Str} : decide (V.str i = V.str j) = decide (i = j) := by simp
theorem dec_vb {i j : Bool} : decide (V.bl i = V.bl j) = decide (i = j) := by simp
theorem od_eqS {K : PySem.W.Frag} : OpD K rEq dEqS := by
  intro Z M σ H Δ F x y v w Φ c rx ry k Q q
  unfold dEqS at k
  split at k
  · cases rx; cases ry
    exact ⟨rfl, by rw [dec_vi]; exact q _ H (.bl _) F (Ex.refl _) c rfl k⟩
  · cases rx; cases ry
    exact ⟨rfl, by rw [dec_vs]; exact q _ H (.bl _) F (Ex.refl _) c rfl k⟩
  · cases rx; cases ry
    exact ⟨rfl, by rw [dec_vb]; exact q _ H (.bl _) F (Ex.refl _) c rfl k⟩
  · exact k.elim
theorem od_neS {K : PySem.W.Frag} : OpD K rNe dNeS := by
  intro Z M σ H Δ F x y v w Φ c rx ry k Q q
  unfold dNeS at k
  split at k
  · cases rx; cases ry
    exact ⟨rfl, by rw [dec_vi]; exact q _ H (.bl _) F (Ex.refl _) c rfl k⟩
  · cases rx; cases ry
    exact ⟨rfl, by rw [dec_vs]; exact q _ H (.bl _) F (Ex.refl _) c rfl k⟩
  · cases rx; cases ry
    exact ⟨rfl, by rw [dec_vb]; exact q _ H (.bl _) F (Ex.refl _) c rfl k⟩
  · exact k.elim
/-- is, is not of truth values; is None -/
def dIsB : D → D → (D → Prop) → Prop := fun x y Φ => match x, y with
  | .bl i, .bl j => Φ (.bl (decide (i = j)))
  | _, _ => False
def dNotB : D → D → (D → Prop) → Prop := fun x y Φ => match x, y with
  | .bl i, .bl j => Φ (.bl (!decide (i = j)))
  | _, _ => False
theorem od_isB {K : PySem.W.Frag} : OpD K rIsB dIsB := by
  intro Z M σ H Δ F x y v w Φ c rx ry k Q q
  unfold dIsB at k
  split at k
  · exact ⟨_, _, rx, ry, q _ H (.bl _) F (Ex.refl _) c rfl k⟩
  · exact k.elim
theorem od_notB {K : PySem.W.Frag} : OpD K rNotB dNotB := by
  intro Z M σ H Δ F x y v w Φ c rx ry k Q q
  unfold dNotB at k
  split at k
  · exact ⟨_, _, rx, ry, q _ H (.bl _) F (Ex.refl _) c rfl k⟩
  · exact k.elim
def D.isNon : D → Bool
  | .non => true
  | _ => false
theorem rp_isNon {K : PySem.W.Frag} {F : Hp} {d : D} {v : V} (h : Rp K F d v) : decide (v = .non) = d.isNon := by
  cases d with
  | non => rw [show v = .non from h] <;> rfl
  | bl b => rw [show v = .bl b from h] <;> rfl
  | int b => rw [show v = .int b from h] <;> rfl
  | str b => rw [show v = .str b from h] <;> rfl
  | tup ds => obtain ⟨a, vs, e, _⟩ := h; rw [e] <;> rfl
  | lst ds => obtain ⟨a, vs, e, _⟩ := h; rw [e] <;> rfl
  | scr ds => obtain ⟨a, e, _⟩ := h; rw [e] <;> rfl
  | ref a => rw [show v = .ref a from h] <;> rfl
  | rng lo hi => obtain ⟨a, e, _⟩ := h; rw [e] <;> rfl
def dIsN : D → D → (D → Prop) → Prop := fun x y Φ => match y with
  | .non => Φ (.bl x.isNon)
  | _ => False
def dNotN : D → D → (D → Prop) → Prop := fun x y Φ => match y with
  | .non => Φ (.bl (!x.isNon))
  | _ => False
def rIsNo : R2 := fun x y H Q => y = .non ∧ Q (.bl (decide (x = .non))) H
def rNotNo : R2 := fun x y H Q => y = .non ∧ Q (.bl (!decide (x = .non))) H
theorem op_isNo : OpR X (compareOp .Is) rIsNo := op_isN
theorem op_notNo : OpR X (compareOp .IsNot) rNotNo := op_notN
theorem od_isN {K : PySem.W.Frag} : OpD K rIsNo dIsN := by
  intro Z M σ H Δ F x y v w Φ c rx ry k Q q
  unfold dIsN at k
  split at k
  · exact ⟨ry, by rw [rp_isNon rx]; exact q _ H (.bl _) F (Ex.refl _) c rfl k⟩
  · exact k.elim
theorem od_notN {K : PySem.W.Frag} : OpD K rNotNo dNotN := by
  intro Z M σ H Δ F x y v w Φ c rx ry k Q q
  unfold dNotN at k
  split at k
  · exact ⟨ry, by rw [rp_isNon rx]; exact q _ H (.bl _) F (Ex.refl _) c rfl k⟩
  · exact k.elim
end
end DL

set_option Elab.async false
set_option linter.all false
set_option maxRecDepth 100000
set_option maxHeartbeats 4000000
namespace DL
open PySem L2
open Evl (Ex)
section
variable {X : Cx} {Z : Zx} {e a b c : Expr} {ra rb rc r : RE} {rt ru : RT} {pos : Pos} {es : List Expr} {rl : RA} {n : Nat} {K : PySem.W.Frag}

/-! ### arguments, tuples, lists -/
def dNil : RA := fun Δ M Φ => Φ [] Δ M
def dCons (r : RE) (rl : RA) : RA := fun Δ M Φ => r Δ M fun d Δ1 M1 => rl Δ1 M1 fun ds Δ2 M2 => Φ (d :: ds) Δ2 M2
theorem qa_nil : QA X Z 0 [] dNil := ⟨_, pa_nil, fun M σ H Δ F Φ c h Q q => q [] H [] Δ M F (Ex.refl _) c rfl rfl h⟩
theorem qa_cons (he : QE X Z e r) (hr : QA X Z n es rl) (hs : starEach (e :: es) X.env = (false, eval e X.env) :: starEach es X.env := by rfl) : QA X Z (n + 1) (e :: es) (dCons r rl) := by
  obtain ⟨t, p, s⟩ := he
  obtain ⟨u, p', s'⟩ := hr
  refine ⟨_, pa_cons p p' hs, fun M σ H Δ F Φ c h Q q => ?_⟩
  refine s M σ H Δ F _ c h _ fun v H1 x Δ1 M1 F1 e1 c1 r1 h1 => ?_
  refine s' M1 σ H1 Δ1 F1 _ c1 h1 _ fun vs H2 ds Δ2 M2 F2 e2 c2 r2 hl h2 => ?_
  exact q _ H2 (x :: ds) Δ2 M2 F2 (e1.trans e2) c2 ⟨v, vs, rfl, rp_mono e2 _ _ r1, r2⟩ (by rw [List.length_cons, hl]) h2
def dTup (rl : RA) : RE := fun Δ M Φ => rl Δ M fun ds Δ1 M1 => Φ (.tup ds) Δ1 M1
theorem line_of {n : Nat} (h : n ≤ 1000) : n ≤ sizeLine := Nat.le_trans h (by decide)
theorem qe_tup {x1} (h : QA X Z n es rl) (hn : n ≤ 1000 := by decide) : QE X Z (.Tuple es x1 pos) (dTup rl) := by
  obtain ⟨t, p, s⟩ := h
  refine ⟨_, pe_tup p, fun M σ H Δ F Φ c h Q q => ?_⟩
  refine s M σ H Δ F _ c h _ fun vs H1 ds Δ1 M1 F1 e1 c1 r1 hl h1 => ?_
  refine ⟨by rw [rps_len r1, hl]; exact line_of hn, fun p hp => ?_⟩
  exact q _ _ (.tup ds) Δ1 M1 _ (e1.trans (c1.bs.exF hp _)) (c1.new hp _) ⟨p, vs, rfl, SqT.of upd_same, rps_mono (c1.bs.exF hp _) _ _ r1⟩ h1

/-! ### expressions that make a new list -/
def SimL (K : PySem.W.Frag) (Z : Zx) (t : TE) (r : RA) : Prop := ∀ (M : Mem) (σ : L2.St) (H : Hp) (Δ : List Sl) (F : Hp) (Φ : List D → List Sl → Mem → Prop), Cn K Z M σ H Δ F → r Δ M Φ →
  ∀ Q : VK, (∀ p H1 vs ds Δ' M' F', Ex F F' → Cn K Z M' σ H1 Δ' F' → H1 p = none → Rps K F' ds vs → Φ ds Δ' M' → Q (.ref p) (upd H1 p (.lst vs))) → t σ H Q
def QL (X : Cx) (Z : Zx) (e : Expr) (r : RA) : Prop := ∃ t, PE X e t ∧ SimL X.K Z t r
/-- frozen at once -/
def dFz (rl : RA) : RE := fun Δ M Φ => rl Δ M fun ds Δ1 M1 => Φ (.lst ds) Δ1 M1
theorem qe_fz (h : QL X Z e rl) : QE X Z e (dFz rl) := by
  obtain ⟨t, p, s⟩ := h
  refine ⟨t, p, fun M σ H Δ F Φ c h Q q => ?_⟩
  refine s M σ H Δ F _ c h Q fun p H1 vs ds Δ1 M1 F1 e1 c1 hp r1 h1 => ?_
  exact q _ _ (.lst ds) Δ1 M1 _ (e1.trans (c1.bs.exF hp _)) (c1.new hp _) ⟨p, vs, rfl, upd_same, rps_mono (c1.bs.exF hp _) _ _ r1⟩ h1
theorem ql_lst (h : QA X Z n es rl) (hn : n ≤ 1000 := by decide) : QL X Z (.List es pos) rl := by
  obtain ⟨t, p, s⟩ := h
  refine ⟨_, pe_lst p, fun M σ H Δ F Φ c h Q q => ?_⟩
  refine s M σ H Δ F _ c h _ fun vs H1 ds Δ1 M1 F1 e1 c1 r1 hl h1 => ?_
  exact ⟨by rw [rps_len r1, hl]; exact line_of hn, fun p hp => q p H1 vs ds Δ1 M1 F1 e1 c1 hp r1 h1⟩
theorem qe_lst (h : QA X Z n es rl) (hn : n ≤ 1000 := by decide) : QE X Z (.List es pos) (dFz rl) := qe_fz (ql_lst h hn)

/-! ### truth values -/
def dNot (r : RT) : RT := fun Δ M Φ => r Δ M fun b Δ1 M1 => Φ (!b) Δ1 M1
theorem qt_not (h : QT X Z e rt) : QT X Z (.UnaryOp .Not e pos) (dNot rt) := by
  obtain ⟨t, p, s⟩ := h
  refine ⟨_, pt_not p, fun M σ H Δ F Φ c h Q q => ?_⟩
  exact s M σ H Δ F _ c h _ fun b H1 Δ1 M1 F1 e1 c1 h1 => q (!b) H1 Δ1 M1 F1 e1 c1 h1
def dAnd (r u : RT) : RT := fun Δ M Φ => r Δ M fun b Δ1 M1 => match b with
  | true => u Δ1 M1 Φ
  | false => Φ false Δ1 M1
def dOr (r u : RT) : RT := fun Δ M Φ => r Δ M fun b Δ1 M1 => match b with
  | true => Φ true Δ1 M1
  | false => u Δ1 M1 Φ
theorem simT_and {t u : TT} (h1 : SimT K Z t rt) (h2 : SimT K Z u ru) : SimT K Z (tAnd t u) (dAnd rt ru) := by
  intro M σ H Δ F Φ c h Q q
  refine h1 M σ H Δ F _ c h _ fun b H1 Δ1 M1 F1 e1 c1 k1 => ?_
  cases b with
  | true => exact iteT (h2 M1 σ H1 Δ1 F1 Φ c1 k1 Q fun b H2 Δ2 M2 F2 e2 c2 k2 => q b H2 Δ2 M2 F2 (e1.trans e2) c2 k2)
  | false => exact iteF (q false H1 Δ1 M1 F1 e1 c1 k1)
theorem simT_or {t u : TT} (h1 : SimT K Z t rt) (h2 : SimT K Z u ru) : SimT K Z (tOr t u) (dOr rt ru) := by
  intro M σ H Δ F Φ c h Q q
  refine h1 M σ H Δ F _ c h _ fun b H1 Δ1 M1 F1 e1 c1 k1 => ?_
  cases b with
  | false => exact iteF (h2 M1 σ H1 Δ1 F1 Φ c1 k1 Q fun b H2 Δ2 M2 F2 e2 c2 k2 => q b H2 Δ2 M2 F2 (e1.trans e2) c2 k2)
  | true => exact iteT (q true H1 Δ1 M1 F1 e1 c1 k1)
theorem qw_and1 (h : QT X Z a rt) : QW X Z (.BoolOp .And [a] pos) rt := by
  obtain ⟨t, p, s⟩ := h
  exact ⟨t, pw_and1 p, s⟩
theorem qw_or1 (h : QT X Z a rt) : QW X Z (.BoolOp .Or [a] pos) rt := by
  obtain ⟨t, p, s⟩ := h
  exact ⟨t, pw_or1 p, s⟩
theorem qw_and {rest : List Expr} (h : QT X Z a rt) (h2 : QW X Z (.BoolOp .And (b :: rest) pos) ru) : QW X Z (.BoolOp .And (a :: b :: rest) pos) (dAnd rt ru) := by
  obtain ⟨t, p, s⟩ := h
  obtain ⟨u, p2, s2⟩ := h2
  exact ⟨_, pw_and p p2, simT_and s s2⟩
theorem qw_or {rest : List Expr} (h : QT X Z a rt) (h2 : QW X Z (.BoolOp .Or (b :: rest) pos) ru) : QW X Z (.BoolOp .Or (a :: b :: rest) pos) (dOr rt ru) := by
  obtain ⟨t, p, s⟩ := h
  obtain ⟨u, p2, s2⟩ := h2
  exact ⟨_, pw_or p p2, simT_or s s2⟩
theorem QW.qt (h : QW X Z e rt) : QT X Z e rt := by
  obtain ⟨t, p, s⟩ := h
  exact ⟨t, p.pt, s⟩
/-- as values -/
def dB (r : RT) : RE := fun Δ M Φ => r Δ M fun b Δ1 M1 => Φ (.bl b) Δ1 M1
def dNotV (r : RE) : RE := fun Δ M Φ => r Δ M fun x Δ1 M1 => match x with
  | .bl b => Φ (.bl (!b)) Δ1 M1
  | _ => False
def dAndV (r u : RE) : RE := fun Δ M Φ => r Δ M fun x Δ1 M1 => match x with
  | .bl k => bs k fun k => match k with
    | true => u Δ1 M1 Φ
    | false => Φ (.bl false) Δ1 M1
  | _ => False
def dOrV (r u : RE) : RE := fun Δ M Φ => r Δ M fun x Δ1 M1 => match x with
  | .bl k => bs k fun k => match k with
    | true => Φ (.bl true) Δ1 M1
    | false => u Δ1 M1 Φ
  | _ => False
theorem qe_not (h : QE X Z e r) : QE X Z (.UnaryOp .Not e pos) (dNotV r) := by
  obtain ⟨t, p, s⟩ := h
  refine ⟨_, pe_not p, fun M σ H Δ F Φ c h Q q => ?_⟩
  refine s M σ H Δ F _ c h _ fun v H1 x Δ1 M1 F1 e1 c1 r1 h1 => ?_
  cases x with
  | bl b => exact ⟨b, r1, q _ H1 (.bl (!b)) Δ1 M1 F1 e1 c1 rfl h1⟩
  | _ => exact h1.elim
theorem qe_one {op} (h : QE X Z a r) : QE X Z (.BoolOp op [a] pos) r := by
  obtain ⟨t, p, s⟩ := h
  exact ⟨t, pe_one p, s⟩
theorem qe_and {rest : List Expr} (h : QE X Z a ra) (h2 : QE X Z (.BoolOp .And (b :: rest) pos) rb) : QE X Z (.BoolOp .And (a :: b :: rest) pos) (dAndV ra rb) := by
  obtain ⟨t, p, s⟩ := h
  obtain ⟨u, p2, s2⟩ := h2
  refine ⟨_, pe_and p p2, fun M σ H Δ F Φ c h Q q => ?_⟩
  refine s M σ H Δ F _ c h _ fun v H1 x Δ1 M1 F1 e1 c1 r1 h1 => ?_
  cases x with
  | bl b =>
    refine ⟨b, r1, ?_⟩
    replace h1 := bs_of h1
    cases b with
    | true => exact iteT (s2 M1 σ H1 Δ1 F1 Φ c1 h1 Q fun v H2 d Δ2 M2 F2 e2 c2 r2 k2 => q v H2 d Δ2 M2 F2 (e1.trans e2) c2 r2 k2)
    | false => exact iteF (q _ H1 (.bl false) Δ1 M1 F1 e1 c1 rfl h1)
  | _ => exact h1.elim
theorem qe_or {rest : List Expr} (h : QE X Z a ra) (h2 : QE X Z (.BoolOp .Or (b :: rest) pos) rb) : QE X Z (.BoolOp .Or (a :: b :: rest) pos) (dOrV ra rb) := by
  obtain ⟨t, p, s⟩ := h
  obtain ⟨u, p2, s2⟩ := h2
  refine ⟨_, pe_or p p2, fun M σ H Δ F Φ c h Q q => ?_⟩
  refine s M σ H Δ F _ c h _ fun v H1 x Δ1 M1 F1 e1 c1 r1 h1 => ?_
  cases x with
  | bl b =>
    refine ⟨b, r1, ?_⟩
    replace h1 := bs_of h1
    cases b with
    | true => exact iteT (q _ H1 (.bl true) Δ1 M1 F1 e1 c1 rfl h1)
    | false => exact iteF (s2 M1 σ H1 Δ1 F1 Φ c1 h1 Q fun v H2 d Δ2 M2 F2 e2 c2 r2 k2 => q v H2 d Δ2 M2 F2 (e1.trans e2) c2 r2 k2)
  | _ => exact h1.elim
/-- a if t else b -/
def dIf (t : RT) (ra rb : RE) : RE := fun Δ M Φ => t Δ M fun k Δ1 M1 => match k with
  | true => ra Δ1 M1 Φ
  | false => rb Δ1 M1 Φ
theorem qe_if {t : Expr} (ht : QT X Z t rt) (ha : QE X Z a ra) (hb : QE X Z b rb) : QE X Z (.IfExp t a b pos) (dIf rt ra rb) := by
  obtain ⟨u, p, s⟩ := ht
  obtain ⟨ta, p1, s1⟩ := ha
  obtain ⟨tb, p2, s2⟩ := hb
  refine ⟨_, pe_ifExp p p1 p2, fun M σ H Δ F Φ c h Q q => ?_⟩
  refine s M σ H Δ F _ c h _ fun k H1 Δ1 M1 F1 e1 c1 h1 => ?_
  cases k with
  | true => exact iteT (s1 M1 σ H1 Δ1 F1 Φ c1 h1 Q fun v H2 d Δ2 M2 F2 e2 c2 r2 k2 => q v H2 d Δ2 M2 F2 (e1.trans e2) c2 r2 k2)
  | false => exact iteF (s2 M1 σ H1 Δ1 F1 Φ c1 h1 Q fun v H2 d Δ2 M2 F2 e2 c2 r2 k2 => q v H2 d Δ2 M2 F2 (e1.trans e2) c2 r2 k2)

/-! ### subscripts, len -/
def dIx : D → D → (D → Prop) → Prop := fun x y Φ => match x, y with
  | .lst ds, .int i => ∃ d, atI ds i = some d ∧ Φ d
  | .tup ds, .int i => ∃ d, atI ds i = some d ∧ Φ d
  | .scr ns, .int i => ∃ n, atI ns i = some n ∧ Φ (.int n)
  | .str z, .int i => z.length ≤ sizeLine ∧ ∃ k, atI z.cps.toList i = some k ∧ Φ (.str ⟨#[k]⟩)
  | _, _ => False
theorem atI_rps {F : Hp} {ds : List D} {vs : List V} {i : Int} {d : D} (h : Rps K F ds vs) (ha : atI ds i = some d) : ∃ v, atI vs i = some v ∧ Rp K F d v := by
  unfold atI at ha ⊢
  rw [rps_len h]
  cases hj : ixN ds.length i with
  | none => rw [hj] at ha; cases ha
  | some j =>
    rw [hj] at ha
    exact rps_get h ha
theorem atI_map {α β : Type} (f : α → β) {xs : List α} {i : Int} {x : α} (h : atI xs i = some x) : atI (xs.map f) i = some (f x) := by
  unfold atI at h ⊢
  rw [List.length_map]
  cases hj : ixN xs.length i with
  | none => rw [hj] at h; cases h
  | some j =>
    rw [hj] at h
    have h' : xs[j]? = some x := h
    show (xs.map f)[j]? = some (f x)
    rw [List.getElem?_map, h'] <;> rfl
theorem od_ix : OpD K (rIx K) dIx := by
  intro Z M σ H Δ F x y v w Φ c rx ry k Q q
  unfold dIx at k
  split at k
  · obtain ⟨a, vs, e1, h1, h2⟩ := rx
    obtain ⟨d, k1, k2⟩ := k
    obtain ⟨u, h3, h4⟩ := atI_rps h2 k1
    exact .inl ⟨a, vs, _, u, e1, ry, SqL.of (c.bs.fH _ _ h1), h3, q u H d F (Ex.refl _) c h4 k2⟩
  · obtain ⟨a, vs, e1, h1, h2⟩ := rx
    obtain ⟨d, k1, k2⟩ := k
    obtain ⟨u, h3, h4⟩ := atI_rps h2 k1
    exact .inr (.inl ⟨a, vs, _, u, e1, ry, Evl.ex_t c.bs.fH h1, h3, q u H d F (Ex.refl _) c h4 k2⟩)
  · obtain ⟨a, e1, h1⟩ := rx
    obtain ⟨n, k1, k2⟩ := k
    exact .inl ⟨a, _, _, .int n, e1, ry, Evl.ex_l c.bs.fH h1, atI_map V.int k1, q _ H (.int n) F (Ex.refl _) c rfl k2⟩
  · obtain ⟨k0, n, k1, k2⟩ := k
    exact .inr (.inr ⟨_, _, n, rx, ry, k0, k1, q _ H (.str _) F (Ex.refl _) c rfl k2⟩)
  · exact k.elim
theorem qe_ix (ha : QE X Z a ra) (hb : QE X Z b rb) (hs : PlainIx b := by intro _ _; rfl) : QE X Z (.Subscript a b pos) (dOp dIx ra rb) := by
  obtain ⟨ta, pa, sa⟩ := ha
  obtain ⟨tb, pb, sb⟩ := hb
  exact ⟨_, pe_ix ix_seq pa pb hs, sim_op od_ix sa sb⟩
/-- xs[i], xs an own list's name -/
def dIxV (j : Nat) (rb : RE) : RE := fun Δ M Φ => rb Δ M fun y Δ1 M1 => match Δ1[j]?, y with
  | some (.own ds), .int i => ∃ d, atI ds i = some d ∧ Φ d Δ1 M1
  | _, _ => False
/-- a slot that holds a list of its own -/
def isOwn (Δ : List Sl) (j : Nat) : Prop := ∃ ds, Δ[j]? = some (.own ds)
def dIxO (j : Nat) (rb : RE) : RE := fun Δ M Φ => isOwn Δ j ∧ dIxV j rb Δ M Φ
theorem qe_ixO (j : Nat) {x : Str} {p2 : Pos} (hb : QE X Z b rb) (hN : X.N[j]? = some x := by rfl) (hv : Vis X.env.scope x := by first | exact Or.inl rfl | exact Or.inr (Or.inl rfl) | exact Or.inr (Or.inr rfl)) (hd : (x == ("__debug__" : Str)) = false := by decide)
    (hcd : (x == ("__classdict__" : Str)) = false := by decide) (hs : PlainIx b := by intro _ _; rfl) : QE X Z (.Subscript (.Name x p2) b pos) (dIxO j rb) := by
  obtain ⟨tb, pb, sb⟩ := hb
  refine ⟨_, pe_ix ix_seq (pe_var (i := j) hN hv hd hcd) pb hs, ?_⟩
  rintro M σ H Δ F Φ c ⟨⟨ds0, h0⟩, h⟩ Q q
  obtain ⟨p0, vs0, hv0, _⟩ := c.slot j _ h0
  refine ⟨_, hv0, ?_⟩
  refine sb M σ H Δ F _ c h _ fun w H1 y Δ1 M1 F1 e1 c1 r1 h1 => ?_
  split at h1
  · rename_i ds i hd
    obtain ⟨d, k1, k2⟩ := h1
    obtain ⟨p, vs, e2, g1, g2, g3, g4, g5⟩ := c1.slot j _ hd
    rw [hv0] at e2
    cases e2
    obtain ⟨u, h3, h4⟩ := atI_rps g2 k1
    exact .inl ⟨p0, vs, _, u, rfl, r1, SqL.of g1, h3, q u H1 d Δ1 M1 F1 e1 c1 h4 k2⟩
  · exact h1.elim

/-! ### built-in functions on values -/
/-- a call on data that makes nothing but new frozen objects -/
def CallD (K : PySem.W.Frag) (rv : List V → Hp → VK → Prop) (dr : List D → (D → Prop) → Prop) : Prop := ∀ (Z : Zx) (M : Mem) (σ : L2.St) (H : Hp) (Δ : List Sl) (F : Hp) (xs : List D) (vs : List V) (Φ : D → Prop), Cn K Z M σ H Δ F → Rps K F xs vs → dr xs Φ →
  ∀ Q : VK, (∀ u H' d F', Ex F F' → Cn K Z M σ H' Δ F' → Rp K F' d u → Φ d → Q u H') → rv vs H Q
def dCB (dr : List D → (D → Prop) → Prop) (rl : RA) : RE := fun Δ M Φ => rl Δ M fun ds Δ1 M1 => dr ds fun d => Φ d Δ1 M1
theorem sim_cb {rv : List V → Hp → VK → Prop} {dr : List D → (D → Prop) → Prop} {t : TA} (hc : CallD K rv dr) (h : SimA K Z n t rl) : Sim K Z (tCB rv t) (dCB dr rl) := by
  intro M σ H Δ F Φ c k Q q
  refine h M σ H Δ F _ c k _ fun vs H1 ds Δ1 M1 F1 e1 c1 r1 hl h1 => ?_
  exact hc Z M1 σ H1 Δ1 F1 ds vs _ c1 r1 h1 Q fun u H2 d F2 e2 c2 r2 k2 => q u H2 d Δ1 M1 F2 (e1.trans e2) c2 r2 k2
theorem CallD.or {r1 r2 : List V → Hp → VK → Prop} {d1 d2 dr : List D → (D → Prop) → Prop} (h1 : CallD K r1 d1) (h2 : CallD K r2 d2) (h : ∀ xs Φ, dr xs Φ → d1 xs Φ ∨ d2 xs Φ) : CallD K (fun xs H Q => r1 xs H Q ∨ r2 xs H Q) dr := by
  intro Z M σ H Δ F xs vs Φ c rx k Q q
  rcases h xs Φ k with k | k
  · exact .inl (h1 Z M σ H Δ F xs vs Φ c rx k Q q)
  · exact .inr (h2 Z M σ H Δ F xs vs Φ c rx k Q q)
theorem qe_cb {id : String} {x : Str} {p : Pos} {rv : List V → Hp → VK → Prop} {dr : List D → (D → Prop) → Prop} (hr : CallR X (.builtin id) rv) (hd : CallD X.K rv dr) (hg : Gl X x) (hm : X.mg x = none) (hb : bootBuiltins x = some (.builtin id)) (ha : QA X Z n (e :: es) rl) (hn : x ≠ "__name__" := by decide) (hdb : (x == ("__debug__" : Str)) = false := by decide)
    (he : starEach (e :: es) X.env = (false, eval e X.env) :: starEach es X.env := by rfl) (hpl : (backTo pos (starEach es X.env)).any (·.1) = false := by rfl) : QE X Z (.Call (.Name x p) (e :: es) [] pos) (dCB dr rl) := by
  obtain ⟨t, pa, s⟩ := ha
  exact ⟨_, pe_callB hr hg hm hb pa hn hdb he hpl, sim_cb hd s⟩
theorem qe_cty {T : String} {x : Str} {p : Pos} {rv : List V → Hp → VK → Prop} {dr : List D → (D → Prop) → Prop} (hr : CallR X (.type T) rv) (hd : CallD X.K rv dr) (hg : Gl X x) (hm : X.mg x = none) (hb : bootBuiltins x = some (.type T)) (ha : QA X Z n (e :: es) rl) (hn : x ≠ "__name__" := by decide) (hdb : (x == ("__debug__" : Str)) = false := by decide)
    (he : starEach (e :: es) X.env = (false, eval e X.env) :: starEach es X.env := by rfl) (hpl : (backTo pos (starEach es X.env)).any (·.1) = false := by rfl) : QE X Z (.Call (.Name x p) (e :: es) [] pos) (dCB dr rl) := by
  obtain ⟨t, pa, s⟩ := ha
  exact ⟨_, pe_callTy hr hg hm hb pa hn hdb he hpl, sim_cb hd s⟩
/-- a module's own name for a built-in function -/
theorem qe_cbf {id : String} {x : Str} {p : Pos} {rv : List V → Hp → VK → Prop} {dr : List D → (D → Prop) → Prop} (hr : CallR X (.builtin id) rv) (hd : CallD X.K rv dr) (hg : Gl X x) (hm : X.mg x = some (.builtin id)) (ha : QA X Z n (e :: es) rl) (hdb : (x == ("__debug__" : Str)) = false := by decide)
    (he : starEach (e :: es) X.env = (false, eval e X.env) :: starEach es X.env := by rfl) (hpl : (backTo pos (starEach es X.env)).any (·.1) = false := by rfl) : QE X Z (.Call (.Name x p) (e :: es) [] pos) (dCB dr rl) := by
  obtain ⟨t, pa, s⟩ := ha
  exact ⟨_, pe_callBfun hr hg hm pa hdb he hpl, sim_cb hd s⟩
theorem vals1 {F : Hp} {x : D} {vs : List V} (h : Rps K F [x] vs) : ∃ v, vs = [v] ∧ Rp K F x v := by
  obtain ⟨v, r, e, h1, h2⟩ := h
  rw [show r = [] from h2] at e
  exact ⟨v, e, h1⟩
theorem vals2 {F : Hp} {x y : D} {vs : List V} (h : Rps K F [x, y] vs) : ∃ v w, vs = [v, w] ∧ Rp K F x v ∧ Rp K F y w := by
  obtain ⟨v, r, e, h1, h2⟩ := h
  obtain ⟨w, e2, h3⟩ := vals1 h2
  exact ⟨v, w, by rw [e, e2], h1, h3⟩
/-- len -/
def dLen : List D → (D → Prop) → Prop := fun xs Φ => match xs with
  | [.lst ds] => Φ (.int (ds.length : Nat))
  | [.tup ds] => Φ (.int (ds.length : Nat))
  | [.scr ns] => Φ (.int (ns.length : Nat))
  | [.str z] => z.length ≤ sizeLine ∧ Φ (.int (z.length : Nat))
  | _ => False
def rLenAll (K : PySem.W.Frag) : List V → Hp → VK → Prop := fun xs H Q => (∃ p ys, xs = [.ref p] ∧ (SqL K H p ys ∨ SqT K H p ys) ∧ Q (.int ys.length) H) ∨ (∃ z, xs = [.str z] ∧ z.length ≤ sizeLine ∧ Q (.int z.length) H)
theorem cr_lenAll : CallR X (.builtin "len") (rLenAll X.K) := CallR.or call_len_seq call_len_str
theorem cd_len : CallD K (rLenAll K) dLen := by
  intro Z M σ H Δ F xs vs Φ c rx k Q q
  unfold dLen at k
  split at k
  · obtain ⟨v, rfl, a, ws, e1, h1, h2⟩ := vals1 rx
    refine .inl ⟨a, ws, by rw [e1], .inl (SqL.of (c.bs.fH _ _ h1)), ?_⟩
    rw [rps_len h2]
    exact q _ H (.int _) F (Ex.refl _) c rfl k
  · obtain ⟨v, rfl, a, ws, e1, h1, h2⟩ := vals1 rx
    refine .inl ⟨a, ws, by rw [e1], .inr (Evl.ex_t c.bs.fH h1), ?_⟩
    rw [rps_len h2]
    exact q _ H (.int _) F (Ex.refl _) c rfl k
  · obtain ⟨v, rfl, a, e1, h1⟩ := vals1 rx
    refine .inl ⟨a, _, by rw [e1], .inl (Evl.ex_l c.bs.fH h1), ?_⟩
    rw [List.length_map]
    exact q _ H (.int _) F (Ex.refl _) c rfl k
  · obtain ⟨v, rfl, e1⟩ := vals1 rx
    exact .inr ⟨_, by rw [show v = _ from e1], k.1, q _ H (.int _) F (Ex.refl _) c rfl k.2⟩
  · exact k.elim
theorem qe_len {p : Pos} (hg : Gl X "len") (hm : X.mg "len" = none) (ha : QA X Z n (e :: es) rl) (he : starEach (e :: es) X.env = (false, eval e X.env) :: starEach es X.env := by rfl) (hpl : (backTo pos (starEach es X.env)).any (·.1) = false := by rfl) :
    QE X Z (.Call (.Name "len" p) (e :: es) [] pos) (dCB dLen rl) := qe_cb cr_lenAll cd_len hg hm boot_len ha (by decide) (by decide) he hpl
/-- len of an own list -/
def dLenO (j : Nat) : RE := fun Δ M Φ => match Δ[j]? with
  | some (.own ds) => Φ (.int (ds.length : Nat)) Δ M
  | _ => False
theorem qe_lenO (j : Nat) {x : Str} {p p2 : Pos} (hg : Gl X "len") (hm : X.mg "len" = none) (hN : X.N[j]? = some x := by rfl) (hv : Vis X.env.scope x := by first | exact Or.inl rfl | exact Or.inr (Or.inl rfl) | exact Or.inr (Or.inr rfl)) (hd : (x == ("__debug__" : Str)) = false := by decide)
    (hcd : (x == ("__classdict__" : Str)) = false := by decide) (he : starEach [.Name x p2] X.env = (false, eval (.Name x p2) X.env) :: starEach [] X.env := by rfl) (hpl : (backTo pos (starEach [] X.env)).any (·.1) = false := by rfl) :
    QE X Z (.Call (.Name "len" p) [.Name x p2] [] pos) (dLenO j) := by
  refine ⟨_, pe_callB cr_lenAll hg hm boot_len (pa_cons (pe_var (i := j) hN hv hd hcd) pa_nil he) (by decide) (by decide) he hpl, ?_⟩
  intro M σ H Δ F Φ c h Q q
  unfold dLenO at h
  split at h
  · rename_i ds hj
    obtain ⟨a, vs, hv0, g1, g2, _⟩ := c.slot j _ hj
    refine ⟨_, hv0, .inl ⟨a, vs, rfl, .inl (SqL.of g1), ?_⟩⟩
    rw [rps_len g2]
    exact q _ H (.int _) Δ M F (Ex.refl _) c rfl h
  · exact h.elim
/-- abs, int, gcd, max, min of ints -/
def dAbs : List D → (D → Prop) → Prop := fun xs Φ => match xs with
  | [.int i] => Φ (.int (if i < 0 then -i else i))
  | _ => False
def rAbs : List V → Hp → VK → Prop := fun xs H Q => ∃ i, xs = [.int i] ∧ Q (.int (if i < 0 then -i else i)) H
theorem cr_abs : CallR X (.builtin "abs") rAbs := call_abs
theorem cd_abs : CallD K rAbs dAbs := by
  intro Z M σ H Δ F xs vs Φ c rx k Q q
  unfold dAbs at k
  split at k
  · obtain ⟨v, rfl, e1⟩ := vals1 rx
    exact ⟨_, by rw [show v = _ from e1], q _ H (.int _) F (Ex.refl _) c rfl k⟩
  · exact k.elim
theorem qe_abs {p : Pos} (hg : Gl X "abs") (hm : X.mg "abs" = none) (ha : QA X Z n (e :: es) rl) (he : starEach (e :: es) X.env = (false, eval e X.env) :: starEach es X.env := by rfl) (hpl : (backTo pos (starEach es X.env)).any (·.1) = false := by rfl) :
    QE X Z (.Call (.Name "abs" p) (e :: es) [] pos) (dCB dAbs rl) := qe_cb cr_abs cd_abs hg hm (by decide +kernel) ha (by decide) (by decide) he hpl
def dInt : List D → (D → Prop) → Prop := fun xs Φ => match xs with
  | [.int i] => Φ (.int i)
  | [.bl k] => Φ (.int (if k then 1 else 0))
  | _ => False
def rInt : List V → Hp → VK → Prop := fun xs H Q => (∃ i, xs = [.int i] ∧ Q (.int i) H) ∨ ∃ k, xs = [.bl k] ∧ Q (.int (if k then 1 else 0)) H
theorem cr_int : CallR X (.type "int") rInt := call_int1
theorem cd_int : CallD K rInt dInt := by
  intro Z M σ H Δ F xs vs Φ c rx k Q q
  unfold dInt at k
  split at k
  · obtain ⟨v, rfl, e1⟩ := vals1 rx
    exact .inl ⟨_, by rw [show v = _ from e1], q _ H (.int _) F (Ex.refl _) c rfl k⟩
  · obtain ⟨v, rfl, e1⟩ := vals1 rx
    exact .inr ⟨_, by rw [show v = _ from e1], q _ H (.int _) F (Ex.refl _) c rfl k⟩
  · exact k.elim
theorem qe_int1 {p : Pos} (hg : Gl X "int") (hm : X.mg "int" = none) (ha : QA X Z n (e :: es) rl) (he : starEach (e :: es) X.env = (false, eval e X.env) :: starEach es X.env := by rfl) (hpl : (backTo pos (starEach es X.env)).any (·.1) = false := by rfl) :
    QE X Z (.Call (.Name "int" p) (e :: es) [] pos) (dCB dInt rl) := qe_cty cr_int cd_int hg hm (by decide +kernel) ha (by decide) (by decide) he hpl
def dI2 (g : Int → Int → D) : List D → (D → Prop) → Prop := fun xs Φ => match xs with
  | [.int i, .int j] => Φ (g i j)
  | _ => False
theorem cd_I2 {g : Int → Int → V} {g' : Int → Int → D} (hg : ∀ F i j, Rp K F (g' i j) (g i j)) : CallD K (fun xs H Q => ∃ i j, xs = [.int i, .int j] ∧ Q (g i j) H) (dI2 g') := by
  intro Z M σ H Δ F xs vs Φ c rx k Q q
  unfold dI2 at k
  split at k
  · obtain ⟨v, w, rfl, e1, e2⟩ := vals2 rx
    exact ⟨_, _, by rw [show v = _ from e1, show w = _ from e2], q _ H _ F (Ex.refl _) c (hg F _ _) k⟩
  · exact k.elim
theorem qe_gcd {p : Pos} {x : Str} (hg : Gl X x) (hm : X.mg x = some (.builtin "math.gcd")) (ha : QA X Z n (e :: es) rl) (hdb : (x == ("__debug__" : Str)) = false := by decide) (he : starEach (e :: es) X.env = (false, eval e X.env) :: starEach es X.env := by rfl) (hpl : (backTo pos (starEach es X.env)).any (·.1) = false := by rfl) :
    QE X Z (.Call (.Name x p) (e :: es) [] pos) (dCB (dI2 fun i j => .int ((Nat.gcd i.natAbs j.natAbs : Nat) : Int)) rl) := qe_cbf cr_gcd (cd_I2 fun _ _ _ => rfl) hg hm ha hdb he hpl
theorem qe_max2 {p : Pos} (hc : X.calm = true) (hg : Gl X "max") (hm : X.mg "max" = none) (ha : QA X Z n (e :: es) rl) (he : starEach (e :: es) X.env = (false, eval e X.env) :: starEach es X.env := by rfl) (hpl : (backTo pos (starEach es X.env)).any (·.1) = false := by rfl) :
    QE X Z (.Call (.Name "max" p) (e :: es) [] pos) (dCB (dI2 fun i j => .int (if j > i then j else i)) rl) := qe_cb (call_max2 hc) (cd_I2 fun _ _ _ => rfl) hg hm (by decide +kernel) ha (by decide) (by decide) he hpl
theorem qe_min2 {p : Pos} (hc : X.calm = true) (hg : Gl X "min") (hm : X.mg "min" = none) (ha : QA X Z n (e :: es) rl) (he : starEach (e :: es) X.env = (false, eval e X.env) :: starEach es X.env := by rfl) (hpl : (backTo pos (starEach es X.env)).any (·.1) = false := by rfl) :
    QE X Z (.Call (.Name "min" p) (e :: es) [] pos) (dCB (dI2 fun i j => .int (if j < i then j else i)) rl) := qe_cb (call_min2 hc) (cd_I2 fun _ _ _ => rfl) hg hm (by decide +kernel) ha (by decide) (by decide) he hpl
/-- -x -/
def dNeg (r : RE) : RE := fun Δ M Φ => r Δ M fun x Δ1 M1 => match x with
  | .int i => Φ (.int (-i)) Δ1 M1
  | _ => False
theorem qe_neg (h : QE X Z e r) : QE X Z (.UnaryOp .USub e pos) (dNeg r) := by
  obtain ⟨t, p, s⟩ := h
  refine ⟨_, pe_un un_neg p, fun M σ H Δ F Φ c h Q q => ?_⟩
  refine s M σ H Δ F _ c h _ fun v H1 x Δ1 M1 F1 e1 c1 r1 h1 => ?_
  cases x with
  | int i => exact ⟨i, r1, q _ H1 (.int (-i)) Δ1 M1 F1 e1 c1 rfl h1⟩
  | _ => exact h1.elim
/-- isinstance(x, T), T a built-in type -/
def D.ty : D → String
  | .non => "NoneType" | .bl _ => "bool" | .int _ => "int" | .str _ => "str" | .tup _ => "tuple" | .lst _ => "list" | .scr _ => "list" | .ref _ => "?" | .rng _ _ => "range"
def D.isDat : D → Prop
  | .ref _ => False
  | .rng _ _ => False
  | _ => True
def dIsi (T : String) (r : RE) : RE := fun Δ M Φ => r Δ M fun x Δ1 M1 => match x with
  | .ref _ => False
  | .rng _ _ => False
  | x => ∃ b, kitB x.ty T = some b ∧ Φ (.bl b) Δ1 M1
theorem rp_tyx {F H : Hp} (e : Ex F H) {d : D} {v : V} (h : Rp K F d v) : d.isDat → TyX K H v (.type d.ty) := by
  intro hd
  cases d with
  | non => rw [show v = .non from h]; exact .base .non
  | bl b => rw [show v = .bl b from h]; exact .base (.bl b)
  | int b => rw [show v = .int b from h]; exact .base (.int b)
  | str b => rw [show v = .str b from h]; exact .base (.str b)
  | tup ds =>
    obtain ⟨a, vs, e1, h1, h2⟩ := h
    rw [e1]
    rcases Evl.ex_t e h1 with (h1 | ⟨o, h1⟩) | ⟨o, its, n, hk, hc, _⟩
    · exact .base (.tup h1)
    · exact .fTuple h1
    · exact .kTuple hk hc
  | lst ds =>
    obtain ⟨a, vs, e1, h1, h2⟩ := h
    rw [e1]
    exact .base (.lst (e _ _ h1))
  | scr ns =>
    obtain ⟨a, e1, h1⟩ := h
    rw [e1]
    rcases Evl.ex_l e h1 with (h1 | ⟨o, h1⟩) | ⟨o, its, n, hk, hc, _⟩
    · exact .base (.lst h1)
    · exact .base (.frz h1)
    · exact .kList hk hc
  | ref a => exact hd.elim
  | rng lo hi => exact hd.elim
theorem qe_isi {T : String} {x : Str} {p p2 : Pos} (h : QE X Z e r) (hg : Gl X "isinstance") (hm : X.mg "isinstance" = none) (hg2 : Gl X x) (hm2 : X.mg x = none) (hb : bootBuiltins x = some (.type T)) (hn : x ≠ "__name__" := by decide) (hdb : (x == ("__debug__" : Str)) = false := by decide)
    (he : starEach [e, .Name x p2] X.env = (false, eval e X.env) :: starEach [.Name x p2] X.env := by rfl) (he2 : starEach [.Name x p2] X.env = (false, eval (.Name x p2) X.env) :: starEach [] X.env := by rfl) (hpl : (backTo pos (starEach [.Name x p2] X.env)).any (·.1) = false := by rfl) :
    QE X Z (.Call (.Name "isinstance" p) [e, .Name x p2] [] pos) (dIsi T r) := by
  obtain ⟨t, pe, s⟩ := h
  refine ⟨_, pe_callB call_isi hg hm (by decide +kernel) (pa_cons pe (pa_cons (pe_bltn hg2 hm2 hb (v := .ty T) rfl hn hdb) pa_nil he2) he) (by decide) (by decide) he hpl, fun M σ H Δ F Φ c h Q q => ?_⟩
  refine s M σ H Δ F _ c h _ fun v H1 y Δ1 M1 F1 e1 c1 r1 h1 => ?_
  have hd : y.isDat ∧ ∃ b, kitB y.ty T = some b ∧ Φ (.bl b) Δ1 M1 := by
    cases y <;> first
      | exact h1.elim
      | exact ⟨True.intro, h1⟩
  obtain ⟨hd, b, k1, k2⟩ := hd
  exact ⟨v, .ty T, _, _, b, rfl, .ty T, rp_tyx c1.bs.fH r1 hd, kit_ty k1, q _ H1 (.bl b) Δ1 M1 F1 e1 c1 rfl k2⟩
end
end DL

set_option Elab.async false
set_option linter.all false
set_option maxRecDepth 100000
set_option maxHeartbeats 4000000
namespace DL
open PySem L2
open Evl (Ex)
section
variable {X : Cx} {Z : Zx} {e a b c : Expr} {ra rb rc r : RE} {rt ru : RT} {pos : Pos} {es : List Expr} {rl : RA} {n : Nat} {K : PySem.W.Frag} {st : Stmt} {sts : List Stmt} {s1 s2 s3 : RS}

/-! ### statements -/
def dNext : RS := fun D Δ M => D.nx Δ M
def dSeq (r u : RS) : RS := fun D Δ M => r { D with nx := fun Δ1 M1 => u D Δ1 M1 } Δ M
def dBrk : RS := fun D Δ M => D.bk Δ M
def dCt : RS := fun D Δ M => D.ct Δ M
theorem qss_nil : QSs X Z [] dNext := ⟨_, pss_nil, fun M σ H Δ F De c h Dv ok => ok.nx _ _ _ _ _ (Ex.refl _) c h⟩
theorem qss_one (h : QS X Z st s1) : QSs X Z [st] s1 := by
  obtain ⟨t, p, s⟩ := h
  exact ⟨t, pss_one p, s⟩
theorem simS_seq {t u : TS} (h1 : SimS K Z t s1) (h2 : SimS K Z u s2) : SimS K Z (tSeq t u) (dSeq s1 s2) := by
  intro M σ H Δ F De c h Dv ok
  exact h1 M σ H Δ F _ c h _ ⟨fun σ' H' Δ' M' F' e c' k => h2 M' σ' H' Δ' F' De c' k Dv (ok.mono e), ok.rt, ok.bk, ok.ct⟩
theorem qss_cons (h : QS X Z st s1) (h2 : QSs X Z sts s2) : QSs X Z (st :: sts) (dSeq s1 s2) := by
  obtain ⟨t, p, s⟩ := h
  obtain ⟨u, p2, s2⟩ := h2
  exact ⟨_, pss_cons p p2, simS_seq s s2⟩
theorem qs_pass : QS X Z (.Pass pos) dNext := ⟨_, ps_pass, fun M σ H Δ F De c h Dv ok => ok.nx _ _ _ _ _ (Ex.refl _) c h⟩
theorem qs_brk : QS X Z (.Break pos) dBrk := ⟨_, ps_break, fun M σ H Δ F De c h Dv ok => ok.bk _ _ _ _ _ (Ex.refl _) c h⟩
theorem qs_ct : QS X Z (.Continue pos) dCt := ⟨_, ps_continue, fun M σ H Δ F De c h Dv ok => ok.ct _ _ _ _ _ (Ex.refl _) c h⟩
theorem qs_doc {x j pos'} : QS X Z (.Expr (.Constant (.str x) j pos) pos') dNext := ⟨_, ps_doc, fun M σ H Δ F De c h Dv ok => ok.nx _ _ _ _ _ (Ex.refl _) c h⟩
def dRet (r : RE) : RS := fun D Δ M => r Δ M fun d _ M1 => D.rt d M1
theorem qs_ret (h : QE X Z e r) : QS X Z (.Return (some e) pos) (dRet r) := by
  obtain ⟨t, p, s⟩ := h
  refine ⟨_, ps_ret p, fun M σ H Δ F De c h Dv ok => ?_⟩
  exact s M σ H Δ F _ c h _ fun v H1 d Δ1 M1 F1 e1 c1 r1 h1 => ok.rt v H1 d M1 F1 e1 c1.bs r1 h1
def dRetN : RS := fun D _ M => D.rt .non M
theorem qs_retN : QS X Z (.Return none pos) dRetN := ⟨_, ps_retN, fun M σ H Δ F De c h Dv ok => ok.rt .non H .non M F (Ex.refl _) c.bs rfl h⟩
def dDrop (r : RE) : RS := fun D Δ M => r Δ M fun _ Δ1 M1 => D.nx Δ1 M1
theorem qs_expr (h : QE X Z e r) (hs : swapsWith e none pos.line X.env = pure false := by rfl) : QS X Z (.Expr e pos) (dDrop r) := by
  obtain ⟨t, p, s⟩ := h
  refine ⟨_, ps_expr p hs, fun M σ H Δ F De c h Dv ok => ?_⟩
  exact s M σ H Δ F _ c h _ fun v H1 d Δ1 M1 F1 e1 c1 r1 h1 => ok.nx σ H1 Δ1 M1 F1 e1 c1 h1
def dIfS (t : RT) (u v : RS) : RS := fun D Δ M => t Δ M fun k Δ1 M1 => match k with
  | true => u D Δ1 M1
  | false => v D Δ1 M1
theorem qs_if {u v : List Stmt} (ht : QT X Z e rt) (h1 : QSs X Z u s1) (h2 : QSs X Z v s2) : QS X Z (.If e u v pos) (dIfS rt s1 s2) := by
  obtain ⟨t, p, s⟩ := ht
  obtain ⟨t1, p1, q1⟩ := h1
  obtain ⟨t2, p2, q2⟩ := h2
  refine ⟨_, ps_if p p1 p2, fun M σ H Δ F De c h Dv ok => ?_⟩
  refine s M σ H Δ F _ c h _ fun k H1 Δ1 M1 F1 e1 c1 h1 => ?_
  cases k with
  | true => exact iteT (q1 M1 σ H1 Δ1 F1 De c1 h1 Dv (ok.mono e1))
  | false => exact iteF (q2 M1 σ H1 Δ1 F1 De c1 h1 Dv (ok.mono e1))
/-- x = e -/
def dSet (i : Nat) (r : RE) : RS := fun D Δ M => r Δ M fun d Δ1 M1 => D.nx (Δ1.set i (.d d)) M1
theorem qs_set {i : Nat} {x : Str} {pos' : Pos} (hN : X.N.Nodup) (h : QE X Z e r) (hi : X.N[i]? = some x := by rfl) (hx : Loc X.env.scope x := by first | exact Or.inl rfl | exact Or.inr rfl) (hs : swapsWith e (some (.Name x pos')) pos.line X.env = pure false := by rfl)
    (hf : X.fn x = true ∨ X.env.scope.names.lookup x = some .local := by first | exact .inl rfl | exact .inr rfl) : QS X Z (.Assign [.Name x pos'] e pos) (dSet i r) := by
  obtain ⟨t, p, s⟩ := h
  refine ⟨_, ps_set (i := i) hN hi hx p hs hf, fun M σ H Δ F De c h Dv ok => ?_⟩
  exact s M σ H Δ F _ c h _ fun v H1 d Δ1 M1 F1 e1 c1 r1 h1 => ok.nx _ H1 _ M1 F1 e1 (c1.set r1 i) h1
/-- x = a new list, which x owns -/
def dSetO (i : Nat) (rl : RA) : RS := fun D Δ M => rl Δ M fun ds Δ1 M1 => D.nx (Δ1.set i (.own ds)) M1
theorem qs_setO {i : Nat} {x : Str} {pos' : Pos} (hN : X.N.Nodup) (h : QL X Z e rl) (hi : X.N[i]? = some x := by rfl) (hx : Loc X.env.scope x := by first | exact Or.inl rfl | exact Or.inr rfl) (hs : swapsWith e (some (.Name x pos')) pos.line X.env = pure false := by rfl)
    (hf : X.fn x = true ∨ X.env.scope.names.lookup x = some .local := by first | exact .inl rfl | exact .inr rfl) : QS X Z (.Assign [.Name x pos'] e pos) (dSetO i rl) := by
  obtain ⟨t, p, s⟩ := h
  refine ⟨_, ps_set (i := i) hN hi hx p hs hf, fun M σ H Δ F De c h Dv ok => ?_⟩
  exact s M σ H Δ F _ c h _ fun p H1 vs ds Δ1 M1 F1 e1 c1 hp r1 h1 => ok.nx _ _ _ M1 F1 e1 (c1.setOwn hp r1 i) h1
/-- x, y = e -/
def dUnp : List Nat → RE → RS := fun is r D Δ M => r Δ M fun x Δ1 M1 => match x with
  | .tup ds => ds.length = is.length ∧ D.nx ((is.zip ds).foldl (fun Δ p => Δ.set p.1 (.d p.2)) Δ1) M1
  | _ => False
/-- targets that are names -/
def gNames : List Nat → TGs
  | [] => gNil
  | i :: is => gCons (gName i) (gNames is)
theorem simG_names {M : Mem} {H F : Hp} {Q : L2.St → Hp → Prop} : ∀ (is : List Nat) (ds : List D) (vs : List V) (σ : L2.St) (Δ : List Sl), Cn K Z M σ H Δ F → Rps K F ds vs → ds.length = is.length →
    (∀ σ', Cn K Z M σ' H ((is.zip ds).foldl (fun Δ p => Δ.set p.1 (.d p.2)) Δ) F → Q σ' H) → gNames is vs σ H Q
  | [], ds, vs, σ, Δ, c, r, hl, q => by
    have e : ds = [] := List.length_eq_zero_iff.mp hl
    subst e
    exact ⟨r, q σ c⟩
  | i :: is, [], vs, σ, Δ, c, r, hl, q => by cases hl
  | i :: is, d :: ds, vs, σ, Δ, c, r, hl, q => by
    obtain ⟨v, ws, e, h1, h2⟩ := r
    exact ⟨v, ws, e, simG_names is ds ws _ _ (c.set h1 i) h2 (by simpa using hl) q⟩
theorem qs_unp {is : List Nat} {tgs : List Expr} {k : Nat} {tp : Pos} (hc : X.calm = true) (h : QE X Z e r) (hg : PGs X tgs (gNames is)) (hn : tgs.length = is.length := by rfl) (hs : swapsWithSole [.Tuple tgs k tp] e pos.line X.env = pure false := by rfl) (hw : swappedStores [.Tuple tgs k tp] e X.env = pure none := by rfl)
    (hp : tgs.length = is.length := by rfl)
    (hpg : PGs X tgs (gNames is) → PG X (.Tuple tgs k tp) (gTup X.K is.length (gNames is)) := by intro hg; exact pg_tup rfl hg) : QS X Z (.Assign [.Tuple tgs k tp] e pos) (dUnp is r) := by
  obtain ⟨t, p, s⟩ := h
  refine ⟨_, ps_asg p (hpg hg) hs hw, fun M σ H Δ F De c h Dv ok => ?_⟩
  refine s M σ H Δ F _ c h _ fun v H1 x Δ1 M1 F1 e1 c1 r1 h1 => ?_
  cases x with
  | tup ds =>
    obtain ⟨a, vs, e2, h2, h3⟩ := r1
    refine ⟨a, vs, e2, Evl.ex_t c1.bs.fH h2, by rw [rps_len h3]; exact h1.1, ?_⟩
    exact simG_names is ds vs σ Δ1 c1 h3 h1.1 fun σ' c' => ok.nx σ' H1 _ M1 F1 e1 c' h1.2
  | _ => exact h1.elim
/-- x, y = a, b -/
def dPar (i j : Nat) (rl : RA) : RS := fun D Δ M => rl Δ M fun ds Δ1 M1 => match ds with
  | [x, y] => D.nx ((Δ1.set i (.d x)).set j (.d y)) M1
  | _ => False
theorem qs_par {i j : Nat} {x y : Str} {px py pt : Pos} {kt k2 pt2} (hN : X.N.Nodup) (h : QA X Z 2 [a, b] rl) (hc : X.calm = true := by rfl) (hi : X.N[i]? = some x := by rfl) (hj : X.N[j]? = some y := by rfl) (hij : i ≠ j := by decide) (hx : X.env.scope.names.lookup x = some .local := by rfl) (hy : X.env.scope.names.lookup y = some .local := by rfl)
    (hw : swappedStores [.Tuple [.Name x px, .Name y py] kt pt] (.Tuple [a, b] k2 pt2) X.env = pure (some [x, y]) := by rfl)
    (hs : swapsWithSole [.Tuple [.Name x px, .Name y py] kt pt] (.Tuple [a, b] k2 pt2) pos.line X.env = pure false := by rfl) : QS X Z (.Assign [.Tuple [.Name x px, .Name y py] kt pt] (.Tuple [a, b] k2 pt2) pos) (dPar i j rl) := by
  obtain ⟨t, p, s⟩ := h
  refine ⟨_, ps_par hc hN hi hj hij hx hy p hw hs, fun M σ H Δ F De c h Dv ok => ?_⟩
  refine s M σ H Δ F _ c h _ fun vs H1 ds Δ1 M1 F1 e1 c1 r1 hl h1 => ?_
  match ds, r1, h1 with
  | [d1, d2], r1, h1 =>
    obtain ⟨v, w, e2, q1, q2⟩ := vals2 r1
    exact ⟨v, w, e2, ok.nx _ H1 _ M1 F1 e1 ((c1.set q1 i).set q2 j) h1⟩
/-- x += e -/
def dAug (i : Nat) (dr : D → D → (D → Prop) → Prop) (r : RE) : RS := fun D Δ M => match Δ[i]? with
  | some (.d x) => r Δ M fun y Δ1 M1 => dr x y fun z => D.nx (Δ1.set i (.d z)) M1
  | _ => False
theorem qs_aug {i : Nat} {x : Str} {pos' : Pos} {op : Operator} {ti : TIp} {dr : D → D → (D → Prop) → Prop} (ho : PIp X op ti) (hd : OpD X.K ti dr) (hN : X.N.Nodup) (h : QE X Z e r) (hi : X.N[i]? = some x := by rfl) (hx : Loc X.env.scope x := by first | exact Or.inl rfl | exact Or.inr rfl)
    (hf : X.fn x = true ∨ X.env.scope.names.lookup x = some .local := by first | exact .inl rfl | exact .inr rfl) : QS X Z (.AugAssign (.Name x pos') op e pos) (dAug i dr r) := by
  obtain ⟨t, p, s⟩ := h
  refine ⟨_, ps_aug (i := i) hN hi hx p ho hf, fun M σ H Δ F De c h Dv ok => ?_⟩
  unfold dAug at h
  split at h
  · rename_i x0 hj
    obtain ⟨v, hv, rv⟩ := c.slot i _ hj
    refine ⟨v, hv, ?_⟩
    refine s M σ H Δ F _ c h _ fun w H1 y Δ1 M1 F1 e1 c1 r1 h1 => ?_
    exact hd Z M1 σ H1 Δ1 F1 x0 y v w _ c1 (rp_mono e1 _ _ rv) r1 h1 _ fun u H2 d F2 e2 c2 r2 k2 => ok.nx _ H2 _ M1 F2 (e1.trans e2) (c2.set r2 i) k2
  · exact h.elim
def dPlus : D → D → (D → Prop) → Prop := dI fun i j => .int (i + j)
def dMinus : D → D → (D → Prop) → Prop := dI fun i j => .int (i - j)
theorem od_ip {g : Int → Int → Int} : OpD K (ipI g) (dI fun i j => .int (g i j)) := by
  intro Z M σ H Δ F x y v w Φ c rx ry k Q q
  unfold dI at k
  split at k
  · exact ⟨_, _, rx, ry, q _ H (.int _) F (Ex.refl _) c rfl k⟩
  · exact k.elim
theorem qs_inc {i : Nat} {x : Str} {pos' : Pos} (hN : X.N.Nodup) (h : QE X Z e r) (hi : X.N[i]? = some x := by rfl) (hx : Loc X.env.scope x := by first | exact Or.inl rfl | exact Or.inr rfl)
    (hf : X.fn x = true ∨ X.env.scope.names.lookup x = some .local := by first | exact .inl rfl | exact .inr rfl) : QS X Z (.AugAssign (.Name x pos') .Add e pos) (dAug i dPlus r) := qs_aug ip_add od_ip hN h hi hx hf
/-- x.append(e), x an own list -/
def dApp (j : Nat) (r : RE) : RS := fun D Δ M => isOwn Δ j ∧ r Δ M fun d Δ1 M1 => match Δ1[j]? with
  | some (.own ds) => ds.length < sizeLine ∧ D.nx (Δ1.set j (.own (ds ++ [d]))) M1
  | _ => False
theorem qs_app {j : Nat} {x : Str} {p1 p2 pos' : Pos} (h : QE X Z e r) (hN : X.N[j]? = some x := by rfl) (hv : Vis X.env.scope x := by first | exact Or.inl rfl | exact Or.inr (Or.inl rfl) | exact Or.inr (Or.inr rfl)) (hd : (x == ("__debug__" : Str)) = false := by decide) (hcd : (x == ("__classdict__" : Str)) = false := by decide)
    (hpe : ∀ t, PE X e t → PE X (.Call (.Attribute (.Name x p1) "append" p2) [e] [] pos) (tBM X.K "list" rAppend (tVar j) (tCons t tNil)) := by intro t ht; exact pe_bm PySem.F.plainAttrs_list PySem.F.slot_list_append PySem.F.type_list_append mt_append (pv _) (pa_cons ht pa_nil))
    (hs : swapsWith (.Call (.Attribute (.Name x p1) "append" p2) [e] [] pos) none pos'.line X.env = pure false := by rfl) : QS X Z (.Expr (.Call (.Attribute (.Name x p1) "append" p2) [e] [] pos) pos') (dApp j r) := by
  obtain ⟨t, p, s⟩ := h
  refine ⟨_, ps_expr (hpe t p) hs, ?_⟩
  rintro M σ H Δ F De c ⟨⟨ds0, h0⟩, h⟩ Dv ok
  obtain ⟨a, vs0, hv0, g0, _⟩ := c.slot j _ h0
  refine ⟨_, hv0, .inl ⟨rfl, _, SqL.of g0⟩, ?_⟩
  refine s M σ H Δ F _ c h _ fun w H1 y Δ1 M1 F1 e1 c1 r1 h1 => ?_
  split at h1
  · rename_i ds hj
    obtain ⟨a', vs, hv1, g1, g2, g3, g4, g5⟩ := c1.slot j _ hj
    rw [hv0] at hv1
    cases hv1
    refine ⟨a, vs, w, rfl, rfl, g1, by rw [rps_len g2]; exact h1.1, ?_⟩
    exact ok.nx σ _ _ M1 F1 e1 (c1.change hj hv0 g3 g4 g5 (rps_app g2 (rps_one r1))) h1.2
  · exact h1.elim

/-! ### loops -/
def fgt : List Nat → List Sl → List Sl
  | [], Δ => Δ
  | j :: js, Δ => fgt js (Δ.set j .un)
theorem cn_fgt {M : Mem} {σ : L2.St} {H F : Hp} : ∀ (js : List Nat) (Δ : List Sl), Cn K Z M σ H Δ F → Cn K Z M σ H (fgt js Δ) F
  | [], _, c => c
  | j :: js, Δ, c => cn_fgt js _ (c.drop j)
/-- a loop's target: a name; names of a tuple's parts -/
abbrev RG := D → List Sl → (List Sl → Prop) → Prop
def tgN (j : Nat) : RG := fun d Δ Φ => Φ (Δ.set j (.d d))
def tgU (is : List Nat) : RG := fun d Δ Φ => match d with
  | .tup ds => ds.length = is.length ∧ Φ ((is.zip ds).foldl (fun Δ p => Δ.set p.1 (.d p.2)) Δ)
  | _ => False
def SimG (K : PySem.W.Frag) (Z : Zx) (g : TG) (r : RG) : Prop := ∀ (M : Mem) (σ : L2.St) (H : Hp) (Δ : List Sl) (F : Hp) (d : D) (v : V) (Φ : List Sl → Prop), Cn K Z M σ H Δ F → Rp K F d v → r d Δ Φ →
  ∀ Q : L2.St → Hp → Prop, (∀ σ' Δ', Cn K Z M σ' H Δ' F → Φ Δ' → Q σ' H) → g v σ H Q
theorem simG_name {j : Nat} : SimG K Z (gName j) (tgN j) := fun M σ H Δ F d v Φ c r h Q q => q _ _ (c.set r j) h
theorem simG_tup {is : List Nat} : SimG K Z (gTup K is.length (gNames is)) (tgU is) := by
  intro M σ H Δ F d v Φ c r h Q q
  unfold tgU at h
  split at h
  · obtain ⟨a, vs, e, h1, h2⟩ := r
    exact ⟨a, vs, e, Evl.ex_t c.bs.fH h1, by rw [rps_len h2]; exact h.1, simG_names is _ vs σ Δ c h2 h.1 fun σ' c' => q σ' _ c' h.2⟩
  · exact h.elim
/-- a loop over the items xs; js: slots that are forgotten at each turn's end; Pv: what holds between the turns -/
def dLoopG (tg : RG) (js : List Nat) (xs : List D) (u : RS) : RS := fun D Δ M => ∃ Pv : Nat → List Sl → Mem → Prop, Pv 0 (fgt js Δ) M ∧
  (∀ i d Δ1 M1, xs[i]? = some d → Pv i Δ1 M1 → tg d Δ1 fun Δ2 => u { D with nx := fun Δ2 M2 => Pv (i + 1) (fgt js Δ2) M2, ct := fun Δ2 M2 => Pv (i + 1) (fgt js Δ2) M2, bk := D.nx } Δ2 M1) ∧ ∀ Δ1 M1, Pv xs.length Δ1 M1 → D.nx Δ1 M1
abbrev dLoop (j : Nat) (js : List Nat) (xs : List D) (u : RS) : RS := dLoopG (tgN j) js xs u
theorem endsLoop {F F1 : Hp} {De : DE} {Dv : Ends} {js : List Nat} {i : Nat} {Pv : Nat → List Sl → Mem → Prop} (ok : EndsOk K Z F De Dv) (e : Ex F F1) {N : L2.St → Hp → Prop} (hN : ∀ σ H Δ M F', Ex F1 F' → Cn K Z M σ H Δ F' → Pv (i + 1) Δ M → N σ H) :
    EndsOk K Z F1 { De with nx := fun Δ2 M2 => Pv (i + 1) (fgt js Δ2) M2, ct := fun Δ2 M2 => Pv (i + 1) (fgt js Δ2) M2, bk := De.nx } { Dv with nx := N, ct := N, bk := Dv.nx } :=
  ⟨fun σ' H' Δ' M' F' e1 c' k => hN _ _ _ _ _ e1 (cn_fgt js _ c') k, (ok.mono e).rt, (ok.mono e).nx, fun σ' H' Δ' M' F' e1 c' k => hN _ _ _ _ _ e1 (cn_fgt js _ c') k⟩
theorem loop_list {a : Addr} {xs : List V} {ds : List D} {g : TG} {tg : RG} (hg : SimG K Z g tg) {js : List Nat} {t : TS} {u : RS} (hu : SimS K Z t u) {M : Mem} {σ : L2.St} {H F : Hp} {Δ : List Sl} {De : DE} {Dv : Ends} (c : Cn K Z M σ H Δ F)
    (hx : SqL K F a xs) (hr : Rps K F ds xs) (h : dLoopG tg js ds u De Δ M) (ok : EndsOk K Z F De Dv) :
    ∃ W : Nat → Nat → L2.St → Hp → Prop, (∃ m, W 0 m σ H) ∧ ∀ i m σ H, W i m σ H →
      ((Itl K a).stop i H ∧ Dv.nx σ H) ∨ ((Itl K a).go i H ∧ ∃ N : L2.St → Hp → Prop, (∀ σ' H', N σ' H' → ∃ m', m' < m ∧ W (i + 1) m' σ' H') ∧ ∀ x H', (Itl K a).yld i H x H' → g x σ H' fun σ2 H2 => t { Dv with nx := N, ct := N, bk := Dv.nx } σ2 H2) := by
  obtain ⟨Pv, h0, hs, hd⟩ := h
  have hlen : xs.length = ds.length := rps_len hr
  refine for_list (K := K) (a := a) (xs := xs) (fun i σ H => ∃ Δ M F', Ex F F' ∧ Cn K Z M σ H Δ F' ∧ Pv i Δ M) ⟨_, M, F, Ex.refl _, cn_fgt js _ c, h0⟩ ?_ ?_ ?_
  · rintro i σ H _ ⟨Δ, M, F', e, c, _⟩
    exact Evl.ex_l c.bs.fH (Evl.ex_l e hx)
  · rintro i x σ H hi ⟨Δ, M, F', e, c, hp⟩
    obtain ⟨d, hd', r⟩ := rps_get' (rps_mono e _ _ hr) hi
    exact hg M σ H Δ F' d x _ c r (hs i d Δ M hd' hp) _ fun σ2 Δ2 c2 h2 => hu M σ2 H Δ2 F' _ c2 h2 _ (endsLoop (js := js) (Pv := Pv) ok e fun σ' H' Δ' M' F'' e1 c' k => ⟨Δ', M', F'', e.trans e1, c', k⟩)
  · rintro σ H ⟨Δ, M, F', e, c, hp⟩
    rw [hlen] at hp
    exact ok.nx σ H Δ M F' e c (hd _ _ hp)
theorem loop_tup {a : Addr} {xs : List V} {ds : List D} {g : TG} {tg : RG} (hg : SimG K Z g tg) {js : List Nat} {t : TS} {u : RS} (hu : SimS K Z t u) {M : Mem} {σ : L2.St} {H F : Hp} {Δ : List Sl} {De : DE} {Dv : Ends} (c : Cn K Z M σ H Δ F)
    (hx : SqT K F a xs) (hr : Rps K F ds xs) (h : dLoopG tg js ds u De Δ M) (ok : EndsOk K Z F De Dv) :
    ∃ W : Nat → Nat → L2.St → Hp → Prop, (∃ m, W 0 m σ H) ∧ ∀ i m σ H, W i m σ H →
      ((Itt K a).stop i H ∧ Dv.nx σ H) ∨ ((Itt K a).go i H ∧ ∃ N : L2.St → Hp → Prop, (∀ σ' H', N σ' H' → ∃ m', m' < m ∧ W (i + 1) m' σ' H') ∧ ∀ x H', (Itt K a).yld i H x H' → g x σ H' fun σ2 H2 => t { Dv with nx := N, ct := N, bk := Dv.nx } σ2 H2) := by
  obtain ⟨Pv, h0, hs, hd⟩ := h
  have hlen : xs.length = ds.length := rps_len hr
  refine for_tup (K := K) (a := a) (xs := xs) (fun i σ H => ∃ Δ M F', Ex F F' ∧ Cn K Z M σ H Δ F' ∧ Pv i Δ M) ⟨_, M, F, Ex.refl _, cn_fgt js _ c, h0⟩ ?_ ?_ ?_
  · rintro i σ H _ ⟨Δ, M, F', e, c, _⟩
    exact Evl.ex_t c.bs.fH (Evl.ex_t e hx)
  · rintro i x σ H hi ⟨Δ, M, F', e, c, hp⟩
    obtain ⟨d, hd', r⟩ := rps_get' (rps_mono e _ _ hr) hi
    exact hg M σ H Δ F' d x _ c r (hs i d Δ M hd' hp) _ fun σ2 Δ2 c2 h2 => hu M σ2 H Δ2 F' _ c2 h2 _ (endsLoop (js := js) (Pv := Pv) ok e fun σ' H' Δ' M' F'' e1 c' k => ⟨Δ', M', F'', e.trans e1, c', k⟩)
  · rintro σ H ⟨Δ, M, F', e, c, hp⟩
    rw [hlen] at hp
    exact ok.nx σ H Δ M F' e c (hd _ _ hp)
def rangeD (lo : Int) (n : Nat) : List D := (List.range n).map fun i => .int (lo + (i : Nat))
theorem rangeD_get {lo : Int} {n i : Nat} (h : i < n) : (rangeD lo n)[i]? = some (.int (lo + (i : Nat))) := by
  unfold rangeD
  rw [List.getElem?_map, List.getElem?_range h] <;> rfl
theorem rangeD_len {lo : Int} {n : Nat} : (rangeD lo n).length = n := by
  unfold rangeD
  rw [List.length_map, List.length_range]
theorem loop_range {lo : Int} {m : Nat} {j : Nat} {js : List Nat} {t : TS} {u : RS} (hu : SimS K Z t u) {M : Mem} {σ : L2.St} {H F : Hp} {Δ : List Sl} {De : DE} {Dv : Ends} (c : Cn K Z M σ H Δ F)
    (h : dLoop j js (rangeD lo m) u De Δ M) (ok : EndsOk K Z F De Dv) :
    ∃ W : Nat → Nat → L2.St → Hp → Prop, (∃ m, W 0 m σ H) ∧ ∀ i k σ H, W i k σ H →
      ((Itr lo m).stop i H ∧ Dv.nx σ H) ∨ ((Itr lo m).go i H ∧ ∃ N : L2.St → Hp → Prop, (∀ σ' H', N σ' H' → ∃ m', m' < k ∧ W (i + 1) m' σ' H') ∧ ∀ x H', (Itr lo m).yld i H x H' → gName j x σ H' fun σ2 H2 => t { Dv with nx := N, ct := N, bk := Dv.nx } σ2 H2) := by
  obtain ⟨Pv, h0, hs, hd⟩ := h
  refine for_range (lo := lo) (n := m) (fun i σ H => ∃ Δ M F', Ex F F' ∧ Cn K Z M σ H Δ F' ∧ Pv i Δ M) ⟨_, M, F, Ex.refl _, cn_fgt js _ c, h0⟩ ?_ ?_
  · rintro i σ H hi ⟨Δ, M, F', e, c, hp⟩
    exact hu M _ H _ F' _ (c.set (d := .int (lo + (i : Nat))) rfl j) (hs i _ Δ M (rangeD_get hi) hp) _ (endsLoop (js := js) (Pv := Pv) ok e fun σ' H' Δ' M' F'' e1 c' k => ⟨Δ', M', F'', e.trans e1, c', k⟩)
  · rintro σ H ⟨Δ, M, F', e, c, hp⟩
    rw [rangeD_len] at hd
    exact ok.nx σ H Δ M F' e c (hd _ _ hp)
/-- for x in e: a list, a tuple (which, the writer says) -/
def dForL (j : Nat) (js : List Nat) (r : RE) (u : RS) : RS := fun D Δ M => r Δ M fun x Δ1 M1 => match x with
  | .lst ds => dLoop j js ds u D Δ1 M1
  | .scr ns => dLoop j js (ns.map .int) u D Δ1 M1
  | _ => False
def dForT (j : Nat) (js : List Nat) (r : RE) (u : RS) : RS := fun D Δ M => r Δ M fun x Δ1 M1 => match x with
  | .tup ds => dLoop j js ds u D Δ1 M1
  | _ => False
theorem qs_forL {j : Nat} {js : List Nat} {x : Str} {px : Pos} {body : List Stmt} {iter : Expr} {u : RS} (hp : PassesOwn (model X.prog X.w) X.A X.env X.xe) (hc : X.calm = true) (hN : X.N.Nodup) (h : QE X Z iter r) (hb : QSs X Z body u) (hi : X.N[j]? = some x := by rfl) (hx : Loc X.env.scope x := by first | exact Or.inl rfl | exact Or.inr rfl)
    (hf : X.fn x = true ∨ X.env.scope.names.lookup x = some .local := by first | exact .inl rfl | exact .inr rfl) (hs : ∀ x, foldedSetIterable iter X.env x = pure x := by intro _; rfl) : QS X Z (.For (.Name x px) iter body [] pos) (dForL j js r u) := by
  obtain ⟨t, p, s⟩ := h
  obtain ⟨tb, pb, sb⟩ := hb
  refine ⟨_, ps_for hp hc (pi_list p) (pg_name (i := j) hN hi hx hf) pb hs, fun M σ H Δ F De c h Dv ok => ?_⟩
  refine s M σ H Δ F _ c h _ fun v H1 y Δ1 M1 F1 e1 c1 r1 h1 => ?_
  cases y with
  | lst ds =>
    obtain ⟨a, vs, e2, g1, g2⟩ := r1
    exact ⟨a, e2, ⟨_, SqL.of (c1.bs.fH _ _ g1)⟩, loop_list simG_name sb c1 (SqL.of g1) g2 h1 (ok.mono e1)⟩
  | scr ns =>
    obtain ⟨a, e2, g1⟩ := r1
    exact ⟨a, e2, ⟨_, Evl.ex_l c1.bs.fH g1⟩, loop_list simG_name sb c1 g1 (ints_rps ns) h1 (ok.mono e1)⟩
  | _ => exact h1.elim
theorem qs_forT {j : Nat} {js : List Nat} {x : Str} {px : Pos} {body : List Stmt} {iter : Expr} {u : RS} (hp : PassesOwn (model X.prog X.w) X.A X.env X.xe) (hc : X.calm = true) (hN : X.N.Nodup) (h : QE X Z iter r) (hb : QSs X Z body u) (hi : X.N[j]? = some x := by rfl) (hx : Loc X.env.scope x := by first | exact Or.inl rfl | exact Or.inr rfl)
    (hf : X.fn x = true ∨ X.env.scope.names.lookup x = some .local := by first | exact .inl rfl | exact .inr rfl) (hs : ∀ x, foldedSetIterable iter X.env x = pure x := by intro _; rfl) : QS X Z (.For (.Name x px) iter body [] pos) (dForT j js r u) := by
  obtain ⟨t, p, s⟩ := h
  obtain ⟨tb, pb, sb⟩ := hb
  refine ⟨_, ps_for hp hc (pi_tup p) (pg_name (i := j) hN hi hx hf) pb hs, fun M σ H Δ F De c h Dv ok => ?_⟩
  refine s M σ H Δ F _ c h _ fun v H1 y Δ1 M1 F1 e1 c1 r1 h1 => ?_
  cases y with
  | tup ds =>
    obtain ⟨a, vs, e2, g1, g2⟩ := r1
    exact ⟨a, e2, ⟨_, Evl.ex_t c1.bs.fH g1⟩, loop_tup simG_name sb c1 g1 g2 h1 (ok.mono e1)⟩
  | _ => exact h1.elim
/-- for x in range(e), range(a, b) -/
def dForR (j : Nat) (js : List Nat) (r : RE) (u : RS) : RS := fun D Δ M => r Δ M fun x Δ1 M1 => match x with
  | .int k => (-(2 ^ 62) ≤ k ∧ k < 2 ^ 62) ∧ dLoop j js (rangeD 0 k.toNat) u D Δ1 M1
  | _ => False
def dForR2 (j : Nat) (js : List Nat) (ra rb : RE) (u : RS) : RS := fun D Δ M => ra Δ M fun x Δ1 M1 => rb Δ1 M1 fun y Δ2 M2 => match x, y with
  | .int lo, .int hi => (-(2 ^ 62) ≤ lo ∧ lo < 2 ^ 62 ∧ -(2 ^ 62) ≤ hi ∧ hi < 2 ^ 62) ∧ dLoop j js (rangeD lo (hi - lo).toNat) u D Δ2 M2
  | _, _ => False
theorem qs_forR {j : Nat} {js : List Nat} {x : Str} {px p1 p2 : Pos} {body : List Stmt} {u : RS} (hp : PassesOwn (model X.prog X.w) X.A X.env X.xe) (hc : X.calm = true) (hN : X.N.Nodup) (hg : Gl X "range") (hm : X.mg "range" = none) (h : QE X Z e r) (hb : QSs X Z body u) (hi : X.N[j]? = some x := by rfl) (hx : Loc X.env.scope x := by first | exact Or.inl rfl | exact Or.inr rfl)
    (hf : X.fn x = true ∨ X.env.scope.names.lookup x = some .local := by first | exact .inl rfl | exact .inr rfl) (hs : ∀ x, foldedSetIterable (.Call (.Name "range" p1) [e] [] p2) X.env x = pure x := by intro _; rfl) (hst : starEach [e] X.env = [(false, eval e X.env)] := by rfl) : QS X Z (.For (.Name x px) (.Call (.Name "range" p1) [e] [] p2) body [] pos) (dForR j js r u) := by
  obtain ⟨t, p, s⟩ := h
  obtain ⟨tb, pb, sb⟩ := hb
  refine ⟨_, ps_for hp hc (pi_range1 hg hm (pa_cons p pa_nil hst) hst) (pg_name (i := j) hN hi hx hf) pb hs, fun M σ H Δ F De c h Dv ok => ?_⟩
  refine s M σ H Δ F _ c h _ fun v H1 y Δ1 M1 F1 e1 c1 r1 h1 => ?_
  cases y with
  | int k => exact ⟨k, by rw [show v = .int k from r1], h1.1.1, h1.1.2, loop_range sb c1 h1.2 (ok.mono e1)⟩
  | _ => exact h1.elim
theorem qs_forR2 {j : Nat} {js : List Nat} {x : Str} {px p1 p2 : Pos} {body : List Stmt} {u : RS} (hp : PassesOwn (model X.prog X.w) X.A X.env X.xe) (hc : X.calm = true) (hN : X.N.Nodup) (hg : Gl X "range") (hm : X.mg "range" = none) (ha : QE X Z a ra) (hb' : QE X Z b rb) (hb : QSs X Z body u) (hi : X.N[j]? = some x := by rfl) (hx : Loc X.env.scope x := by first | exact Or.inl rfl | exact Or.inr rfl)
    (hf : X.fn x = true ∨ X.env.scope.names.lookup x = some .local := by first | exact .inl rfl | exact .inr rfl) (hs : ∀ x, foldedSetIterable (.Call (.Name "range" p1) [a, b] [] p2) X.env x = pure x := by intro _; rfl) (hst : starEach [a, b] X.env = [(false, eval a X.env), (false, eval b X.env)] := by rfl) (hst1 : starEach [a, b] X.env = (false, eval a X.env) :: starEach [b] X.env := by rfl) (hst2 : starEach [b] X.env = [(false, eval b X.env)] := by rfl) :
    QS X Z (.For (.Name x px) (.Call (.Name "range" p1) [a, b] [] p2) body [] pos) (dForR2 j js ra rb u) := by
  obtain ⟨t, p, s⟩ := ha
  obtain ⟨t', p', s'⟩ := hb'
  obtain ⟨tb, pb, sb⟩ := hb
  refine ⟨_, ps_for hp hc (pi_range2 hg hm (pa_cons p (pa_cons p' pa_nil hst2) hst1) hst hst2) (pg_name (i := j) hN hi hx hf) pb hs, fun M σ H Δ F De c h Dv ok => ?_⟩
  refine s M σ H Δ F _ c h _ fun v H1 y Δ1 M1 F1 e1 c1 r1 h1 => ?_
  refine s' M1 σ H1 Δ1 F1 _ c1 h1 _ fun v2 H2 y2 Δ2 M2 F2 e2 c2 r2 h2 => ?_
  split at h2
  · exact ⟨_, _, by rw [show v = _ from r1, show v2 = _ from r2], h2.1, loop_range sb c2 h2.2 (ok.mono (e1.trans e2))⟩
  · exact h2.elim
/-- while c -/
def dWhile (js : List Nat) (t : RT) (u : RS) : RS := fun D Δ M => ∃ Pv : Nat → List Sl → Mem → Prop, (∃ m, Pv m (fgt js Δ) M) ∧ ∀ m Δ1 M1, Pv m Δ1 M1 → t Δ1 M1 fun k Δ2 M2 => match k with
  | true => u { D with nx := fun Δ3 M3 => ∃ m', m' < m ∧ Pv m' (fgt js Δ3) M3, ct := fun Δ3 M3 => ∃ m', m' < m ∧ Pv m' (fgt js Δ3) M3, bk := D.nx } Δ2 M2
  | false => D.nx Δ2 M2
theorem qs_while {js : List Nat} {body : List Stmt} {u : RS} (hp : PassesOwn (model X.prog X.w) X.A X.env X.xe) (ht : QT X Z e rt) (hb : QSs X Z body u) : QS X Z (.While e body [] pos) (dWhile js rt u) := by
  obtain ⟨t, p, s⟩ := ht
  obtain ⟨tb, pb, sb⟩ := hb
  refine ⟨_, ps_while hp p pb, fun M σ H Δ F De c h Dv ok => ?_⟩
  obtain ⟨Pv, ⟨m0, h0⟩, hs⟩ := h
  refine ⟨fun m σ H => ∃ Δ M F', Ex F F' ∧ Cn X.K Z M σ H Δ F' ∧ Pv m Δ M, ⟨m0, _, M, F, Ex.refl _, cn_fgt js _ c, h0⟩, ?_⟩
  rintro m σ H ⟨Δ, M, F', e, c, hp'⟩
  refine s M σ H Δ F' _ c (hs m Δ M hp') _ fun k H1 Δ1 M1 F1 e1 c1 h1 => ?_
  cases k with
  | false => exact iteF (ok.nx σ H1 Δ1 M1 F1 (e.trans e1) c1 h1)
  | true =>
    refine iteT ⟨fun σ' H' => ∃ m', m' < m ∧ ∃ Δ M F', Ex F F' ∧ Cn X.K Z M σ' H' Δ F' ∧ Pv m' Δ M, fun σ' H' n => n, ?_⟩
    refine sb M1 σ H1 Δ1 F1 _ c1 h1 _ ⟨?_, ((ok.mono e).mono e1).rt, ((ok.mono e).mono e1).nx, ?_⟩
    · rintro σ' H' Δ' M' F'' e2 c' ⟨m', hm, k⟩
      exact ⟨m', hm, _, M', F'', (e.trans e1).trans e2, cn_fgt js _ c', k⟩
    · rintro σ' H' Δ' M' F'' e2 c' ⟨m', hm, k⟩
      exact ⟨m', hm, _, M', F'', (e.trans e1).trans e2, cn_fgt js _ c', k⟩
end
end DL

set_option Elab.async false
set_option linter.all false
set_option maxRecDepth 100000
set_option maxHeartbeats 4000000
namespace DL
open PySem PySem.Spec PyProof.Rows L2
open Evl (Ex)

/-! ### defs: a promise over data -/
/-- what is wanted of an exception: its class, its fields -/
abbrev DX := Addr → List (Str × D) → Mem → Prop
abbrev DSp := List D → Mem → (D → Mem → Prop) → DX → Prop
/-- an exception's own dict, frozen -/
def XRep (K : PySem.W.Frag) (F : Hp) (fs : List (Str × D)) : Option Addr → Prop
  | none => fs = []
  | some d => ∃ vfs, F d = some (.xd vfs) ∧ vfs.map Prod.fst = fs.map Prod.fst ∧ Rps K F (fs.map Prod.snd) (vfs.map Prod.snd)
def spOf (K : PySem.W.Frag) (S : DSp) : Sp := fun vs H Q E => ∃ (R F : Hp) (M : Mem) (ds : List D) (Φ : D → Mem → Prop) (Ψ : DX), Bs K ⟨R, F⟩ M H F ∧ Rps K F ds vs ∧ S ds M Φ Ψ ∧
  (∀ v H' d M' F', Bs K ⟨R, F⟩ M' H' F' → Rp K F' d v → Φ d M' → Q v H') ∧
  (∀ C fs M' dd H' F', Bs K ⟨R, F⟩ M' H' F' → XRep K F' fs dd → Ψ C fs M' → E (.ref C) dd H')
/-- the promise is about n arguments -/
def Arity (S : DSp) (n : Nat) : Prop := ∀ ds M Φ Ψ, S ds M Φ Ψ → ds.length = n
theorem spOf_len {K : PySem.W.Frag} {S : DSp} {n : Nat} (h : Arity S n) : ∀ vs H Q E, spOf K S vs H Q E → vs.length = n := by
  rintro vs H Q E ⟨R, F, M, ds, Φ, Ψ, b, r, s, _, _⟩
  rw [rps_len r]
  exact h ds M Φ Ψ s

/-- the slots at the entry -/
def startD (N : Nat) (ds : List D) : List Sl := ds.map Sl.d ++ List.replicate (N - ds.length) .un
theorem cn_start {K : PySem.W.Frag} {Z : Zx} {M : Mem} {H F : Hp} {N : List Str} {ds : List D} {vs : List V} (b : Bs K Z M H F) (r : Rps K F ds vs) : Cn K Z M (L2.start N vs) H (startD N.length ds) F where
  bs := b
  len := by
    unfold startD L2.start
    rw [List.length_append, List.length_append, List.length_map, List.length_map, List.length_replicate, List.length_replicate, rps_len r]
  slot := fun i s h => by
    unfold startD at h
    by_cases hi : i < ds.length
    · rw [List.getElem?_append_left (by rw [List.length_map]; exact hi), List.getElem?_map, List.getElem?_eq_getElem hi] at h
      cases h
      obtain ⟨v, h1, h2⟩ := rps_get r (List.getElem?_eq_getElem hi)
      refine ⟨v, ?_, h2⟩
      unfold L2.start
      rw [List.getElem?_append_left (by rw [List.length_map, rps_len r]; exact hi), List.getElem?_map, h1] <;> rfl
    · rw [List.getElem?_append_right (by rw [List.length_map]; omega), List.getElem?_replicate] at h
      split at h
      · cases h
        exact True.intro
      · cases h
  sep := fun i j a es fs hne h1 h2 h3 h4 => by
    unfold startD at h1
    by_cases hi : i < ds.length
    · rw [List.getElem?_append_left (by rw [List.length_map]; exact hi), List.getElem?_map, List.getElem?_eq_getElem hi] at h1
      cases h1
    · rw [List.getElem?_append_right (by rw [List.length_map]; omega), List.getElem?_replicate] at h1
      split at h1 <;> cases h1

section
variable {P : Program} {w : World} {K : PySem.W.Frag} {mg : Str → Option Value} {base : Heap}
/-- THE RULE for a def that raises nothing -/
theorem fn_ok {x qual : Str} {st : Stmt} {f : Addr} {fd : FuncData} {N ps : List Str} {k : Nat} {S : DSp} (F : Fun K x qual st f fd) (Sc : FnScope N ps (defScope st)) (hl : Arity S ps.length)
    (hbody : ∀ (cdv : Value) (A : Around) (outer : List Env) (s : Shared) (H : Hp) (E : XK) (Z : Zx), Room k (A.deeper (envOfC qual (defScope st) s.heap.objs.size f cdv)) →
      ∃ r : RS, QSs (cxOf CX0 P w K mg base N qual (defScope st) f cdv A outer s H E).nox Z (defBody st) r ∧
        ∀ ds M Φ Ψ, S ds M Φ Ψ → r { nx := fun _ M' => Φ .non M', rt := Φ } (startD N.length ds) M) : FnOk P w K mg base CX0 (k + 1) f fd ps (spOf K S) := by
  refine F.ok Sc (spOf_len hl) fun cdv A outer s H vs Q E hr h => ?_
  obtain ⟨R, F0, M, ds, Φ, Ψ, b, r, hS, hq, hx⟩ := h
  obtain ⟨rs, ⟨t, p, sim⟩, red⟩ := hbody cdv A outer s H E ⟨R, F0⟩ hr
  refine ⟨t, p, sim M _ H _ F0 _ (cn_start b r) (red ds M Φ Ψ hS) _ ⟨?_, ?_, ?_, ?_⟩⟩
  · intro σ' H' Δ' M' F' e c k
    exact hq .non H' .non M' F' c.bs rfl k
  · intro v H' d M' F' e c rr k
    exact hq v H' d M' F' c rr k
  · intro σ' H' Δ' M' F' e c k
    exact k.elim
  · intro σ' H' Δ' M' F' e c k
    exact k.elim
end

/-! ### calls -/
open Classical in
/-- the rest of the heap at a call: what is neither handed over nor frozen: the caller's own lists too -/
noncomputable def restAt (Z : Zx) (σ : L2.St) (Δ : List Sl) (H : Hp) : Hp := fun a => if ∃ (i : Nat) (ds : List D), Δ[i]? = some (.own ds) ∧ σ[i]? = some (some (.ref a)) then H a else Z.R a
section
variable {K : PySem.W.Frag} {Z : Zx} {M M' : Mem} {σ : L2.St} {H H' F F' : Hp} {Δ : List Sl}
theorem rest_own {i : Nat} {ds : List D} {a : Addr} (h1 : Δ[i]? = some (.own ds)) (h2 : σ[i]? = some (some (.ref a))) : restAt Z σ Δ H a = H a := by
  unfold restAt
  rw [if_pos ⟨i, ds, h1, h2⟩]
theorem rest_other {a : Addr} (h : ¬ ∃ (i : Nat) (ds : List D), Δ[i]? = some (.own ds) ∧ σ[i]? = some (some (.ref a))) : restAt Z σ Δ H a = Z.R a := by
  unfold restAt
  rw [if_neg h]
theorem call_in (c : Cn K Z M σ H Δ F) : Bs K ⟨restAt Z σ Δ H, F⟩ M H F where
  f0 := Ex.refl _
  fH := c.bs.fH
  rH := fun a o h => by
    replace h : restAt Z σ Δ H a = some o := h
    by_cases hx : ∃ (i : Nat) (ds : List D), Δ[i]? = some (.own ds) ∧ σ[i]? = some (some (.ref a))
    · obtain ⟨i, ds, h1, h2⟩ := hx
      rw [rest_own h1 h2] at h
      exact h
    · rw [rest_other hx] at h
      exact c.bs.rH a o h
  fr := fun a o h => by
    by_cases hx : ∃ (i : Nat) (ds : List D), Δ[i]? = some (.own ds) ∧ σ[i]? = some (some (.ref a))
    · obtain ⟨i, ds, h1, h2⟩ := hx
      obtain ⟨b, vs, e, g1, g2, g3, _⟩ := c.slot i _ h1
      rw [h2] at e
      cases e
      rw [g3] at h
      cases h
    · show restAt Z σ Δ H a = none
      rw [rest_other hx]
      exact c.bs.fr a o h
  mm := fun a o h => by
    obtain ⟨h1, h2, h3⟩ := c.bs.mm a o h
    refine ⟨h1, ?_, h3⟩
    show restAt Z σ Δ H a = none
    by_cases hx : ∃ (i : Nat) (ds : List D), Δ[i]? = some (.own ds) ∧ σ[i]? = some (some (.ref a))
    · obtain ⟨i, ds, g1, g2⟩ := hx
      obtain ⟨b, vs, e, _, _, _, _, g5⟩ := c.slot i _ g1
      rw [g2] at e
      cases e
      rw [g5] at h
      cases h
    · rw [rest_other hx]
      exact h2
theorem call_out (c : Cn K Z M σ H Δ F) (b : Bs K ⟨restAt Z σ Δ H, F⟩ M' H' F') : Cn K Z M' σ H' Δ F' := by
  have own : ∀ (i : Nat) (ds : List D) (a : Addr) (vs : List V), Δ[i]? = some (.own ds) → σ[i]? = some (some (.ref a)) → H a = some (.lst vs) → F' a = none ∧ H' a = some (.lst vs) ∧ M' a = none := fun i ds a vs h1 h2 h3 => by
    have e : restAt Z σ Δ H a = some (.lst vs) := (rest_own h1 h2).trans h3
    refine ⟨?_, b.rH a _ e, ?_⟩
    · cases h : F' a with
      | none => rfl
      | some o =>
        have := b.fr a o h
        rw [show (⟨restAt Z σ Δ H, F⟩ : Zx).R a = restAt Z σ Δ H a from rfl, e] at this
        cases this
    · cases h : M' a with
      | none => rfl
      | some o =>
        have := (b.mm a o h).2.1
        rw [show (⟨restAt Z σ Δ H, F⟩ : Zx).R a = restAt Z σ Δ H a from rfl, e] at this
        cases this
  have rz : ∀ a, restAt Z σ Δ H a = none → Z.R a = none := fun a h => by
    by_cases hx : ∃ (i : Nat) (ds : List D), Δ[i]? = some (.own ds) ∧ σ[i]? = some (some (.ref a))
    · obtain ⟨i, ds, g1, g2⟩ := hx
      obtain ⟨b, vs, e, g3, _⟩ := c.slot i _ g1
      rw [g2] at e
      cases e
      rw [rest_own g1 g2, g3] at h
      cases h
    · rw [rest_other hx] at h
      exact h
  refine ⟨⟨c.bs.f0.trans b.f0, b.fH, fun a o h => ?_, fun a o h => rz a (b.fr a o h), fun a o h => ⟨(b.mm a o h).1, rz a (b.mm a o h).2.1, (b.mm a o h).2.2⟩⟩, c.len, fun i s h => ?_, c.sep⟩
  · refine b.rH a o ?_
    show restAt Z σ Δ H a = some o
    by_cases hx : ∃ (i : Nat) (ds : List D), Δ[i]? = some (.own ds) ∧ σ[i]? = some (some (.ref a))
    · obtain ⟨i, ds, g1, g2⟩ := hx
      obtain ⟨b, vs, e, _, _, _, g4, _⟩ := c.slot i _ g1
      rw [g2] at e
      cases e
      rw [g4] at h
      cases h
    · rw [rest_other hx]
      exact h
  · have k := c.slot i s h
    cases s with
    | un => exact True.intro
    | d d =>
      obtain ⟨v, e, r⟩ := k
      exact ⟨v, e, rp_mono b.f0 _ _ r⟩
    | own ds =>
      obtain ⟨a, vs, e, h1, h2, h3, h4, h5⟩ := k
      obtain ⟨q1, q2, q3⟩ := own i ds a vs h e h1
      exact ⟨a, vs, e, q2, rps_mono b.f0 _ _ h2, q1, h4, q3⟩
end
def noX : DX := fun _ _ _ => False
/-- f(..): the callee's promise -/
def dCall (S : DSp) (rl : RA) : RE := fun Δ M Φ => rl Δ M fun ds Δ1 M1 => S ds M1 (fun d M2 => Φ d Δ1 M2) noX
section
variable {X : Cx} {Z : Zx} {e : Expr} {pos : Pos} {es : List Expr} {rl : RA} {n k : Nat} {f : Addr} {fd : FuncData} {ps : List Str} {x : Str} {p : Pos} {S : DSp}
theorem sim_call {K : PySem.W.Frag} {t : TA} (h : SimA K Z n t rl) : Sim K Z (tCall (spOf K S) [] E0 t) (dCall S rl) := by
  intro M σ H Δ F Φ c k Q q
  refine h M σ H Δ F _ c k _ fun vs H1 ds Δ1 M1 F1 e1 c1 r1 hl h1 => ?_
  show spOf K S (vs ++ []) H1 Q E0
  rw [List.append_nil]
  refine ⟨restAt Z σ Δ1 H1, F1, M1, ds, _, noX, call_in c1, r1, h1, fun v H' d M' F' b rr hΦ => ?_, fun C fs M' dd H' F' b rr hΨ => hΨ.elim⟩
  exact q v H' d Δ1 M' F' (e1.trans b.f0) (call_out c1 b) rr hΦ
theorem qe_call (Fn : FnOk X.prog X.w X.K X.mg X.base CX0 k f fd ps (spOf X.K S)) (hr : Room k X.A) (hg : Gl X x) (hm : X.mg x = some (.ref f)) (hk : PySem.W.keepIn X.K (.ref f) = true) (hb : Binds X.K fd ps []) (ha : QA X Z n (e :: es) rl) (hdb : (x == ("__debug__" : Str)) = false := by decide)
    (he : starEach (e :: es) X.env = (false, eval e X.env) :: starEach es X.env := by rfl) (hpl : (backTo pos (starEach es X.env)).any (·.1) = false := by rfl) : QE X Z (.Call (.Name x p) (e :: es) [] pos) (dCall S rl) := by
  obtain ⟨t, pa, s⟩ := ha
  exact ⟨_, pe_call Fn hr hg hm hk hb .nil pass0 pa hdb he hpl, sim_call s⟩
theorem qe_call0 (Fn : FnOk X.prog X.w X.K X.mg X.base CX0 k f fd ps (spOf X.K S)) (hr : Room k X.A) (hg : Gl X x) (hm : X.mg x = some (.ref f)) (hk : PySem.W.keepIn X.K (.ref f) = true) (hb : Binds X.K fd ps []) (hdb : (x == ("__debug__" : Str)) = false := by decide) :
    QE X Z (.Call (.Name x p) [] [] pos) (dCall S dNil) := by
  refine ⟨_, pe_call0 Fn hr hg hm hk hb .nil pass0 hdb, sim_call (n := 0) fun M σ H Δ F Φ c h Q q => q [] H [] Δ M F (Ex.refl _) c rfl rfl h⟩
end
/-! ### the law -/
/-- the law's own promise: True for every script -/
def lawSp : DSp := fun ds M Φ _ => ∃ ns : List Int, ds = [.scr ns] ∧ ns.length ≤ 63 ∧ ∀ M', Φ (.bl true) M'
theorem law_start {K : PySem.W.Frag} {H : Hp} {a : Addr} {ns : List Int} (hl : ns.length ≤ 63) (hS : SqL K H a (ns.map V.int)) : spOf K lawSp [.ref a] H (fun v _ => v = .bl true) fun _ _ _ => False := by
  refine ⟨fun _ => none, H, fun _ => none, [.scr ns], fun d _ => d = .bl true, noX, ⟨Ex.refl _, Ex.refl _, fun a o h => (by cases h), fun _ _ _ => rfl, fun a o h => (by cases h)⟩, ⟨.ref a, [], rfl, ⟨a, rfl, hS⟩, rfl⟩, ⟨ns, rfl, hl, fun _ => rfl⟩, fun v H' d M' F' b r e => ?_, fun C fs M' dd H' F' b r e => e.elim⟩
  subst e
  exact r
end DL

set_option Elab.async false
set_option linter.all false
set_option maxRecDepth 100000
set_option maxHeartbeats 4000000
namespace DL
open PySem PySem.Spec PyProof.Rows L2
open Evl (Ex)
section
variable {X : Cx} {Z : Zx} {e a b c : Expr} {ra rb rc r : RE} {rt ru : RT} {pos : Pos} {es : List Expr} {rl : RA} {n : Nat} {K : PySem.W.Frag}
/-! ### products and quotients of any size -/
def CMulA (i j : Int) : Prop := CMul i j ∨ CMulW i j
theorem op_mulA : OpR X (binaryOp .Mult) (rI CMulA fun i j => .int (i * j)) := by
  intro pins s σ H x y v u Q I rx ry h
  obtain ⟨i, j, h1, h2, hc, q⟩ := h
  rcases hc with hc | hc
  · exact op_mul pins s σ H x y v u Q I rx ry ⟨i, j, h1, h2, hc, q⟩
  · exact op_mulW pins s σ H x y v u Q I rx ry ⟨i, j, h1, h2, hc, q⟩
theorem qe_mulA (ha : QE X Z a ra) (hb : QE X Z b rb) : QE X Z (.BinOp a .Mult b pos) (dOp (dIC CMulA fun i j => .int (i * j)) ra rb) := qe_bin op_mulA (opD_IC fun _ _ _ => rfl) ha hb
def CDivA (i j : Int) : Prop := 0 < j ∧ (j < 1073741824 ∨ j.natAbs.log2 < 9000)
theorem op_fdivA : OpR X (binaryOp .FloorDiv) (rI CDivA fun i j => .int (i / j)) := by
  intro pins s σ H x y v u Q I rx ry h
  obtain ⟨i, j, h1, h2, hc, q⟩ := h
  rcases hc.2 with h | h
  · exact op_fdiv pins s σ H x y v u Q I rx ry ⟨i, j, h1, h2, ⟨hc.1, h⟩, q⟩
  · exact op_fdivW pins s σ H x y v u Q I rx ry ⟨i, j, h1, h2, ⟨hc.1, h⟩, q⟩
theorem qe_fdivA (ha : QE X Z a ra) (hb : QE X Z b rb) : QE X Z (.BinOp a .FloorDiv b pos) (dOp (dIC CDivA fun i j => .int (i / j)) ra rb) := qe_bin op_fdivA (opD_IC fun _ _ _ => rfl) ha hb

/-! ### == of anything -/
def dEqA : D → D → (D → Prop) → Prop := fun x y Φ => match x, y with
  | .int i, .int j => Φ (.bl (decide (i = j)))
  | .str i, .str j => Φ (.bl (decide (i = j)))
  | .bl i, .bl j => Φ (.bl (decide (i = j)))
  | x, y => dEq x y Φ
def dNeA : D → D → (D → Prop) → Prop := fun x y Φ => match x, y with
  | .int i, .int j => Φ (.bl (!decide (i = j)))
  | .str i, .str j => Φ (.bl (!decide (i = j)))
  | .bl i, .bl j => Φ (.bl (!decide (i = j)))
  | x, y => dNe x y Φ
def rEqA (K : PySem.W.Frag) : R2 := fun x y H Q => rEq x y H Q ∨ rEqD K x y H Q
def rNeA (K : PySem.W.Frag) : R2 := fun x y H Q => rNe x y H Q ∨ rNeD K x y H Q
theorem op_eqA (hu : X.A.units + 64 < cLine) : OpR X (compareOp .Eq) (rEqA X.K) := OpR.or op_eq (op_eqD hu)
theorem op_neA (hu : X.A.units + 64 < cLine) : OpR X (compareOp .NotEq) (rNeA X.K) := OpR.or op_ne (op_neD hu)
theorem od_eqA : OpD K (rEqA K) dEqA := OpD.or od_eqS od_eq fun x y Φ k => by
  unfold dEqA at k
  split at k
  · exact .inl k
  · exact .inl k
  · exact .inl k
  · exact .inr k
theorem od_neA : OpD K (rNeA K) dNeA := OpD.or od_neS od_ne fun x y Φ k => by
  unfold dNeA at k
  split at k
  · exact .inl k
  · exact .inl k
  · exact .inl k
  · exact .inr k

/-! ### in -/
def D.flat : D → Bool
  | .non | .bl _ | .int _ | .str _ => true
  | _ => false
def D.v : D → V
  | .non => .non | .bl b => .bl b | .int i => .int i | .str x => .str x | _ => .non
theorem rp_flat {F : Hp} {d : D} {v : V} (h : Rp K F d v) (f : d.flat = true) : v = d.v ∧ flatV v = true := by
  cases d with
  | non => exact ⟨h, by rw [show v = .non from h] <;> rfl⟩
  | bl b => exact ⟨h, by rw [show v = .bl b from h] <;> rfl⟩
  | int b => exact ⟨h, by rw [show v = .int b from h] <;> rfl⟩
  | str b => exact ⟨h, by rw [show v = .str b from h] <;> rfl⟩
  | _ => cases f
theorem rps_flat {F : Hp} : ∀ {ds : List D} {vs : List V}, Rps K F ds vs → ds.all D.flat = true → vs = ds.map D.v ∧ vs.all flatV = true
  | [], vs, h, _ => by rw [show vs = [] from h]; exact ⟨rfl, rfl⟩
  | d :: ds, vs, h, f => by
    obtain ⟨v, r, e, h1, h2⟩ := h
    rw [List.all_cons, Bool.and_eq_true] at f
    obtain ⟨g1, g2⟩ := rp_flat h1 f.1
    obtain ⟨g3, g4⟩ := rps_flat h2 f.2
    rw [e]
    exact ⟨by rw [List.map_cons, ← g1, ← g3], by rw [List.all_cons, g2, g4] <;> rfl⟩
def inD (x : D) (ds : List D) : Bool := inV x.v (ds.map D.v)
def dInA (neg : Bool) : D → D → (D → Prop) → Prop := fun x y Φ => match y with
  | .tup ds => x.flat = true ∧ ds.all D.flat = true ∧ Φ (.bl (if neg then !inD x ds else inD x ds))
  | .lst ds => x.flat = true ∧ ds.all D.flat = true ∧ Φ (.bl (if neg then !inD x ds else inD x ds))
  | .str z => ∃ k : Nat, x = .str ⟨#[k]⟩ ∧ Φ (.bl (if neg then !decide (k ∈ z.cps.toList) else decide (k ∈ z.cps.toList)))
  | _ => False
def rInSg (neg : Bool) : R2 := fun x y H Q => ∃ (c : Nat) (z : Str), x = .str ⟨#[c]⟩ ∧ y = .str z ∧ Q (.bl (if neg then !decide (c ∈ z.cps.toList) else decide (c ∈ z.cps.toList))) H
def rInA (K : PySem.W.Frag) (neg : Bool) : R2 := fun x y H Q => rIn K neg x y H Q ∨ rInSg neg x y H Q
theorem op_inA : OpR X (compareOp .In) (rInA X.K false) := OpR.or op_in_seq (by
  intro pins s σ H x y v u Q I rx ry h
  obtain ⟨c, z, h1, h2, q⟩ := h
  exact op_in_sign pins s σ H x y v u Q I rx ry ⟨c, z, h1, h2, q⟩)
theorem op_ninA : OpR X (compareOp .NotIn) (rInA X.K true) := OpR.or op_notIn_seq (by
  intro pins s σ H x y v u Q I rx ry h
  obtain ⟨c, z, h1, h2, q⟩ := h
  exact op_notIn_sign pins s σ H x y v u Q I rx ry ⟨c, z, h1, h2, q⟩)
theorem od_inA {neg : Bool} : OpD K (rInA K neg) (dInA neg) := by
  intro Z M σ H Δ F x y v w Φ c rx ry k Q q
  unfold dInA at k
  split at k
  · obtain ⟨p, vs, e1, h1, h2⟩ := ry
    obtain ⟨f1, f2, k⟩ := k
    obtain ⟨g1, g2⟩ := rp_flat rx f1
    obtain ⟨g3, g4⟩ := rps_flat h2 f2
    refine .inl ⟨p, vs, e1, .inr (Evl.ex_t c.bs.fH h1), g2, g4, ?_⟩
    rw [g1, g3]
    exact q _ H (.bl _) F (Ex.refl _) c rfl k
  · obtain ⟨p, vs, e1, h1, h2⟩ := ry
    obtain ⟨f1, f2, k⟩ := k
    obtain ⟨g1, g2⟩ := rp_flat rx f1
    obtain ⟨g3, g4⟩ := rps_flat h2 f2
    refine .inl ⟨p, vs, e1, .inl (SqL.of (c.bs.fH _ _ h1)), g2, g4, ?_⟩
    rw [g1, g3]
    exact q _ H (.bl _) F (Ex.refl _) c rfl k
  · obtain ⟨j, e1, k⟩ := k
    subst e1
    exact .inr ⟨j, _, rx, ry, q _ H (.bl _) F (Ex.refl _) c rfl k⟩
  · exact k.elim

/-! ### chains, truth -/
def dChain (d1 d2 : D → D → (D → Prop) → Prop) (ra rb rc : RE) : RE := fun Δ M Φ => ra Δ M fun x Δ1 M1 => rb Δ1 M1 fun y Δ2 M2 => d1 x y fun z => match z with
  | .bl k => bs k fun k => match k with
    | true => rc Δ2 M2 fun w Δ3 M3 => d2 y w fun u => Φ u Δ3 M3
    | false => Φ (.bl false) Δ2 M2
  | _ => False
theorem sim_chain {r1 r2 : R2} {d1 d2 : D → D → (D → Prop) → Prop} {ta tb tc : TE} (h1 : OpD K r1 d1) (h2 : OpD K r2 d2) (ha : Sim K Z ta ra) (hb : Sim K Z tb rb) (hc : Sim K Z tc rc) : Sim K Z (tChain r1 r2 ta tb tc) (dChain d1 d2 ra rb rc) := by
  intro M σ H Δ F Φ c h Q q
  refine ha M σ H Δ F _ c h _ fun v H1 x Δ1 M1 F1 e1 c1 q1 k1 => ?_
  refine hb M1 σ H1 Δ1 F1 _ c1 k1 _ fun w H2 y Δ2 M2 F2 e2 c2 q2 k2 => ?_
  refine h1 Z M2 σ H2 Δ2 F2 x y v w _ c2 (rp_mono e2 _ _ q1) q2 k2 _ fun u H3 z F3 e3 c3 q3 k3 => ?_
  cases z with
  | bl k =>
    refine ⟨k, q3, ?_⟩
    replace k3 := bs_of k3
    cases k with
    | true =>
      refine iteT (hc M2 σ H3 Δ2 F3 _ c3 k3 _ fun w' H4 y' Δ4 M4 F4 e4 c4 q4 k4 => ?_)
      exact h2 Z M4 σ H4 Δ4 F4 y y' w w' _ c4 (rp_mono e4 _ _ (rp_mono e3 _ _ q2)) q4 k4 Q fun u' H5 d F5 e5 c5 q5 k5 => q u' H5 d Δ4 M4 F5 ((((e1.trans e2).trans e3).trans e4).trans e5) c5 q5 k5
    | false => exact iteF (q _ H3 (.bl false) Δ2 M2 F3 ((e1.trans e2).trans e3) c3 rfl k3)
  | _ => exact k3.elim
theorem qe_chain {op op' : CmpOp} {r1 r2 : R2} {d1 d2 : D → D → (D → Prop) → Prop} (o1 : OpR X (compareOp op) r1) (h1 : OpD X.K r1 d1) (o2 : OpR X (compareOp op') r2) (h2 : OpD X.K r2 d2) (ha : QE X Z a ra) (hb : QE X Z b rb) (hc : QE X Z c rc) (hm : lastMarks [op, op'] [b, c] = false := by with_unfolding_all rfl) :
    QE X Z (.Compare a [op, op'] [b, c] pos) (dChain d1 d2 ra rb rc) := by
  obtain ⟨ta, pa, sa⟩ := ha
  obtain ⟨tb, pb, sb⟩ := hb
  obtain ⟨tc, pc, sc⟩ := hc
  exact ⟨_, pe_chain o1 o2 pa pb pc hm, sim_chain h1 h2 sa sb sc⟩
theorem qt_chain {op op' : CmpOp} {r1 r2 : R2} {d1 d2 : D → D → (D → Prop) → Prop} (o1 : OpR X (compareOp op) r1) (h1 : OpD X.K r1 d1) (o2 : OpR X (compareOp op') r2) (h2 : OpD X.K r2 d2) (ha : QE X Z a ra) (hb : QE X Z b rb) (hc : QE X Z c rc) (hm : lastMarks [op, op'] [b, c] = false := by with_unfolding_all rfl) :
    QT X Z (.Compare a [op, op'] [b, c] pos) (dTest (dChain d1 d2 ra rb rc)) := by
  obtain ⟨ta, pa, sa⟩ := ha
  obtain ⟨tb, pb, sb⟩ := hb
  obtain ⟨tc, pc, sc⟩ := hc
  exact ⟨_, pt_chain o1 o2 pa pb pc hm, simT_test (sim_chain h1 h2 sa sb sc)⟩
def dTruth (r : RE) : RT := fun Δ M Φ => r Δ M fun x Δ1 M1 => match x with
  | .bl k => bs k fun k => Φ k Δ1 M1
  | .int i => bs (i != 0) fun k => Φ k Δ1 M1
  | .str z => z.length ≤ sizeLine ∧ bs ((z.length : Int) != 0) fun k => Φ k Δ1 M1
  | .lst ds => bs (!ds.isEmpty) fun k => Φ k Δ1 M1
  | .tup ds => bs (!ds.isEmpty) fun k => Φ k Δ1 M1
  | .non => Φ false Δ1 M1
  | _ => False
theorem rps_empty {F : Hp} {ds : List D} {vs : List V} (h : Rps K F ds vs) : vs.isEmpty = ds.isEmpty := by
  have := rps_len h
  cases ds <;> cases vs <;> first | rfl | (simp at this)
theorem qt_truth (h : QE X Z e r) (he : ∀ whole, isTrue e X.env whole = (do let v ← whole; standAt e.pos; holding [v] (truthy v)) := by intro _; rfl) : QT X Z e (dTruth r) := by
  obtain ⟨t, p, s⟩ := h
  refine ⟨_, pt_truth p he, fun M σ H Δ F Φ c h Q q => ?_⟩
  refine s M σ H Δ F _ c h _ fun v H1 x Δ1 M1 F1 e1 c1 r1 h1 => ?_
  cases x with
  | bl k => rw [show v = .bl k from r1]; exact ⟨k, rfl, q k H1 Δ1 M1 F1 e1 c1 (bs_of h1)⟩
  | int i => rw [show v = .int i from r1]; exact ⟨_, rfl, q _ H1 Δ1 M1 F1 e1 c1 (bs_of h1)⟩
  | str z => rw [show v = .str z from r1]; exact ⟨_, ⟨h1.1, rfl⟩, q _ H1 Δ1 M1 F1 e1 c1 (bs_of h1.2)⟩
  | non => rw [show v = .non from r1]; exact ⟨_, rfl, q _ H1 Δ1 M1 F1 e1 c1 h1⟩
  | lst ds =>
    obtain ⟨p, vs, e2, g1, g2⟩ := r1
    rw [e2]
    exact ⟨!ds.isEmpty, .inl ⟨vs, SqL.of (c1.bs.fH _ _ g1), by rw [rps_empty g2]⟩, q _ H1 Δ1 M1 F1 e1 c1 (bs_of h1)⟩
  | tup ds =>
    obtain ⟨p, vs, e2, g1, g2⟩ := r1
    rw [e2]
    exact ⟨!ds.isEmpty, .inr (.inl ⟨vs, Evl.ex_t c1.bs.fH g1, by rw [rps_empty g2]⟩), q _ H1 Δ1 M1 F1 e1 c1 (bs_of h1)⟩
  | _ => exact h1.elim
/-- the truth of an own list -/
def dTruthO (j : Nat) : RT := fun Δ M Φ => match Δ[j]? with
  | some (.own ds) => bs (!ds.isEmpty) fun k => Φ k Δ M
  | _ => False
theorem qt_truthO (j : Nat) {x : Str} (hN : X.N[j]? = some x := by rfl) (hv : Vis X.env.scope x := by first | exact Or.inl rfl | exact Or.inr (Or.inl rfl) | exact Or.inr (Or.inr rfl)) (hd : (x == ("__debug__" : Str)) = false := by decide) (hcd : (x == ("__classdict__" : Str)) = false := by decide) : QT X Z (.Name x pos) (dTruthO j) := by
  refine ⟨_, pt_truth (pe_var (i := j) hN hv hd hcd) (by intro _; rfl), fun M σ H Δ F Φ c h Q q => ?_⟩
  unfold dTruthO at h
  split at h
  · rename_i ds hj
    obtain ⟨a, vs, hv0, g1, g2, _⟩ := c.slot j _ hj
    exact ⟨_, hv0, !ds.isEmpty, .inl ⟨vs, SqL.of g1, by rw [rps_empty g2]⟩, q _ H Δ M F (Ex.refl _) c (bs_of h)⟩
  · exact h.elim
end

/-! ### for over a list or a tuple -/
def iSeq (K : PySem.W.Frag) (tl : TE) : TI := fun σ H R => tl σ H fun x H1 => ∃ a, x = .ref a ∧ (((∃ xs, SqL K H1 a xs) ∧ R (Itl K a) H1) ∨ ((∃ xs, SqT K H1 a xs) ∧ R (Itt K a) H1))
theorem pi_seq {X : Cx} {tg l : Expr} {tl : TE} (hl : PE X l tl) : PI X tg l (iSeq X.K tl) := by
  refine ⟨fun pins s σ H R I h => ?_⟩
  refine thn (hl.run pins s σ H _ I h) fun v s1 ⟨x, H1, I1, r1, q1⟩ => ?_
  obtain ⟨a, e, q⟩ := q1
  subst e
  cases r1
  rcases q with ⟨⟨xs, hq⟩, q⟩ | ⟨⟨xs, hq⟩, q⟩
  · obtain ⟨its, rv, p, hz⟩ := I1.list hq
    refine wpAny_pyIter_list p.isList ?_
    refine ⟨s1.heap.objs.size, [s1.heap.objs.size], _, _, H1, rfl, I1.kept (t' := s1.toks) fun b o e => Heap.get?_push_of_some _ e, turn_list a _, ⟨_, Heap.get?_push_size _ rfl, rfl, rfl⟩, fun b hb => ?_, q⟩
    have e : b = s1.heap.objs.size := by simpa using hb
    subst e
    exact I1.fpOk (Nat.le_refl _) (I1.hok.fresh (Nat.le_refl _))
  · obtain ⟨its, rv, p, hz⟩ := I1.tuple hq
    refine wpAny_pyIter_tuple (show s1.heap.IsTuple a its.toArray from p) ?_
    refine ⟨s1.heap.objs.size, [s1.heap.objs.size], _, _, H1, rfl, I1.kept (t' := s1.toks) fun b o e => Heap.get?_push_of_some _ e, turn_tuple a _, ⟨_, Heap.get?_push_size _ rfl, rfl, rfl⟩, fun b hb => ?_, q⟩
    have e : b = s1.heap.objs.size := by simpa using hb
    subst e
    exact I1.fpOk (Nat.le_refl _) (I1.hok.fresh (Nat.le_refl _))
def dFor (j : Nat) (js : List Nat) (r : RE) (u : RS) : RS := fun D Δ M => r Δ M fun x Δ1 M1 => match x with
  | .lst ds => dLoop j js ds u D Δ1 M1
  | .scr ns => dLoop j js (ns.map .int) u D Δ1 M1
  | .tup ds => dLoop j js ds u D Δ1 M1
  | _ => False
theorem qs_for {X : Cx} {Z : Zx} {pos : Pos} {r : RE} {j : Nat} {js : List Nat} {x : Str} {px : Pos} {body : List Stmt} {iter : Expr} {u : RS} (hp : PassesOwn (model X.prog X.w) X.A X.env X.xe) (hc : X.calm = true) (hN : X.N.Nodup) (h : QE X Z iter r) (hb : QSs X Z body u) (hi : X.N[j]? = some x := by rfl) (hx : Loc X.env.scope x := by first | exact Or.inl rfl | exact Or.inr rfl)
    (hf : X.fn x = true ∨ X.env.scope.names.lookup x = some .local := by first | exact .inl rfl | exact .inr rfl) (hs : ∀ x, foldedSetIterable iter X.env x = pure x := by intro _; rfl) : QS X Z (.For (.Name x px) iter body [] pos) (dFor j js r u) := by
  obtain ⟨t, p, s⟩ := h
  obtain ⟨tb, pb, sb⟩ := hb
  refine ⟨_, ps_for hp hc (pi_seq p) (pg_name (i := j) hN hi hx hf) pb hs, fun M σ H Δ F De c h Dv ok => ?_⟩
  refine s M σ H Δ F _ c h _ fun v H1 y Δ1 M1 F1 e1 c1 r1 h1 => ?_
  cases y with
  | lst ds =>
    obtain ⟨a, vs, e2, g1, g2⟩ := r1
    exact ⟨a, e2, .inl ⟨⟨_, SqL.of (c1.bs.fH _ _ g1)⟩, loop_list simG_name sb c1 (SqL.of g1) g2 h1 (ok.mono e1)⟩⟩
  | scr ns =>
    obtain ⟨a, e2, g1⟩ := r1
    exact ⟨a, e2, .inl ⟨⟨_, Evl.ex_l c1.bs.fH g1⟩, loop_list simG_name sb c1 g1 (ints_rps ns) h1 (ok.mono e1)⟩⟩
  | tup ds =>
    obtain ⟨a, vs, e2, g1, g2⟩ := r1
    exact ⟨a, e2, .inr ⟨⟨_, Evl.ex_t c1.bs.fH g1⟩, loop_tup simG_name sb c1 g1 g2 h1 (ok.mono e1)⟩⟩
  | _ => exact h1.elim

/-! ### readings of loops, ready for use -/
/-- a loop whose turns bring the slots from f i to f (i + 1) -/
theorem loop_by {j : Nat} {js : List Nat} {xs : List D} {u : RS} {De : DE} {Δ : List Sl} {M : Mem} (f : Nat → List Sl) (h0 : fgt js Δ = f 0)
    (hs : ∀ i d, xs[i]? = some d → u { De with nx := fun Δ2 M2 => fgt js Δ2 = f (i + 1) ∧ M2 = M, ct := fun Δ2 M2 => fgt js Δ2 = f (i + 1) ∧ M2 = M, bk := De.nx } ((f i).set j (.d d)) M) (hd : De.nx (f xs.length) M) : dLoop j js xs u De Δ M :=
  ⟨fun i Δ' M' => Δ' = f i ∧ M' = M, ⟨h0, rfl⟩, fun i d Δ1 M1 hi ⟨e1, e2⟩ => by subst e1 e2; exact hs i d hi, fun Δ1 M1 ⟨e1, e2⟩ => by subst e1 e2; exact hd⟩
end DL

set_option Elab.async false
set_option linter.all false
set_option maxRecDepth 100000
set_option maxHeartbeats 4000000
namespace DL
open PySem PySem.Spec PyProof.Rows L2
open Evl (Ex)
/-! ### lists in memory -/
def updM (M : Mem) (p : Addr) (o : OD) : Mem := fun a => if a = p then some o else M a
theorem updM_same {M : Mem} {p : Addr} {o : OD} : updM M p o p = some o := by unfold updM; rw [if_pos rfl]
theorem updM_ne {M : Mem} {p a : Addr} {o : OD} (h : a ≠ p) : updM M p o a = M a := by unfold updM; rw [if_neg h]
theorem updM_updM {M : Mem} {p : Addr} {o u : OD} : updM (updM M p o) p u = updM M p u := by
  funext a; unfold updM; split <;> rfl
section
variable {K : PySem.W.Frag} {Z : Zx} {M : Mem} {σ : L2.St} {H F : Hp} {Δ : List Sl}
theorem Cn.newM (c : Cn K Z M σ H Δ F) {p : Addr} {ds : List D} {vs : List V} (hp : H p = none) (r : Rps K F ds vs) : Cn K Z (updM M p (.lst ds)) σ (upd H p (.lst vs)) Δ F where
  bs := {
    f0 := c.bs.f0
    fH := (c.bs.newH hp _).fH
    rH := (c.bs.newH hp (.lst vs)).rH
    fr := c.bs.fr
    mm := fun a o h => by
      by_cases e : a = p
      · subst e
        rw [updM_same] at h
        cases h
        exact ⟨c.bs.freeF hp, c.bs.freeR hp, vs, upd_same, r⟩
      · rw [updM_ne e] at h
        exact (c.bs.newH hp (.lst vs)).mm a o h }
  len := c.len
  slot := fun i s h => by
    have k := (c.newH hp (.lst vs)).slot i s h
    cases s with
    | un => exact True.intro
    | d d => exact k
    | own es =>
      obtain ⟨a, ws, e, h1, h2, h3, h4, h5⟩ := k
      have g := c.slot i _ h
      obtain ⟨a', ws', e', g1, _⟩ := g
      rw [e] at e'
      cases e'
      exact ⟨a, ws, e, h1, h2, h3, h4, by rw [updM_ne (ne_of_none g1 hp)]; exact h5⟩
  sep := c.sep
theorem Cn.setM (c : Cn K Z M σ H Δ F) {p : Addr} {o : OD} {ds : List D} {vs : List V} (hM : M p = some o) (r : Rps K F ds vs) : Cn K Z (updM M p (.lst ds)) σ (upd H p (.lst vs)) Δ F := by
  obtain ⟨m1, m2, m3⟩ := c.bs.mm p o hM
  refine ⟨⟨c.bs.f0, fun a u h => ?_, fun a u h => ?_, c.bs.fr, fun a u h => ?_⟩, c.len, fun i s h => ?_, c.sep⟩
  · have e : a ≠ p := fun e => by subst e; rw [m1] at h; cases h
    rw [upd_ne e]; exact c.bs.fH a u h
  · have e : a ≠ p := fun e => by subst e; rw [m2] at h; cases h
    rw [upd_ne e]; exact c.bs.rH a u h
  · by_cases e : a = p
    · subst e
      rw [updM_same] at h
      cases h
      exact ⟨m1, m2, vs, upd_same, r⟩
    · rw [updM_ne e] at h
      rw [upd_ne e]; exact c.bs.mm a u h
  · have k := c.slot i s h
    cases s with
    | un => exact True.intro
    | d d => exact k
    | own es =>
      obtain ⟨a, ws, e, h1, h2, h3, h4, h5⟩ := k
      have ne : a ≠ p := fun e => by subst e; rw [h5] at hM; cases hM
      exact ⟨a, ws, e, by rw [upd_ne ne]; exact h1, h2, h3, h4, by rw [updM_ne ne]; exact h5⟩
theorem Bs.lstM (b : Bs K Z M H F) {p : Addr} {ds : List D} (h : M p = some (.lst ds)) : ∃ vs, H p = some (.lst vs) ∧ Rps K F ds vs := (b.mm p _ h).2.2
end
section
variable {X : Cx} {Z : Zx} {e a b c : Expr} {ra rb rc r : RE} {rt ru : RT} {pos : Pos} {es : List Expr} {rl : RA} {n : Nat} {K : PySem.W.Frag}
/-- x = a new list, in memory -/
def dSetM (i : Nat) (rl : RA) : RS := fun D Δ M => rl Δ M fun ds Δ1 M1 => ∀ p, M1 p = none → D.nx (Δ1.set i (.d (.ref p))) (updM M1 p (.lst ds))
theorem qs_setM {i : Nat} {x : Str} {pos' : Pos} (hN : X.N.Nodup) (h : QL X Z e rl) (hi : X.N[i]? = some x := by rfl) (hx : Loc X.env.scope x := by first | exact Or.inl rfl | exact Or.inr rfl) (hs : swapsWith e (some (.Name x pos')) pos.line X.env = pure false := by rfl)
    (hf : X.fn x = true ∨ X.env.scope.names.lookup x = some .local := by first | exact .inl rfl | exact .inr rfl) : QS X Z (.Assign [.Name x pos'] e pos) (dSetM i rl) := by
  obtain ⟨t, p, s⟩ := h
  refine ⟨_, ps_set (i := i) hN hi hx p hs hf, fun M σ H Δ F De c h Dv ok => ?_⟩
  refine s M σ H Δ F _ c h _ fun p H1 vs ds Δ1 M1 F1 e1 c1 hp r1 h1 => ?_
  exact ok.nx _ _ _ _ F1 e1 ((c1.newM hp r1).set (d := .ref p) rfl i) (h1 p (c1.bs.freeM hp))
/-- a new list as a value, in memory -/
def dNewM (rl : RA) : RE := fun Δ M Φ => rl Δ M fun ds Δ1 M1 => ∀ p, M1 p = none → Φ (.ref p) Δ1 (updM M1 p (.lst ds))
theorem qe_newM (h : QL X Z e rl) : QE X Z e (dNewM rl) := by
  obtain ⟨t, p, s⟩ := h
  refine ⟨t, p, fun M σ H Δ F Φ c h Q q => ?_⟩
  refine s M σ H Δ F _ c h Q fun p H1 vs ds Δ1 M1 F1 e1 c1 hp r1 h1 => ?_
  exact q _ _ (.ref p) Δ1 _ F1 e1 (c1.newM hp r1) rfl (h1 p (c1.bs.freeM hp))
/-- xs[i], len(xs), xs a list in memory -/
def dIxM (ra rb : RE) : RE := fun Δ M Φ => ra Δ M fun x Δ1 M1 => rb Δ1 M1 fun y Δ2 M2 => match x, y with
  | .ref p, .int i => ∃ ds, M2 p = some (.lst ds) ∧ ∃ d, atI ds i = some d ∧ Φ d Δ2 M2
  | _, _ => False
theorem qe_ixM (ha : QE X Z a ra) (hb : QE X Z b rb) (hs : PlainIx b := by intro _ _; rfl) : QE X Z (.Subscript a b pos) (dIxM ra rb) := by
  obtain ⟨ta, pa, sa⟩ := ha
  obtain ⟨tb, pb, sb⟩ := hb
  refine ⟨_, pe_ix ix_list pa pb hs, fun M σ H Δ F Φ c h Q q => ?_⟩
  refine sa M σ H Δ F _ c h _ fun v H1 x Δ1 M1 F1 e1 c1 r1 h1 => ?_
  refine sb M1 σ H1 Δ1 F1 _ c1 h1 _ fun w H2 y Δ2 M2 F2 e2 c2 r2 h2 => ?_
  split at h2
  · obtain ⟨ds, hM, d, hd, k⟩ := h2
    obtain ⟨vs, g1, g2⟩ := c2.bs.lstM hM
    obtain ⟨u, h3, h4⟩ := atI_rps g2 hd
    exact ⟨_, vs, _, u, r1, r2, SqL.of g1, h3, q u H2 d Δ2 M2 F2 (e1.trans e2) c2 h4 k⟩
  · exact h2.elim
def dLenM (r : RE) : RE := fun Δ M Φ => r Δ M fun x Δ1 M1 => match x with
  | .ref p => ∃ ds, M1 p = some (.lst ds) ∧ Φ (.int (ds.length : Nat)) Δ1 M1
  | _ => False
theorem qe_lenM {p : Pos} (hg : Gl X "len") (hm : X.mg "len" = none) (h : QE X Z e r) (he : starEach [e] X.env = (false, eval e X.env) :: starEach [] X.env := by rfl) (hpl : (backTo pos (starEach [] X.env)).any (·.1) = false := by rfl) :
    QE X Z (.Call (.Name "len" p) [e] [] pos) (dLenM r) := by
  obtain ⟨t, pa, s⟩ := h
  refine ⟨_, pe_callB cr_lenAll hg hm boot_len (pa_cons pa pa_nil he) (by decide) (by decide) he hpl, fun M σ H Δ F Φ c h Q q => ?_⟩
  refine s M σ H Δ F _ c h _ fun v H1 x Δ1 M1 F1 e1 c1 r1 h1 => ?_
  cases x with
  | ref p =>
    obtain ⟨ds, hM, k⟩ := h1
    obtain ⟨vs, g1, g2⟩ := c1.bs.lstM hM
    refine .inl ⟨p, vs, by rw [show v = .ref p from r1], .inl (SqL.of g1), ?_⟩
    rw [rps_len g2]
    exact q _ H1 (.int _) Δ1 M1 F1 e1 c1 rfl k
  | _ => exact h1.elim
/-- xs.append(e) -/
def dAppM (ra r : RE) : RS := fun D Δ M => ra Δ M fun x Δ1 M1 => match x with
  | .ref p => (∃ ds, M1 p = some (.lst ds)) ∧ r Δ1 M1 fun d Δ2 M2 => ∃ ds, M2 p = some (.lst ds) ∧ ds.length < sizeLine ∧ D.nx Δ2 (updM M2 p (.lst (ds ++ [d])))
  | _ => False
theorem qs_appM {o : Expr} {p2 pos' : Pos} (ho : QE X Z o ra) (h : QE X Z e r)
    (hpe : ∀ t u, PE X o t → PE X e u → PE X (.Call (.Attribute o "append" p2) [e] [] pos) (tBM X.K "list" rAppend t (tCons u tNil)) := by intro t u ht hu; exact pe_bm PySem.F.plainAttrs_list PySem.F.slot_list_append PySem.F.type_list_append mt_append ht (pa_cons hu pa_nil))
    (hs : swapsWith (.Call (.Attribute o "append" p2) [e] [] pos) none pos'.line X.env = pure false := by rfl) : QS X Z (.Expr (.Call (.Attribute o "append" p2) [e] [] pos) pos') (dAppM ra r) := by
  obtain ⟨t0, p0, s0⟩ := ho
  obtain ⟨t, p, s⟩ := h
  refine ⟨_, ps_expr (hpe t0 t p0 p) hs, fun M σ H Δ F De c h Dv ok => ?_⟩
  refine s0 M σ H Δ F _ c h _ fun v H1 x Δ1 M1 F1 e1 c1 r1 h1 => ?_
  cases x with
  | ref a =>
    obtain ⟨⟨ds0, hM0⟩, h1⟩ := h1
    obtain ⟨vs0, g0, _⟩ := c1.bs.lstM hM0
    rw [show v = .ref a from r1]
    refine ⟨.inl ⟨rfl, _, SqL.of g0⟩, ?_⟩
    refine s M1 σ H1 Δ1 F1 _ c1 h1 _ fun w H2 y Δ2 M2 F2 e2 c2 r2 h2 => ?_
    obtain ⟨ds, hM, hl, k⟩ := h2
    obtain ⟨vs, g1, g2⟩ := c2.bs.lstM hM
    refine ⟨a, vs, w, rfl, rfl, g1, by rw [rps_len g2]; exact hl, ?_⟩
    exact ok.nx σ _ _ _ F2 (e1.trans e2) (c2.setM hM (rps_app g2 (rps_one r2))) k
  | _ => exact h1.elim
/-- for x in xs, xs in memory and not changed -/
def dForM (j : Nat) (js : List Nat) (r : RE) (u : RS) : RS := fun D Δ M => r Δ M fun x Δ1 M1 => match x with
  | .ref p => ∃ ds, M1 p = some (.lst ds) ∧ ∃ Pv : Nat → List Sl → Mem → Prop, Pv 0 (fgt js Δ1) M1 ∧ (∀ i Δ2 M2, Pv i Δ2 M2 → M2 p = some (.lst ds)) ∧
    (∀ i d Δ2 M2, ds[i]? = some d → Pv i Δ2 M2 → u { D with nx := fun Δ3 M3 => Pv (i + 1) (fgt js Δ3) M3, ct := fun Δ3 M3 => Pv (i + 1) (fgt js Δ3) M3, bk := D.nx } (Δ2.set j (.d d)) M2) ∧ ∀ Δ2 M2, Pv ds.length Δ2 M2 → D.nx Δ2 M2
  | _ => False
theorem qs_forM {j : Nat} {js : List Nat} {x : Str} {px : Pos} {body : List Stmt} {iter : Expr} {u : RS} (hp : PassesOwn (model X.prog X.w) X.A X.env X.xe) (hc : X.calm = true) (hN : X.N.Nodup) (h : QE X Z iter r) (hb : QSs X Z body u) (hi : X.N[j]? = some x := by rfl) (hx : Loc X.env.scope x := by first | exact Or.inl rfl | exact Or.inr rfl)
    (hf : X.fn x = true ∨ X.env.scope.names.lookup x = some .local := by first | exact .inl rfl | exact .inr rfl) (hs : ∀ x, foldedSetIterable iter X.env x = pure x := by intro _; rfl) : QS X Z (.For (.Name x px) iter body [] pos) (dForM j js r u) := by
  obtain ⟨t, p, s⟩ := h
  obtain ⟨tb, pb, sb⟩ := hb
  refine ⟨_, ps_for hp hc (pi_list p) (pg_name (i := j) hN hi hx hf) pb hs, fun M σ H Δ F De c h Dv ok => ?_⟩
  refine s M σ H Δ F _ c h _ fun v H1 y Δ1 M1 F1 e1 c1 r1 h1 => ?_
  cases y with
  | ref a =>
    obtain ⟨ds, hM, Pv, h0, hst, hs, hd⟩ := h1
    obtain ⟨vs, g1, g2⟩ := c1.bs.lstM hM
    refine ⟨a, r1, ⟨vs, SqL.of g1⟩, fun i m σ H => ∃ Δ M F' ws, Ex F1 F' ∧ Cn X.K Z M σ H Δ F' ∧ H a = some (.lst ws) ∧ Rps X.K F' ds ws ∧ i + m = ds.length ∧ Pv i Δ M, ⟨ds.length, _, M1, F1, vs, Ex.refl _, cn_fgt js _ c1, g1, g2, Nat.zero_add _, h0⟩, ?_⟩
    rintro i m σ H ⟨Δ, M, F', ws, e, c, gl, gr, him, hp'⟩
    by_cases hi' : i < ds.length
    · have hd' : ds[i]? = some ds[i] := List.getElem?_eq_getElem hi'
      obtain ⟨w, hw, rw'⟩ := rps_get gr hd'
      refine .inr ⟨⟨ws, w, SqL.of gl, hw⟩, fun σ' H' => ∃ Δ M F' ws, Ex F1 F' ∧ Cn X.K Z M σ' H' Δ F' ∧ H' a = some (.lst ws) ∧ Rps X.K F' ds ws ∧ Pv (i + 1) Δ M, ?_, ?_⟩
      · rintro σ' H' ⟨Δ, M, F', ws, e, c, gl, gr, hp'⟩
        exact ⟨m - 1, by omega, Δ, M, F', ws, e, c, gl, gr, by omega, hp'⟩
      · rintro x H' ⟨rfl, hy⟩
        have ex : x = w := by
          have := hy ws (SqL.of gl)
          rw [hw] at this
          exact (Option.some.inj this).symm
        subst ex
        have again : ∀ (σ' : L2.St) (H' : Hp) (Δ' : List Sl) (M' : Mem) (F'' : Hp), Ex F' F'' → Cn X.K Z M' σ' H' Δ' F'' → Pv (i + 1) (fgt js Δ') M' → ∃ Δ M F' ws, Ex F1 F' ∧ Cn X.K Z M σ' H' Δ F' ∧ H' a = some (.lst ws) ∧ Rps X.K F' ds ws ∧ Pv (i + 1) Δ M := by
          intro σ' H' Δ' M' F'' e2 c' k
          obtain ⟨ws', q1, q2⟩ := c'.bs.lstM (hst _ _ _ k)
          exact ⟨_, M', F'', ws', e.trans e2, cn_fgt js _ c', q1, q2, k⟩
        refine sb M _ _ _ F' _ (c.set rw' j) (hs i _ Δ M hd' hp') _ ⟨again, ((ok.mono e1).mono e).rt, ((ok.mono e1).mono e).nx, again⟩
    · have : i = ds.length := by omega
      subst this
      refine .inl ⟨⟨ws, SqL.of gl, by rw [rps_len gr]; exact Nat.le_refl _⟩, ?_⟩
      exact ok.nx σ H Δ M F' (e1.trans e) c (hd _ _ hp')
  | _ => exact h1.elim
/-- for a, b in xs -/
def dForU (is js : List Nat) (r : RE) (u : RS) : RS := fun D Δ M => r Δ M fun x Δ1 M1 => match x with
  | .lst ds => dLoopG (tgU is) js ds u D Δ1 M1
  | .tup ds => dLoopG (tgU is) js ds u D Δ1 M1
  | _ => False
theorem qs_forU {is js : List Nat} {tgs : List Expr} {k : Nat} {tp : Pos} {body : List Stmt} {iter : Expr} {u : RS} (hp : PassesOwn (model X.prog X.w) X.A X.env X.xe) (hc : X.calm = true) (h : QE X Z iter r) (hg : PGs X tgs (gNames is)) (hb : QSs X Z body u)
    (hpg : PGs X tgs (gNames is) → PG X (.Tuple tgs k tp) (gTup X.K is.length (gNames is)) := by intro hg; exact pg_tup rfl hg) (hs : ∀ x, foldedSetIterable iter X.env x = pure x := by intro _; rfl) : QS X Z (.For (.Tuple tgs k tp) iter body [] pos) (dForU is js r u) := by
  obtain ⟨t, p, s⟩ := h
  obtain ⟨tb, pb, sb⟩ := hb
  refine ⟨_, ps_for hp hc (pi_seq p) (hpg hg) pb hs, fun M σ H Δ F De c h Dv ok => ?_⟩
  refine s M σ H Δ F _ c h _ fun v H1 y Δ1 M1 F1 e1 c1 r1 h1 => ?_
  cases y with
  | lst ds =>
    obtain ⟨a, vs, e2, g1, g2⟩ := r1
    exact ⟨a, e2, .inl ⟨⟨_, SqL.of (c1.bs.fH _ _ g1)⟩, loop_list simG_tup sb c1 (SqL.of g1) g2 h1 (ok.mono e1)⟩⟩
  | tup ds =>
    obtain ⟨a, vs, e2, g1, g2⟩ := r1
    exact ⟨a, e2, .inr ⟨⟨_, Evl.ex_t c1.bs.fH g1⟩, loop_tup simG_tup sb c1 g1 g2 h1 (ok.mono e1)⟩⟩
  | _ => exact h1.elim

/-! ### new lists -/
/-- xs + e, xs a list of one's own -/
def dCatO (j : Nat) (r : RE) : RA := fun Δ M Φ => isOwn Δ j ∧ r Δ M fun y Δ1 M1 => match Δ1[j]?, y with
  | some (.own ds), .lst es => ds.length + es.length ≤ sizeLine ∧ Φ (ds ++ es) Δ1 M1
  | _, _ => False
theorem ql_catO (j : Nat) {x : Str} {p2 : Pos} (hb : QE X Z b rb) (hN : X.N[j]? = some x := by rfl) (hv : Vis X.env.scope x := by first | exact Or.inl rfl | exact Or.inr (Or.inl rfl) | exact Or.inr (Or.inr rfl)) (hd : (x == ("__debug__" : Str)) = false := by decide)
    (hcd : (x == ("__classdict__" : Str)) = false := by decide) : QL X Z (.BinOp (.Name x p2) .Add b pos) (dCatO j rb) := by
  obtain ⟨tb, pb, sb⟩ := hb
  refine ⟨_, pe_op op_cat (pe_var (i := j) hN hv hd hcd) pb, ?_⟩
  rintro M σ H Δ F Φ c ⟨⟨ds0, h0⟩, h⟩ Q q
  obtain ⟨p0, vs0, hv0, _⟩ := c.slot j _ h0
  refine ⟨_, hv0, ?_⟩
  refine sb M σ H Δ F _ c h _ fun w H1 y Δ1 M1 F1 e1 c1 r1 h1 => ?_
  split at h1
  · rename_i ds es hd
    obtain ⟨p, vs, e2, g1, g2, _⟩ := c1.slot j _ hd
    rw [hv0] at e2
    cases e2
    obtain ⟨b', ws, e3, g3, g4⟩ := r1
    refine ⟨p0, b', vs, ws, rfl, e3, g1, c1.bs.fH _ _ g3, by rw [rps_len g2, rps_len g4]; exact h1.1, fun p hp => ?_⟩
    exact q p H1 _ _ Δ1 M1 F1 e1 c1 hp (rps_app g2 g4) h1.2
  · exact h1.elim
end
/-- a promise about nothing -/
def spNever : DSp := fun _ _ _ _ => False
theorem fn_never {P : Program} {w : World} {K : PySem.W.Frag} {mg : Str → Option Value} {base : Heap} {CX : CXT} {k : Nat} {f : Addr} {fd : FuncData} {ps : List Str} {S : DSp} (h : ∀ ds M Φ Ψ, ¬ S ds M Φ Ψ) : FnOk P w K mg base CX k f fd ps (spOf K S) :=
  ⟨fun vs H Q E ⟨_, _, _, _, _, _, _, _, s, _⟩ => absurd s (h _ _ _ _), fun A outer s H args us vs Q E _ _ _ _ ⟨_, _, _, _, _, _, _, _, z, _⟩ => absurd z (h _ _ _ _)⟩
end DL

set_option Elab.async false
set_option linter.all false
set_option maxRecDepth 100000
set_option maxHeartbeats 4000000
/-! Exceptions over data. -/
namespace DL
open PySem PySem.Spec PyProof.Rows L2
open Evl (Ex)

abbrev DXS := Addr → List (Str × D) → List Sl → Mem → Prop
def XOk (K : PySem.W.Frag) (Z : Zx) (W : WX) (Ψ : DXS) : Prop := ∀ C fs Δ M dd σ H F, Cn K Z M σ H Δ F → XRep K F fs dd → Ψ C fs Δ M → W (.ref C) dd σ H
abbrev flatX (Ψ : DX) : DXS := fun C fs _ M => Ψ C fs M
abbrev flatW (E : XK) : WX := fun cls d _ H => E cls d H
theorem XRep.mono {K : PySem.W.Frag} {F F' : Hp} (e : Ex F F') {fs : List (Str × D)} {dd : Option Addr} (x : XRep K F fs dd) : XRep K F' fs dd := by
  cases dd with
  | none => exact x
  | some d =>
    obtain ⟨vfs, h1, h2, h3⟩ := x
    exact ⟨vfs, e _ _ h1, h2, rps_mono e _ _ h3⟩
section
variable {P : Program} {w : World} {K : PySem.W.Frag} {mg : Str → Option Value} {base : Heap}
/-- THE RULE for a def that may raise -/
theorem fn_okX {x qual : Str} {st : Stmt} {f : Addr} {fd : FuncData} {N ps : List Str} {k : Nat} {S : DSp} (F : Fun K x qual st f fd) (Sc : FnScope N ps (defScope st)) (hl : Arity S ps.length)
    (hbody : ∀ (cdv : Value) (A : Around) (outer : List Env) (s : Shared) (H : Hp) (E : XK) (Z : Zx) (Ψ : DX), Room k (A.deeper (envOfC qual (defScope st) s.heap.objs.size f cdv)) →
      Takes (cxOf (L2.CX P w) P w K mg base N qual (defScope st) f cdv A outer s H E) (flatW E) → PassesOwn (model P w) (A.deeper (envOfC qual (defScope st) s.heap.objs.size f cdv)) (envOfC qual (defScope st) s.heap.objs.size f cdv) (cxOf (L2.CX P w) P w K mg base N qual (defScope st) f cdv A outer s H E).xe →
      XOk K Z (flatW E) (flatX Ψ) →
      ∃ r : RS, QSs (cxOf (L2.CX P w) P w K mg base N qual (defScope st) f cdv A outer s H E) Z (defBody st) r ∧
        ∀ ds M Φ, S ds M Φ Ψ → r { nx := fun _ M' => Φ .non M', rt := Φ } (startD N.length ds) M) : FnOk P w K mg base (L2.CX P w) (k + 1) f fd ps (spOf K S) := by
  refine F.okX Sc (spOf_len hl) fun cdv A outer s H vs Q E hr h => ?_
  obtain ⟨R, F0, M, ds, Φ, Ψ, b, r, hS, hq, hx⟩ := h
  obtain ⟨rs, ⟨t, p, sim⟩, red⟩ := hbody cdv A outer s H E ⟨R, F0⟩ Ψ hr (takes_of rfl rfl rfl rfl) (passes_of rfl) fun C fs Δ M' dd σ H' F' c xr k => hx C fs M' dd H' F' c.bs xr k
  refine ⟨t, p, sim M _ H _ F0 _ (cn_start b r) (red ds M Φ hS) _ ⟨?_, ?_, ?_, ?_⟩⟩
  · intro σ' H' Δ' M' F' e c k
    exact hq .non H' .non M' F' c.bs rfl k
  · intro v H' d M' F' e c rr k
    exact hq v H' d M' F' c rr k
  · intro σ' H' Δ' M' F' e c k
    exact k.elim
  · intro σ' H' Δ' M' F' e c k
    exact k.elim
end
/-- f(..) that may raise -/
def dCallX (S : DSp) (Ψ : DXS) (rl : RA) : RE := fun Δ M Φ => rl Δ M fun ds Δ1 M1 => S ds M1 (fun d M2 => Φ d Δ1 M2) fun C fs M2 => Ψ C fs Δ1 M2
section
variable {X : Cx} {Z : Zx} {e : Expr} {pos : Pos} {es : List Expr} {rl : RA} {n k : Nat} {f : Addr} {fd : FuncData} {ps : List Str} {x : Str} {p : Pos} {S : DSp} {W : WX} {Ψ : DXS}
theorem sim_callX {K : PySem.W.Frag} {t : TA} (xo : XOk K Z W Ψ) (h : SimA K Z n t rl) : Sim K Z (tCallS (spOf K S) (WE W) t) (dCallX S Ψ rl) := by
  intro M σ H Δ F Φ c k Q q
  refine h M σ H Δ F _ c k _ fun vs H1 ds Δ1 M1 F1 e1 c1 r1 hl h1 => ?_
  show spOf K S vs H1 Q (WE W σ)
  refine ⟨restAt Z σ Δ1 H1, F1, M1, ds, _, _, call_in c1, r1, h1, fun v H' d M' F' b rr hΦ => ?_, fun C fs M' dd H' F' b rr hΨ => ?_⟩
  · exact q v H' d Δ1 M' F' (e1.trans b.f0) (call_out c1 b) rr hΦ
  · exact xo C fs Δ1 M' dd σ H' F' (call_out c1 b) rr hΨ
theorem qe_callX (Fn : FnOk X.prog X.w X.K X.mg X.base (L2.CX X.prog X.w) k f fd ps (spOf X.K S)) (hr : Room k X.A) (tk : Takes X W) (xo : XOk X.K Z W Ψ) (hg : Gl X x) (hm : X.mg x = some (.ref f)) (hk : PySem.W.keepIn X.K (.ref f) = true) (hb : Binds X.K fd ps []) (ha : QA X Z n (e :: es) rl) (hdb : (x == ("__debug__" : Str)) = false := by decide)
    (he : starEach (e :: es) X.env = (false, eval e X.env) :: starEach es X.env := by rfl) (hpl : (backTo pos (starEach es X.env)).any (·.1) = false := by rfl) : QE X Z (.Call (.Name x p) (e :: es) [] pos) (dCallX S Ψ rl) := by
  obtain ⟨t, pa, s⟩ := ha
  exact ⟨_, pe_callS Fn hr hg hm hk hb (fun σ => passAt tk σ) pa hdb he hpl, sim_callX xo s⟩
end

/-! ### an own class with an own __init__ that sets fields -/
/-- what __init__ does: the fields, the last one first -/
def spInit (C : Addr) (names : List Str) : Sp := fun vs H Q _ => ∃ a ws, vs = .ref a :: ws ∧ ws.length = names.length ∧ H a = some (exo a C none) ∧
  ∀ d H', H d = none → d ≠ a → H' a = some (exo a C (some d)) → H' d = some (exd d (names.zip ws).reverse) → (∀ b, b ≠ a → b ≠ d → H' b = H b) → Q .non H'
/-- raise C(..) -/
def dRaise (C : Addr) (names : List Str) (Ψ : DXS) (rl : RA) : RS := fun _ Δ M => rl Δ M fun ds Δ1 M1 => ds.length = names.length ∧ Ψ C (names.zip ds).reverse Δ1 M1
theorem rps_snoc {K : PySem.W.Frag} {F : Hp} {ds : List D} {vs : List V} {d : D} {v : V} (h : Rps K F ds vs) (r : Rp K F d v) : Rps K F (ds ++ [d]) (vs ++ [v]) := rps_app h (rps_one r)
theorem zip_rev {K : PySem.W.Frag} {F : Hp} : ∀ (names : List Str) (ds : List D) (vs : List V), ds.length = names.length → Rps K F ds vs →
    (names.zip vs).reverse.map Prod.fst = (names.zip ds).reverse.map Prod.fst ∧ Rps K F ((names.zip ds).reverse.map Prod.snd) ((names.zip vs).reverse.map Prod.snd)
  | [], [], vs, _, h => by
    rw [show vs = [] from h]
    exact ⟨rfl, rfl⟩
  | x :: names, d :: ds, vs, hl, h => by
    obtain ⟨v, r, rfl, h1, h2⟩ := h
    obtain ⟨g1, g2⟩ := zip_rev names ds r (by simpa using hl) h2
    rw [List.zip_cons_cons, List.zip_cons_cons, List.reverse_cons, List.reverse_cons, List.map_append, List.map_append, List.map_append, List.map_append, g1]
    exact ⟨rfl, rps_snoc g2 h1⟩
  | [], d :: ds, _, hl, _ => by cases hl
  | x :: names, [], _, hl, _ => by cases hl
section
variable {X : Cx} {Z : Zx} {e : Expr} {pos pos2 : Pos} {es : List Expr} {rl : RA} {n k : Nat} {C fI : Addr} {fd : FuncData} {ps names : List Str} {x : Str} {p : Pos} {W : WX} {Ψ : DXS}
theorem sim_raise {K : PySem.W.Frag} {t : TA} (xo : XOk K Z W Ψ) (h : SimA K Z n t rl) (hn : n ≤ 1000) : SimS K Z (fun _ σ H => tMkO C (spInit C names) [] t σ H fun cls d H' => W cls d σ H') (dRaise C names Ψ rl) := by
  intro M σ H Δ F De c k Dv ok
  refine h M σ H Δ F _ c k _ fun vs H1 ds Δ1 M1 F1 e1 c1 r1 hl h1 => ⟨by rw [rps_len r1, hl]; exact hn, fun a ha => ?_⟩
  refine ⟨a, vs, by rw [List.append_nil], by rw [rps_len r1]; exact h1.1, upd_same, fun d H' hd hda e1' e2' e3' => ⟨rfl, d, _, e1', e2', ?_, ?_⟩⟩
  · rw [upd_ne hda] at hd
    exact hd
  · rw [upd_ne hda] at hd
    have eq : upd (del H' a) d (.xd (names.zip vs).reverse) = upd H1 d (.xd (names.zip vs).reverse) := by
      funext b
      by_cases hbd : b = d
      · subst hbd
        rw [upd_same, upd_same]
      · rw [upd_ne hbd, upd_ne hbd]
        by_cases hba : b = a
        · subst hba
          rw [del_same, ha]
        · rw [del_ne hba, e3' b hba hbd, upd_ne hba]
    rw [eq]
    have c2 := c1.new hd (.xd (names.zip vs).reverse)
    obtain ⟨g1, g2⟩ := zip_rev names ds vs h1.1 r1
    exact xo C _ Δ1 M1 (some d) σ _ _ c2 ⟨_, upd_same, g1, rps_mono (c1.bs.exF hd _) _ _ g2⟩ h1.2
theorem qs_raise (hc : X.calm = true) (tk : Takes X W) (xo : XOk X.K Z W Ψ) (T : OexC X.K C) (iC : PySem.W.findIn X.K (.ref C) "__init__" = some (some (.ref fI))) (tI : PySem.W.typeIn X.K (.ref fI) = some (.type "function"))
    (Fn : FnOk X.prog X.w X.K X.mg X.base CX0 k fI fd ps (spInit C names)) (hr : Room (k + 1) X.A) (hb : Binds X.K fd ps []) (hg : Gl X x) (hm : X.mg x = some (.ref C)) (ha : QA X Z n (e :: es) rl) (hn : n ≤ 1000 := by decide)
    (hdb : (x == ("__debug__" : Str)) = false := by decide) (he : starEach (e :: es) X.env = (false, eval e X.env) :: starEach es X.env := by rfl) (hpl : (backTo pos (starEach es X.env)).any (·.1) = false := by rfl) :
    QS X Z (.Raise (some (.Call (.Name x p) (e :: es) [] pos)) none pos2) (dRaise C names Ψ rl) := by
  obtain ⟨t, pa, s⟩ := ha
  exact ⟨_, ps_raise hc tk (pmk_oex T iC tI Fn hr hb .nil pass0 hg hm pa hdb he hpl), sim_raise xo s hn⟩
end
end DL

set_option Elab.async false
set_option linter.all false
set_option maxRecDepth 100000
set_option maxHeartbeats 4000000
/-! try over data -/
namespace DL
open PySem PySem.Spec PyProof.Rows L2
open Evl (Ex)
section
variable {K : PySem.W.Frag} {Z : Zx} {M : Mem} {σ : L2.St} {H F F0 : Hp} {Δ : List Sl}
theorem slot_at {F' : Hp} {o : Option (Option V)} {s : Sl} (h : SlotOk K Z F M H o s) : SlotOk K ⟨Z.R, F'⟩ F M H o s := by
  cases s with
  | un => exact h
  | d d => exact h
  | own ds => exact h
theorem slot_of {F' : Hp} {o : Option (Option V)} {s : Sl} (h : SlotOk K ⟨Z.R, F'⟩ F M H o s) : SlotOk K Z F M H o s := by
  cases s with
  | un => exact h
  | d d => exact h
  | own ds => exact h
theorem Bs.ofAt (e : Ex Z.F0 F0) (b : Bs K ⟨Z.R, F0⟩ M H F) : Bs K Z M H F := ⟨e.trans b.f0, b.fH, b.rH, b.fr, b.mm⟩
theorem Cn.toAt (c : Cn K Z M σ H Δ F) : Cn K ⟨Z.R, F⟩ M σ H Δ F := ⟨⟨Ex.refl _, c.bs.fH, c.bs.rH, c.bs.fr, c.bs.mm⟩, c.len, fun i s h => slot_at (c.slot i s h), c.sep⟩
theorem Cn.ofAt (e : Ex Z.F0 F0) (c : Cn K ⟨Z.R, F0⟩ M σ H Δ F) : Cn K Z M σ H Δ F := ⟨c.bs.ofAt e, c.len, fun i s h => slot_of (c.slot i s h), c.sep⟩
/-- a slot is emptied -/
theorem Cn.emptied (c : Cn K Z M σ H Δ F) (i : Nat) : Cn K Z M (σ.set i none) H (Δ.set i .un) F where
  bs := c.bs
  len := by rw [List.length_set, List.length_set, c.len]
  slot := fun j s h => by
    rcases get_set h with ⟨e, hl, e2⟩ | ⟨e, h'⟩
    · subst e2; exact True.intro
    · rw [List.getElem?_set_ne e]
      exact c.slot j s h'
  sep := fun j l a ds es hne h1 h2 h3 h4 => by
    rcases get_set h1 with ⟨_, _, e⟩ | ⟨n1, h1'⟩
    · cases e
    rcases get_set h2 with ⟨_, _, e⟩ | ⟨n2, h2'⟩
    · cases e
    rw [List.getElem?_set_ne n1] at h3
    rw [List.getElem?_set_ne n2] at h4
    exact c.sep j l a ds es hne h1' h2' h3 h4
theorem EndsOk.toAt {De : DE} {Dv : Ends} (e : Ex Z.F0 F) (eF : Ex F F0) (ok : EndsOk K Z F De Dv) : EndsOk K ⟨Z.R, F0⟩ F0 De Dv :=
  ⟨fun σ' H' Δ' M' F' e1 c => ok.nx σ' H' Δ' M' F' (eF.trans e1) (c.ofAt (e.trans eF)), fun v H' d M' F' e1 b => ok.rt v H' d M' F' (eF.trans e1) (b.ofAt (e.trans eF)),
   fun σ' H' Δ' M' F' e1 c => ok.bk σ' H' Δ' M' F' (eF.trans e1) (c.ofAt (e.trans eF)), fun σ' H' Δ' M' F' e1 c => ok.ct σ' H' Δ' M' F' (eF.trans e1) (c.ofAt (e.trans eF))⟩
end
/-- the ends of a suite with a name -/
def asEnds (i : Nat) (De : DE) : DE := { nx := fun Δ M => De.nx (Δ.set i .un) M, rt := De.rt, bk := fun Δ M => De.bk (Δ.set i .un) M, ct := fun Δ M => De.ct (Δ.set i .un) M }
/-- what the body of a try wishes of an exception -/
def asX (cat : List (Addr × Bool)) (i : Nat) (rs : Addr → Addr → List (Str × D) → RS) (Ψ : DXS) (De : DE) : DXS := fun C fs Δ1 M1 => ∃ b, (C, b) ∈ cat ∧
  (b = true → ∀ a, rs a C fs (asEnds i De) (Δ1.set i (.d (.ref a))) M1) ∧ (b = false → Ψ C fs Δ1 M1)
def onX (cat : List (Addr × Bool)) (rs : Addr → Addr → List (Str × D) → RS) (Ψ : DXS) (De : DE) : DXS := fun C fs Δ1 M1 => ∃ b, (C, b) ∈ cat ∧
  (b = true → ∀ a, rs a C fs De Δ1 M1) ∧ (b = false → Ψ C fs Δ1 M1)
def dTryAs (cat : List (Addr × Bool)) (i : Nat) (rb : DXS → RS) (rs : Addr → Addr → List (Str × D) → RS) (Ψ : DXS) : RS := fun De Δ M => rb (asX cat i rs Ψ De) De Δ M
def dTryOn (cat : List (Addr × Bool)) (rb : DXS → RS) (rs : Addr → Addr → List (Str × D) → RS) (Ψ : DXS) : RS := fun De Δ M => rb (onX cat rs Ψ De) De Δ M
theorem PSs.weak {X : Cx} {ss : List Stmt} {t t' : TS} (h : PSs X ss t) (k : ∀ D σ H, t' D σ H → t D σ H) : PSs X ss t' := ⟨fun pins s σ H D I z => h.run pins s σ H D I (k D σ H z)⟩
section
variable {X : Cx} {Z : Zx} {x n : Str} {c : Value} {cat : List (Addr × Bool)} {i : Nat} {body suite : List Stmt} {b₀ : Stmt} {np pos pos' : Pos} {W : WX} {Ψ : DXS} {rb : DXS → RS} {rs : Addr → Addr → List (Str × D) → RS}
/-- the body's term, one for all ways -/
def tBody (X : Cx) (body : List Stmt) (rb : DXS → RS) : WX → TS := fun W D σ H => ∃ (Z : Zx) (Ψ : DXS), XOk X.K Z W Ψ ∧ ∃ (M : Mem) (Δ : List Sl) (F : Hp) (De : DE), Cn X.K Z M σ H Δ F ∧ rb Ψ De Δ M ∧ EndsOk X.K Z F De D
def tSuite (X : Cx) (cat : List (Addr × Bool)) (rs : Addr → Addr → List (Str × D) → RS) : Addr → Value → Option Addr → TS := fun a cls d Dv σ H => ∃ (Z : Zx) (C : Addr) (fs : List (Str × D)), cls = .ref C ∧ (C, true) ∈ cat ∧ XRep X.K Z.F0 fs d ∧ ∃ (M : Mem) (Δ : List Sl) (F : Hp) (De : DE), Cn X.K Z M σ H Δ F ∧ rs a C fs De Δ M ∧ EndsOk X.K Z F De Dv
theorem pss_body (hb : ∀ (W : WX) (pn : List (Addr × Obj)) (xe : Value → Shared → Prop) (Z' : Zx) (Ψ' : DXS), Takes (X.tr pn xe) W → PassesOwn (model X.prog X.w) X.A X.env xe → XOk X.K Z' W Ψ' → QSs (X.tr pn xe) Z' body (rb Ψ'))
    (W : WX) (pn : List (Addr × Obj)) (xe : Value → Shared → Prop) (tk : Takes (X.tr pn xe) W) (po : PassesOwn (model X.prog X.w) X.A X.env xe) : PSs (X.tr pn xe) body (tBody X body rb W) := by
  refine ⟨fun pins s σ H D I h => ?_⟩
  obtain ⟨Z', Ψ', xo, M, Δ, F, De, c, k, ok⟩ := h
  obtain ⟨t, p, sim⟩ := hb W pn xe Z' Ψ' tk po xo
  exact p.run pins s σ H D I (sim M σ H Δ F De c k D ok)
theorem pss_suite (hsu : ∀ (a : Addr) (oe : Obj) (C : Addr) (d : Option Addr) (fs : List (Str × D)) (pn : List (Addr × Obj)) (Z' : Zx), (C, true) ∈ cat → Zc (.ref C) d oe → (∃ vs, oe.data = .fields vs) → XRep X.K Z'.F0 fs d → QSs (X.suite a ((a, oe) :: pn)) Z' (b₀ :: suite) (rs a C fs))
    (a : Addr) (oe : Obj) (cls : Value) (d : Option Addr) (pn : List (Addr × Obj)) (hz : Zc cls d oe) (hf : ∃ vs, oe.data = .fields vs) : PSs (X.suite a ((a, oe) :: pn)) (b₀ :: suite) (tSuite X cat rs a cls d) := by
  refine ⟨fun pins s σ H D I h => ?_⟩
  obtain ⟨Z', C, fs, e, hm, xr, M, Δ, F, De, c, k, ok⟩ := h
  subst e
  obtain ⟨t, p, sim⟩ := hsu a oe C d fs pn Z' hm hz hf xr
  exact p.run pins s σ H D I (sim M σ H Δ F De c k D ok)
theorem qs_try_as (hs : X.stack = X.env :: X.outer) (hf : X.env.frame = some X.env.locals) (hN : X.N.Nodup) (hi : X.N[i]? = some n) (hln : X.env.kindOf n = some .local) (hc : Names X x c) (hcat : ∀ C b, (C, b) ∈ cat → PySem.W.exmOne X.K (.ref C) c = some b) (tk : Takes X W) (xo : XOk X.K Z W Ψ)
    (hb : ∀ (W : WX) (pn : List (Addr × Obj)) (xe : Value → Shared → Prop) (Z' : Zx) (Ψ' : DXS), Takes (X.tr pn xe) W → PassesOwn (model X.prog X.w) X.A X.env xe → XOk X.K Z' W Ψ' → QSs (X.tr pn xe) Z' body (rb Ψ'))
    (hsu : ∀ (a : Addr) (oe : Obj) (C : Addr) (d : Option Addr) (fs : List (Str × D)) (pn : List (Addr × Obj)) (Z' : Zx), (C, true) ∈ cat → Zc (.ref C) d oe → (∃ vs, oe.data = .fields vs) → XRep X.K Z'.F0 fs d → QSs (X.suite a ((a, oe) :: pn)) Z' (b₀ :: suite) (rs a C fs)) :
    QS X Z (.Try body [.ExceptHandler (some (.Name x np)) (some n) (b₀ :: suite) pos'] [] [] pos) (dTryAs cat i rb rs Ψ) := by
  refine ⟨_, ps_try_as (tb := tBody X body rb) (ts := tSuite X cat rs) hs hf hN hi hln hc tk (fun W pn xe tk po => pss_body hb W pn xe tk po) (fun a oe cls d pn hz hf => pss_suite hsu a oe cls d pn hz hf), ?_⟩
  intro M σ H Δ F De cn k Dv ok
  have f0 := cn.bs.f0
  refine ⟨⟨Z.R, F⟩, asX cat i rs Ψ De, ?_, M, Δ, F, De, cn.toAt, k, ok.toAt f0 (Ex.refl _)⟩
  intro C fs Δ1 M1 dd σ1 H1 F1 c1 xr hx
  obtain ⟨b, e, hy, hn⟩ := hx
  have eF : Ex F F1 := c1.bs.f0
  refine ⟨b, hcat C b e, fun hb a na => ?_, fun hb => ?_⟩
  · refine ⟨⟨Z.R, F1⟩, C, fs, rfl, by rw [← hb]; exact e, xr, M1, Δ1.set i (.d (.ref a)), F1, asEnds i De, ?_, hy hb a, ?_⟩
    · exact ((c1.ofAt f0).toAt).set (d := .ref a) rfl i
    · refine EndsOk.toAt (F := F) f0 eF ⟨?_, ok.rt, ?_, ?_⟩
      · exact fun σ' H' Δ' M' F' e1 c' z => ok.nx _ _ _ _ _ e1 (c'.emptied i) z
      · exact fun σ' H' Δ' M' F' e1 c' z => ok.bk _ _ _ _ _ e1 (c'.emptied i) z
      · exact fun σ' H' Δ' M' F' e1 c' z => ok.ct _ _ _ _ _ e1 (c'.emptied i) z
  · exact xo C fs Δ1 M1 dd σ1 H1 F1 (c1.ofAt f0) xr (hn hb)
theorem qs_try_only (hs : X.stack = X.env :: X.outer) (hf : X.env.frame = some X.env.locals) (hc : Names X x c) (hcat : ∀ C b, (C, b) ∈ cat → PySem.W.exmOne X.K (.ref C) c = some b) (tk : Takes X W) (xo : XOk X.K Z W Ψ)
    (hb : ∀ (W : WX) (pn : List (Addr × Obj)) (xe : Value → Shared → Prop) (Z' : Zx) (Ψ' : DXS), Takes (X.tr pn xe) W → PassesOwn (model X.prog X.w) X.A X.env xe → XOk X.K Z' W Ψ' → QSs (X.tr pn xe) Z' body (rb Ψ'))
    (hsu : ∀ (a : Addr) (oe : Obj) (C : Addr) (d : Option Addr) (fs : List (Str × D)) (pn : List (Addr × Obj)) (Z' : Zx), (C, true) ∈ cat → Zc (.ref C) d oe → (∃ vs, oe.data = .fields vs) → XRep X.K Z'.F0 fs d → QSs (X.suite a ((a, oe) :: pn)) Z' (b₀ :: suite) (rs a C fs)) :
    QS X Z (.Try body [.ExceptHandler (some (.Name x np)) none (b₀ :: suite) pos'] [] [] pos) (dTryOn cat rb rs Ψ) := by
  refine ⟨_, ps_try_only (tb := tBody X body rb) (ts := tSuite X cat rs) hs hf hc tk (fun W pn xe tk po => pss_body hb W pn xe tk po) (fun a oe cls d pn hz hf => pss_suite hsu a oe cls d pn hz hf), ?_⟩
  intro M σ H Δ F De cn k Dv ok
  have f0 := cn.bs.f0
  refine ⟨⟨Z.R, F⟩, onX cat rs Ψ De, ?_, M, Δ, F, De, cn.toAt, k, ok.toAt f0 (Ex.refl _)⟩
  intro C fs Δ1 M1 dd σ1 H1 F1 c1 xr hx
  obtain ⟨b, e, hy, hn⟩ := hx
  have eF : Ex F F1 := c1.bs.f0
  refine ⟨b, hcat C b e, fun hb a na => ?_, fun hb => ?_⟩
  · exact ⟨⟨Z.R, F1⟩, C, fs, rfl, by rw [← hb]; exact e, xr, M1, Δ1, F1, De, (c1.ofAt f0).toAt, hy hb a, EndsOk.toAt (F := F) f0 eF ok⟩
  · exact xo C fs Δ1 M1 dd σ1 H1 F1 (c1.ofAt f0) xr (hn hb)
end
theorem cat_one {C c : Addr} (h : (C, true) ∈ [(c, true)]) : C = c := by
  have := List.mem_singleton.mp h
  exact congrArg Prod.fst this
/-- nothing leaves this try -/
theorem xok_none {K : PySem.W.Frag} {Z : Zx} : XOk K Z (fun _ _ _ _ => False) (fun _ _ _ _ => False) := fun _ _ _ _ _ _ _ _ _ _ k => k
/-- e.f in an except suite -/
def dXf (a : Addr) (fs : List (Str × D)) (f : Str) (r : RE) : RE := fun Δ M Φ => r Δ M fun x Δ1 M1 => match x with
  | .ref b => b = a ∧ ∃ d, fs.lookup f = some d ∧ Φ d Δ1 M1
  | _ => False
theorem lookup_rps {K : PySem.W.Frag} {F : Hp} : ∀ {fs : List (Str × D)} {vfs : List (Str × V)} {f : Str} {d : D}, vfs.map Prod.fst = fs.map Prod.fst → Rps K F (fs.map Prod.snd) (vfs.map Prod.snd) → fs.lookup f = some d → ∃ v, vfs.lookup f = some v ∧ Rp K F d v
  | [], _, _, _, _, _, h => by cases h
  | (g, e) :: fs, [], _, _, hn, _, _ => by cases hn
  | (g, e) :: fs, (g', u) :: vfs, f, d, hn, hr, h => by
    rw [List.map_cons, List.map_cons] at hn
    obtain ⟨e1, e2⟩ := List.cons.inj hn
    replace e1 : g' = g := e1
    subst e1
    obtain ⟨v, r, e3, h1, h2⟩ := hr
    obtain ⟨e4, e5⟩ := List.cons.inj e3
    replace e4 : u = v := e4
    subst e4
    rw [← e5] at h2
    rw [lookup_put']
    rw [lookup_put'] at h
    by_cases k : f = g'
    · rw [if_pos k] at h ⊢
      cases h
      exact ⟨u, rfl, h1⟩
    · rw [if_neg k] at h ⊢
      exact lookup_rps e2 h2 h
where
  lookup_put' {α : Type} {f g : Str} {y : α} {l : List (Str × α)} : ((f, y) :: l).lookup g = if g = f then some y else l.lookup g := by
    by_cases h : g = f
    · subst h
      simp [List.lookup]
    · have e : (g == f) = false := by simpa using h
      rw [if_neg h]
      simp [List.lookup, e]
theorem qe_xf {X : Cx} {Z : Zx} {a C : Addr} {oe : Obj} {d : Option Addr} {fs : List (Str × D)} {pn : List (Addr × Obj)} {e : Expr} {r : RE} {pos : Pos} {n : Str} (T : XfC X.K C) (hno : PySem.W.findIn X.K (.ref C) n = some none)
    (hz : Zc (.ref C) d oe) (hf : ∃ vs, oe.data = .fields vs) (xr : XRep X.K Z.F0 fs d) (he : QE (X.suite a ((a, oe) :: pn)) Z e r) (hb : attributeBase e n X.env (eval e X.env) = eval e X.env := by rfl) :
    QE (X.suite a ((a, oe) :: pn)) Z (.Attribute e n pos) (dXf a fs n r) := by
  obtain ⟨t, p, s⟩ := he
  refine ⟨_, pe_xf T hno hz hf p hb, fun M σ H Δ F Φ c h Q q => ?_⟩
  refine s M σ H Δ F _ c h _ fun v H1 x Δ1 M1 F1 e1 c1 r1 h1 => ?_
  cases x with
  | ref b =>
    obtain ⟨rfl, dd, hl, hΦ⟩ := h1
    cases d with
    | none =>
      have : fs = [] := xr
      subst this
      cases hl
    | some dx =>
      obtain ⟨vfs, g1, g2, g3⟩ := xr.mono c1.bs.f0
      obtain ⟨u, hu, ru⟩ := lookup_rps g2 g3 hl
      exact ⟨r1, rfl, dx, vfs, u, rfl, c1.bs.fH _ _ g1, hu, q u H1 dd Δ1 M1 F1 e1 c1 ru hΦ⟩
  | _ => exact h1.elim
end DL

set_option Elab.async false
set_option linter.all false
set_option maxRecDepth 100000
set_option maxHeartbeats 4000000
/-! Objects of own classes over data. -/
namespace DL
open PySem PySem.Spec PyProof.Rows L2
open Evl (Ex)
section
variable {K : PySem.W.Frag} {Z : Zx} {M : Mem} {σ : L2.St} {H F : Hp} {Δ : List Sl}
theorem Cn.newO (c : Cn K Z M σ H Δ F) {p : Addr} {o : OD} {u : HO} (hp : H p = none) (r : RpO K F o (some u)) : Cn K Z (updM M p o) σ (upd H p u) Δ F where
  bs := {
    f0 := c.bs.f0
    fH := (c.bs.newH hp _).fH
    rH := (c.bs.newH hp u).rH
    fr := c.bs.fr
    mm := fun a o' h => by
      by_cases e : a = p
      · subst e
        rw [updM_same] at h
        cases h
        exact ⟨c.bs.freeF hp, c.bs.freeR hp, by rw [upd_same]; exact r⟩
      · rw [updM_ne e] at h
        exact (c.bs.newH hp u).mm a o' h }
  len := c.len
  slot := fun i s h => by
    have k := (c.newH hp u).slot i s h
    cases s with
    | un => exact True.intro
    | d d => exact k
    | own es =>
      obtain ⟨a, ws, e, h1, h2, h3, h4, h5⟩ := k
      have g := c.slot i _ h
      obtain ⟨a', ws', e', g1, _⟩ := g
      rw [e] at e'
      cases e'
      exact ⟨a, ws, e, h1, h2, h3, h4, by rw [updM_ne (ne_of_none g1 hp)]; exact h5⟩
  sep := c.sep
theorem Cn.setO (c : Cn K Z M σ H Δ F) {p : Addr} {o o2 : OD} {u : HO} (hM : M p = some o) (r : RpO K F o2 (some u)) : Cn K Z (updM M p o2) σ (upd H p u) Δ F := by
  obtain ⟨m1, m2, m3⟩ := c.bs.mm p o hM
  refine ⟨⟨c.bs.f0, fun a u h => ?_, fun a u h => ?_, c.bs.fr, fun a u h => ?_⟩, c.len, fun i s h => ?_, c.sep⟩
  · have e : a ≠ p := fun e => by subst e; rw [m1] at h; cases h
    rw [upd_ne e]; exact c.bs.fH a _ h
  · have e : a ≠ p := fun e => by subst e; rw [m2] at h; cases h
    rw [upd_ne e]; exact c.bs.rH a _ h
  · by_cases e : a = p
    · subst e
      rw [updM_same] at h
      cases h
      exact ⟨m1, m2, by rw [upd_same]; exact r⟩
    · rw [updM_ne e] at h
      rw [upd_ne e]; exact c.bs.mm a _ h
  · have k := c.slot i s h
    cases s with
    | un => exact True.intro
    | d d => exact k
    | own es =>
      obtain ⟨a, ws, e, h1, h2, h3, h4, h5⟩ := k
      have ne : a ≠ p := fun e => by subst e; rw [h5] at hM; cases hM
      exact ⟨a, ws, e, by rw [upd_ne ne]; exact h1, h2, h3, h4, by rw [updM_ne ne]; exact h5⟩
theorem Bs.insM (b : Bs K Z M H F) {p C : Addr} {fs : List (Str × D)} (h : M p = some (.ins C fs)) : ∃ dx vfs, H p = some (.ins C dx vfs) ∧ vfs.map Prod.fst = fs.map Prod.fst ∧ Rps K F (fs.map Prod.snd) (vfs.map Prod.snd) := (b.mm p _ h).2.2
theorem lookup_none {α β : Type} {f : Str} : ∀ {fs : List (Str × α)} {gs : List (Str × β)}, gs.map Prod.fst = fs.map Prod.fst → fs.lookup f = none → gs.lookup f = none
  | [], [], _, _ => rfl
  | [], _ :: _, hn, _ => by cases hn
  | (g, e) :: fs, [], hn, _ => by cases hn
  | (g, e) :: fs, (g', u) :: gs, hn, h => by
    rw [List.map_cons, List.map_cons] at hn
    obtain ⟨e1, e2⟩ := List.cons.inj hn
    replace e1 : g' = g := e1
    subst e1
    rw [lookup_rps.lookup_put'] at h ⊢
    by_cases k : f = g'
    · rw [if_pos k] at h; cases h
    · rw [if_neg k] at h ⊢
      exact lookup_none e2 h
/-- a field is stored -/
def putD (f : Str) (d : D) : List (Str × D) → List (Str × D)
  | [] => [(f, d)]
  | (g, x) :: r => if g = f then (g, d) :: r else (g, x) :: putD f d r
theorem put_rps {f : Str} {d : D} {v : V} (r : Rp K F d v) : ∀ {fs : List (Str × D)} {vfs : List (Str × V)}, vfs.map Prod.fst = fs.map Prod.fst → Rps K F (fs.map Prod.snd) (vfs.map Prod.snd) →
    (putF f v vfs).map Prod.fst = (putD f d fs).map Prod.fst ∧ Rps K F ((putD f d fs).map Prod.snd) ((putF f v vfs).map Prod.snd)
  | [], [], _, _ => ⟨rfl, rps_one r⟩
  | [], _ :: _, hn, _ => by cases hn
  | (g, e) :: fs, [], hn, _ => by cases hn
  | (g, e) :: fs, (g', u) :: vfs, hn, hr => by
    rw [List.map_cons, List.map_cons] at hn
    obtain ⟨e1, e2⟩ := List.cons.inj hn
    replace e1 : g' = g := e1
    subst e1
    obtain ⟨v', r', e3, h1, h2⟩ := hr
    obtain ⟨e4, e5⟩ := List.cons.inj e3
    replace e4 : u = v' := e4
    subst e4
    rw [← e5] at h2
    unfold putF putD
    by_cases k : g' = f
    · rw [if_pos k, if_pos k]
      exact ⟨by rw [List.map_cons, List.map_cons, e2], v, _, rfl, r, h2⟩
    · rw [if_neg k, if_neg k]
      obtain ⟨q1, q2⟩ := put_rps r e2 h2
      exact ⟨by rw [List.map_cons, List.map_cons, q1], u, _, rfl, h1, q2⟩
end
section
variable {X : Cx} {Z : Zx} {e o : Expr} {ro r : RE} {pos apos : Pos} {es : List Expr} {rl : RA} {n k : Nat} {C f : Addr} {fd : FuncData} {ps : List Str} {x m : Str} {p : Pos} {S : DSp} {Ψ : DX} {E : XK}
/-- o.f -/
def dFld (C : Addr) (f : Str) (r : RE) : RE := fun Δ M Φ => r Δ M fun x Δ1 M1 => match x with
  | .ref a => ∃ fs d, M1 a = some (.ins C fs) ∧ fs.lookup f = some d ∧ Φ d Δ1 M1
  | _ => False
theorem qe_fld {f : Str} (c : Cls X.K C) (hn : NoAttr X.K C f) (h : QE X Z e r) (hb : attributeBase e f X.env (eval e X.env) = eval e X.env := by rfl) : QE X Z (.Attribute e f pos) (dFld C f r) := by
  obtain ⟨t, p, s⟩ := h
  refine ⟨_, pe_fld p hb, fun M σ H Δ F Φ cn h Q q => ?_⟩
  refine s M σ H Δ F _ cn h _ fun v H1 x Δ1 M1 F1 e1 c1 r1 h1 => ?_
  cases x with
  | ref a =>
    obtain ⟨fs, d, hM, hl, hΦ⟩ := h1
    obtain ⟨dx, vfs, g1, g2, g3⟩ := c1.bs.insM hM
    obtain ⟨u, hu, ru⟩ := lookup_rps g2 g3 hl
    exact ⟨a, C, dx, vfs, u, r1, g1, c, hn, hu, q u H1 d Δ1 M1 F1 e1 c1 ru hΦ⟩
  | _ => exact h1.elim
/-- o.f = e -/
def dSetF (C : Addr) (f : Str) (ro rv : RE) : RS := fun De Δ M => rv Δ M fun y Δ1 M1 => ro Δ1 M1 fun x Δ2 M2 => match x with
  | .ref a => ∃ fs, M2 a = some (.ins C fs) ∧ fs.length < 1000 ∧ De.nx Δ2 (updM M2 a (.ins C (putD f y fs)))
  | _ => False
theorem qs_fld {f : Str} {p' : Pos} (c : Cls X.K C) (hn : NoAttr X.K C f) (ho : QE X Z o ro) (hv : QE X Z e r) (hs : swapsWith e (some (.Attribute o f p')) pos.line X.env = pure false := by rfl) : QS X Z (.Assign [.Attribute o f p'] e pos) (dSetF C f ro r) := by
  obtain ⟨t, p, s⟩ := ho
  obtain ⟨tv, pv, sv⟩ := hv
  refine ⟨_, ps_fld p pv hs, fun M σ H Δ F De cn h Dv ok => ?_⟩
  refine sv M σ H Δ F _ cn h _ fun v H1 y Δ1 M1 F1 e1 c1 r1 h1 => ?_
  refine s M1 σ H1 Δ1 F1 _ c1 h1 _ fun w H2 x Δ2 M2 F2 e2 c2 r2 h2 => ?_
  cases x with
  | ref a =>
    obtain ⟨fs, hM, hl, hΦ⟩ := h2
    obtain ⟨dx, vfs, g1, g2, g3⟩ := c2.bs.insM hM
    have len : vfs.length = fs.length := by
      have := congrArg List.length g2
      rw [List.length_map, List.length_map] at this
      exact this
    obtain ⟨q1, q2⟩ := put_rps (f := f) (rp_mono e2 _ _ r1) g2 g3
    exact ⟨a, C, dx, vfs, r2, g1, c, hn, by rw [len]; exact hl, ok.nx _ _ _ _ F2 (e1.trans e2) (c2.setO (o2 := .ins C (putD f y fs)) hM ⟨dx, _, rfl, q1, q2⟩) hΦ⟩
  | _ => exact h2.elim
/-- o.f op= e -/
def dAugF (C : Addr) (f : Str) (dr : D → D → (D → Prop) → Prop) (ro rv : RE) : RS := fun De Δ M => ro Δ M fun x Δ1 M1 => match x with
  | .ref a => ∃ fs d, M1 a = some (.ins C fs) ∧ fs.lookup f = some d ∧ rv Δ1 M1 fun y Δ2 M2 => dr d y fun z => ∃ fs', M2 a = some (.ins C fs') ∧ fs'.length < 1000 ∧ De.nx Δ2 (updM M2 a (.ins C (putD f z fs')))
  | _ => False
theorem qs_augF {f : Str} {tp : Pos} {op : Operator} {rd : R2} {dr : D → D → (D → Prop) → Prop} (c : Cls X.K C) (hn : NoAttr X.K C f) (hop : InOp X op rd) (hd : OpD X.K rd dr) (ho : QE X Z o ro) (hv : QE X Z e r) : QS X Z (.AugAssign (.Attribute o f tp) op e pos) (dAugF C f dr ro r) := by
  obtain ⟨t, p, s⟩ := ho
  obtain ⟨tv, pv, sv⟩ := hv
  refine ⟨_, ps_fldaug p pv hop, fun M σ H Δ F De cn h Dv ok => ?_⟩
  refine s M σ H Δ F _ cn h _ fun v H1 x Δ1 M1 F1 e1 c1 r1 h1 => ?_
  cases x with
  | ref a =>
    obtain ⟨fs, d, hM, hl, h2⟩ := h1
    obtain ⟨dx, vfs, g1, g2, g3⟩ := c1.bs.insM hM
    obtain ⟨u, hu, ru⟩ := lookup_rps g2 g3 hl
    refine ⟨a, C, dx, vfs, u, r1, g1, c, hn, hu, ?_⟩
    refine sv M1 σ H1 Δ1 F1 _ c1 h2 _ fun w H2 y Δ2 M2 F2 e2 c2 r2 h3 => ?_
    refine hd Z M2 σ H2 Δ2 F2 d y u w _ c2 (rp_mono e2 _ _ ru) r2 h3 _ fun z H3 dz F3 e3 c3 r3 h4 => ?_
    obtain ⟨fs', hM', hl', hΦ⟩ := h4
    obtain ⟨dx', vfs', k1, k2, k3⟩ := c3.bs.insM hM'
    have len : vfs'.length = fs'.length := by
      have := congrArg List.length k2
      rw [List.length_map, List.length_map] at this
      exact this
    obtain ⟨q1, q2⟩ := put_rps (f := f) r3 k2 k3
    exact ⟨dx', vfs', k1, by rw [len]; exact hl', ok.nx _ _ _ _ F3 ((e1.trans e2).trans e3) (c3.setO (o2 := .ins C (putD f dz fs')) hM' ⟨dx', _, rfl, q1, q2⟩) hΦ⟩
  | _ => exact h1.elim
/-- o.m(..) -/
def dMethX (C : Addr) (m : Str) (S : DSp) (Ψ : DX) (ro : RE) (rl : RA) : RE := fun Δ M Φ => ro Δ M fun x Δ1 M1 => match x with
  | .ref a => (∃ fs, M1 a = some (.ins C fs) ∧ fs.lookup m = none) ∧ rl Δ1 M1 fun ds Δ2 M2 => S (.ref a :: ds) M2 (fun d M3 => Φ d Δ2 M3) Ψ
  | _ => False
abbrev dMeth (C : Addr) (m : Str) (S : DSp) (ro : RE) (rl : RA) : RE := dMethX C m S noX ro rl
theorem sim_meth {K : PySem.W.Frag} {t : TE} {ta : TA} (xo : XOk K Z (flatW E) (flatX Ψ)) (ho : Sim K Z t ro) (h : SimA K Z n ta rl) : Sim K Z (tMeth C m (spOf K S) [] E t ta) (dMethX C m S Ψ ro rl) := by
  intro M σ H Δ F Φ c k Q q
  refine ho M σ H Δ F _ c k _ fun v H1 x Δ1 M1 F1 e1 c1 r1 h1 => ?_
  cases x with
  | ref a =>
    obtain ⟨⟨fs, hM, hl⟩, h2⟩ := h1
    obtain ⟨dx, vfs, g1, g2, g3⟩ := c1.bs.insM hM
    refine ⟨a, dx, vfs, r1, g1, lookup_none g2 hl, ?_⟩
    refine h M1 σ H1 Δ1 F1 _ c1 h2 _ fun vs H2 ds Δ2 M2 F2 e2 c2 r2 hn h3 => ?_
    show spOf K S (v :: (vs ++ [])) H2 Q E
    rw [List.append_nil]
    refine ⟨restAt Z σ Δ2 H2, F2, M2, .ref a :: ds, _, _, call_in c2, ⟨v, vs, rfl, r1, r2⟩, h3, fun u H' d M' F' b rr hΦ => ?_, fun C fs M' dd H' F' b rr hΨ => ?_⟩
    · exact q u H' d Δ2 M' F' ((e1.trans e2).trans b.f0) (call_out c2 b) rr hΦ
    · exact xo C fs Δ2 M' dd σ H' F' (call_out c2 b) rr hΨ
  | _ => exact h1.elim
theorem xok_E0 {K : PySem.W.Frag} : XOk K Z (flatW E0) (flatX noX) := fun _ _ _ _ _ _ _ _ _ _ k => k.elim
theorem qe_meth {pl : Sem Bool} (c : Cls X.K C) (hm : Meth X.K C m f) (Fn : FnOk X.prog X.w X.K X.mg X.base CX0 k f fd ps (spOf X.K S)) (hr : Room k X.A) (hb : Binds X.K fd ps []) (ho : QE X Z o ro) (ha : QA X Z n (e :: es) rl)
    (hst : starEach (e :: es) X.env = (false, eval e X.env) :: starEach es X.env := by rfl) (hpl : (backTo pos (starEach es X.env)).any (·.1) = false := by rfl)
    (ht : eval (.Call (.Attribute o m apos) (e :: es) [] pos) X.env = (do
      let ov ← eval o X.env
      standAt apos.atName
      let (f, first) ← holding [ov] (getMethod ov m pl)
      callWith pos f first (backTo pos (starEach (e :: es) X.env)) (backToKw pos (keywordEach [] X.env))) := by rfl) : QE X Z (.Call (.Attribute o m apos) (e :: es) [] pos) (dMeth C m S ro rl) := by
  obtain ⟨t, p, s⟩ := ho
  obtain ⟨ta, pa, sa⟩ := ha
  exact ⟨_, pe_meth p c hm Fn hr hb .nil pass0 pa hst hpl ht, sim_meth xok_E0 s sa⟩
theorem qe_methX {pl : Sem Bool} (tk : Takes X (flatW E)) (xo : XOk X.K Z (flatW E) (flatX Ψ)) (c : Cls X.K C) (hm : Meth X.K C m f) (Fn : FnOk X.prog X.w X.K X.mg X.base (L2.CX X.prog X.w) k f fd ps (spOf X.K S)) (hr : Room k X.A) (hb : Binds X.K fd ps []) (ho : QE X Z o ro) (ha : QA X Z n (e :: es) rl)
    (hst : starEach (e :: es) X.env = (false, eval e X.env) :: starEach es X.env := by rfl) (hpl : (backTo pos (starEach es X.env)).any (·.1) = false := by rfl)
    (ht : eval (.Call (.Attribute o m apos) (e :: es) [] pos) X.env = (do
      let ov ← eval o X.env
      standAt apos.atName
      let (f, first) ← holding [ov] (getMethod ov m pl)
      callWith pos f first (backTo pos (starEach (e :: es) X.env)) (backToKw pos (keywordEach [] X.env))) := by rfl) : QE X Z (.Call (.Attribute o m apos) (e :: es) [] pos) (dMethX C m S Ψ ro rl) := by
  obtain ⟨t, p, s⟩ := ho
  obtain ⟨ta, pa, sa⟩ := ha
  exact ⟨_, pe_meth p c hm Fn hr hb .nil (passes_call tk fun _ _ _ _ h => h) pa hst hpl ht, sim_meth xo s sa⟩
theorem simA_nil {K : PySem.W.Frag} : SimA K Z 0 tNil dNil := fun M σ H Δ F Φ c h Q q => q [] H [] Δ M F (Ex.refl _) c rfl rfl h
theorem qe_meth0 {pl : Sem Bool} (c : Cls X.K C) (hm : Meth X.K C m f) (Fn : FnOk X.prog X.w X.K X.mg X.base CX0 k f fd ps (spOf X.K S)) (hr : Room k X.A) (hb : Binds X.K fd ps []) (ho : QE X Z o ro)
    (ht : eval (.Call (.Attribute o m apos) [] [] pos) X.env = (do
      let ov ← eval o X.env
      standAt apos.atName
      let (f, first) ← holding [ov] (getMethod ov m pl)
      callWith pos f first (backTo pos (starEach [] X.env)) (backToKw pos (keywordEach [] X.env))) := by rfl) : QE X Z (.Call (.Attribute o m apos) [] [] pos) (dMeth C m S ro dNil) := by
  obtain ⟨t, p, s⟩ := ho
  exact ⟨_, pe_meth0 p c hm Fn hr hb .nil pass0 ht, sim_meth xok_E0 s simA_nil⟩
theorem qe_methX0 {pl : Sem Bool} (tk : Takes X (flatW E)) (xo : XOk X.K Z (flatW E) (flatX Ψ)) (c : Cls X.K C) (hm : Meth X.K C m f) (Fn : FnOk X.prog X.w X.K X.mg X.base (L2.CX X.prog X.w) k f fd ps (spOf X.K S)) (hr : Room k X.A) (hb : Binds X.K fd ps []) (ho : QE X Z o ro)
    (ht : eval (.Call (.Attribute o m apos) [] [] pos) X.env = (do
      let ov ← eval o X.env
      standAt apos.atName
      let (f, first) ← holding [ov] (getMethod ov m pl)
      callWith pos f first (backTo pos (starEach [] X.env)) (backToKw pos (keywordEach [] X.env))) := by rfl) : QE X Z (.Call (.Attribute o m apos) [] [] pos) (dMethX C m S Ψ ro dNil) := by
  obtain ⟨t, p, s⟩ := ho
  exact ⟨_, pe_meth0 p c hm Fn hr hb .nil (passes_call tk fun _ _ _ _ h => h) ht, sim_meth xo s simA_nil⟩
/-- C(..) -/
def dMakeX (C : Addr) (S : DSp) (Ψ : DX) (rl : RA) : RE := fun Δ M Φ => rl Δ M fun ds Δ1 M1 => ∀ x, M1 x = none → S (.ref x :: ds) (updM M1 x (.ins C [])) (fun d M2 => d.isNon = true ∧ Φ (.ref x) Δ1 M2) Ψ
abbrev dMake (C : Addr) (S : DSp) (rl : RA) : RE := dMakeX C S noX rl
theorem sim_make {K : PySem.W.Frag} {ta : TA} (xo : XOk K Z (flatW E) (flatX Ψ)) (h : SimA K Z n ta rl) : Sim K Z (tMake C (spOf K S) [] E ta) (dMakeX C S Ψ rl) := by
  intro M σ H Δ F Φ c k Q q
  refine h M σ H Δ F _ c k _ fun vs H1 ds Δ1 M1 F1 e1 c1 r1 hn h1 => fun x dx hx hdx hne => ?_
  show spOf K S (.ref x :: (vs ++ [])) _ _ E
  rw [List.append_nil]
  have c2 := c1.newH hdx (.own x)
  have hx2 : upd H1 dx (.own x) x = none := by rw [upd_ne (fun z => hne z.symm)]; exact hx
  have c3 := c2.newO (o := .ins C []) (u := .ins C dx []) hx2 ⟨dx, [], rfl, rfl, rfl⟩
  refine ⟨restAt Z σ Δ1 (upd (upd H1 dx (.own x)) x (.ins C dx [])), F1, _, .ref x :: ds, _, _, call_in c3, ⟨.ref x, vs, rfl, rfl, r1⟩, h1 x (c1.bs.freeM hx), fun u H' d M' F' b rr hΦ => ?_, fun C fs M' dd H' F' b rr hΨ => ?_⟩
  · refine ⟨?_, q (.ref x) H' (.ref x) Δ1 M' F' (e1.trans b.f0) (call_out c3 b) rfl hΦ.2⟩
    have := rp_isNon rr
    rw [hΦ.1] at this
    exact of_decide_eq_true this
  · exact xo C fs Δ1 M' dd σ H' F' (call_out c3 b) rr hΨ
theorem qe_make (Mc : Mk X.K C f) (Fn : FnOk X.prog X.w X.K X.mg X.base CX0 k f fd ps (spOf X.K S)) (hr : Room (k + 1) X.A) (hg : Gl X x) (hm : X.mg x = some (.ref C)) (hb : Binds X.K fd ps []) (ha : QA X Z n (e :: es) rl)
    (hdb : (x == ("__debug__" : Str)) = false := by decide) (he : starEach (e :: es) X.env = (false, eval e X.env) :: starEach es X.env := by rfl) (hpl : (backTo pos (starEach es X.env)).any (·.1) = false := by rfl) : QE X Z (.Call (.Name x p) (e :: es) [] pos) (dMake C S rl) := by
  obtain ⟨ta, pa, sa⟩ := ha
  exact ⟨_, pe_make Mc Fn hr hg hm hb .nil pass0 pa hdb he hpl, sim_make xok_E0 sa⟩
theorem qe_makeX (tk : Takes X (flatW E)) (xo : XOk X.K Z (flatW E) (flatX Ψ)) (Mc : Mk X.K C f) (Fn : FnOk X.prog X.w X.K X.mg X.base (L2.CX X.prog X.w) k f fd ps (spOf X.K S)) (hr : Room (k + 1) X.A) (hg : Gl X x) (hm : X.mg x = some (.ref C)) (hb : Binds X.K fd ps []) (ha : QA X Z n (e :: es) rl)
    (hdb : (x == ("__debug__" : Str)) = false := by decide) (he : starEach (e :: es) X.env = (false, eval e X.env) :: starEach es X.env := by rfl) (hpl : (backTo pos (starEach es X.env)).any (·.1) = false := by rfl) : QE X Z (.Call (.Name x p) (e :: es) [] pos) (dMakeX C S Ψ rl) := by
  obtain ⟨ta, pa, sa⟩ := ha
  exact ⟨_, pe_make Mc Fn hr hg hm hb .nil (passes_call tk fun _ _ _ _ h => h) pa hdb he hpl, sim_make xo sa⟩
end
end DL

set_option Elab.async false
set_option linter.all false
set_option maxRecDepth 100000
set_option maxHeartbeats 4000000
/-! Texts; lists wherever they are (frozen, or in memory). -/
namespace DL
open PySem PySem.Spec PyProof.Rows L2
open Evl (Ex)
/-- the items of a list, frozen or in memory -/
def Res (M : Mem) (d : D) (ds : List D) : Prop := match d with
  | .lst es => es = ds
  | .ref p => M p = some (.lst ds)
  | _ => False
section
variable {K : PySem.W.Frag} {Z : Zx} {M : Mem} {σ : L2.St} {H F : Hp} {Δ : List Sl}
theorem Cn.res (c : Cn K Z M σ H Δ F) {d : D} {v : V} {ds : List D} (r : Rp K F d v) (h : Res M d ds) : ∃ p vs, v = .ref p ∧ H p = some (.lst vs) ∧ Rps K F ds vs := by
  cases d with
  | lst es =>
    obtain ⟨p, vs, e, g1, g2⟩ := r
    have : es = ds := h
    subst this
    exact ⟨p, vs, e, c.bs.fH _ _ g1, g2⟩
  | ref p =>
    obtain ⟨vs, g1, g2⟩ := c.bs.lstM h
    exact ⟨p, vs, r, g1, g2⟩
  | _ => exact h.elim
end
section
variable {X : Cx} {Z : Zx} {e a b o : Expr} {ra rb r : RE} {pos apos : Pos} {es : List Expr} {rl : RA} {n : Nat} {K : PySem.W.Frag}

/-! ### slices -/
abbrev RO := List Sl → Mem → (Option Int → List Sl → Mem → Prop) → Prop
def SimO (K : PySem.W.Frag) (Z : Zx) (t : TO) (r : RO) : Prop := ∀ (M : Mem) (σ : L2.St) (H : Hp) (Δ : List Sl) (F : Hp) (Φ : Option Int → List Sl → Mem → Prop), Cn K Z M σ H Δ F → r Δ M Φ →
  ∀ Q : Option Int → Hp → Prop, (∀ b H' Δ' M' F', Ex F F' → Cn K Z M' σ H' Δ' F' → Φ b Δ' M' → Q b H') → t σ H Q
def QO (X : Cx) (Z : Zx) (e : Option Expr) (r : RO) : Prop := ∃ t, PO X e t ∧ SimO X.K Z t r
def dNoP : RO := fun Δ M Φ => Φ none Δ M
def dPart (r : RE) : RO := fun Δ M Φ => r Δ M fun x Δ1 M1 => match x with
  | .int i => Φ (some i) Δ1 M1
  | _ => False
theorem qo_none : QO X Z none dNoP := ⟨_, po_none, fun M σ H Δ F Φ c h Q q => q none H Δ M F (Ex.refl _) c h⟩
theorem qo_some (h : QE X Z e r) : QO X Z (some e) (dPart r) := by
  obtain ⟨t, p, s⟩ := h
  refine ⟨_, po_some p, fun M σ H Δ F Φ c h Q q => ?_⟩
  refine s M σ H Δ F _ c h _ fun v H1 x Δ1 M1 F1 e1 c1 r1 h1 => ?_
  cases x with
  | int i => exact ⟨i, r1, q _ H1 Δ1 M1 F1 e1 c1 h1⟩
  | _ => exact h1.elim
/-- the part of a list -/
def cutD (ds : List D) (lo hi : Option Int) : List D := (ds.drop (HT.sIx ds.length 0 lo)).take (HT.sIx ds.length ds.length hi - HT.sIx ds.length 0 lo)
def dSl (r : RE) (rl rh : RO) : RE := fun Δ M Φ => r Δ M fun x Δ1 M1 => rl Δ1 M1 fun lo Δ2 M2 => rh Δ2 M2 fun hi Δ3 M3 => match x with
  | .str z => z.length ≤ sizeLine ∧ Φ (.str (cutS z lo hi)) Δ3 M3
  | .lst ds => Φ (.lst (cutD ds lo hi)) Δ3 M3
  | .ref p => ∃ ds, M3 p = some (.lst ds) ∧ Φ (.lst (cutD ds lo hi)) Δ3 M3
  | _ => False
theorem sl_all : SlR X (fun x lo hi H Q => rSlS x lo hi H Q ∨ rSlL X.K x lo hi H Q) := SlR.or sl_str sl_list
theorem qe_sl {lo hi : Option Expr} {rl rh : RO} {p2 : Pos} (h : QE X Z e r) (hl : QO X Z lo rl) (hh : QO X Z hi rh) : QE X Z (.Subscript e (.Slice lo hi none p2) pos) (dSl r rl rh) := by
  obtain ⟨t, p, s⟩ := h
  obtain ⟨tl, pl, sl⟩ := hl
  obtain ⟨th, ph, sh⟩ := hh
  refine ⟨_, pe_slice sl_all p pl ph, fun M σ H Δ F Φ c h Q q => ?_⟩
  refine s M σ H Δ F _ c h _ fun v H1 x Δ1 M1 F1 e1 c1 r1 h1 => ?_
  refine sl M1 σ H1 Δ1 F1 _ c1 h1 _ fun lo H2 Δ2 M2 F2 e2 c2 h2 => ?_
  refine sh M2 σ H2 Δ2 F2 _ c2 h2 _ fun hi H3 Δ3 M3 F3 e3 c3 h3 => ?_
  have r3 : Rp X.K F3 x v := rp_mono (e2.trans e3) _ _ r1
  have eF := (e1.trans e2).trans e3
  have key : ∀ ds, Res M3 x ds → Φ (.lst (cutD ds lo hi)) Δ3 M3 → rSlL X.K v lo hi H3 Q := fun ds hr hΦ => by
    obtain ⟨p, vs, ev, g1, g2⟩ := c3.res r3 hr
    refine ⟨p, vs, ev, SqL.of g1, fun p' hp => ?_⟩
    have g3 : Rps X.K F3 (cutD ds lo hi) (cutV vs lo hi) := by
      unfold cutD cutV
      rw [rps_len g2]
      exact rps_take _ (rps_drop _ g2)
    exact q _ _ (.lst (cutD ds lo hi)) Δ3 M3 _ (eF.trans (c3.bs.exF hp _)) (c3.new hp _) ⟨p', _, rfl, upd_same, rps_mono (c3.bs.exF hp _) _ _ g3⟩ hΦ
  cases x with
  | str z => exact .inl ⟨z, r3, h3.1, q _ H3 (.str _) Δ3 M3 F3 eF c3 rfl h3.2⟩
  | lst ds => exact .inr (key ds rfl h3)
  | ref p =>
    obtain ⟨ds, hM, hΦ⟩ := h3
    exact .inr (key ds hM hΦ)
  | _ => exact h3.elim

/-! ### len, items, truth: lists anywhere -/
def dLenR (r : RE) : RE := fun Δ M Φ => r Δ M fun x Δ1 M1 => match x with
  | .ref p => ∃ ds, M1 p = some (.lst ds) ∧ Φ (.int (ds.length : Nat)) Δ1 M1
  | x => dLen [x] fun d => Φ d Δ1 M1
theorem qe_lenR {p : Pos} (hg : Gl X "len") (hm : X.mg "len" = none) (h : QE X Z e r) (he : starEach [e] X.env = (false, eval e X.env) :: starEach [] X.env := by rfl) (hpl : (backTo pos (starEach [] X.env)).any (·.1) = false := by rfl) :
    QE X Z (.Call (.Name "len" p) [e] [] pos) (dLenR r) := by
  obtain ⟨t, pa, s⟩ := h
  refine ⟨_, pe_callB cr_lenAll hg hm boot_len (pa_cons pa pa_nil he) (by decide) (by decide) he hpl, fun M σ H Δ F Φ c h Q q => ?_⟩
  refine s M σ H Δ F _ c h _ fun v H1 x Δ1 M1 F1 e1 c1 r1 h1 => ?_
  have gen : dLen [x] (fun d => Φ d Δ1 M1) → rLenAll X.K [v] H1 Q := fun k => cd_len Z M1 σ H1 Δ1 F1 [x] [v] _ c1 (rps_one r1) k Q fun u H2 d F2 e2 c2 r2 k2 => q u H2 d Δ1 M1 F2 (e1.trans e2) c2 r2 k2
  cases x with
  | ref p =>
    obtain ⟨ds, hM, hΦ⟩ := h1
    obtain ⟨p', vs, ev, g1, g2⟩ := c1.res (d := .ref p) r1 hM
    refine .inl ⟨p', vs, by rw [ev], .inl (SqL.of g1), ?_⟩
    rw [rps_len g2]
    exact q _ H1 (.int _) Δ1 M1 F1 e1 c1 rfl hΦ
  | _ => exact gen h1
def dIxR (ra rb : RE) : RE := fun Δ M Φ => ra Δ M fun x Δ1 M1 => rb Δ1 M1 fun y Δ2 M2 => match x, y with
  | .ref p, .int i => ∃ ds, M2 p = some (.lst ds) ∧ ∃ d, atI ds i = some d ∧ Φ d Δ2 M2
  | x, y => dIx x y fun d => Φ d Δ2 M2
def dTruthR (r : RE) : RT := fun Δ M Φ => r Δ M fun x Δ1 M1 => match x with
  | .ref p => ∃ ds, M1 p = some (.lst ds) ∧ bs (!ds.isEmpty) fun k => Φ k Δ1 M1
  | .bl k => bs k fun k => Φ k Δ1 M1
  | .int i => bs (i != 0) fun k => Φ k Δ1 M1
  | .str z => z.length ≤ sizeLine ∧ bs ((z.length : Int) != 0) fun k => Φ k Δ1 M1
  | .lst ds => bs (!ds.isEmpty) fun k => Φ k Δ1 M1
  | .tup ds => bs (!ds.isEmpty) fun k => Φ k Δ1 M1
  | .non => Φ false Δ1 M1
  | _ => False
theorem qt_truthR (h : QE X Z e r) (he : ∀ whole, isTrue e X.env whole = (do let v ← whole; standAt e.pos; holding [v] (truthy v)) := by intro _; rfl) : QT X Z e (dTruthR r) := by
  obtain ⟨t, p, s⟩ := h
  refine ⟨_, pt_truth p he, fun M σ H Δ F Φ c h Q q => ?_⟩
  refine s M σ H Δ F _ c h _ fun v H1 x Δ1 M1 F1 e1 c1 r1 h1 => ?_
  cases x with
  | bl k => rw [show v = .bl k from r1]; exact ⟨k, rfl, q k H1 Δ1 M1 F1 e1 c1 (bs_of h1)⟩
  | int i => rw [show v = .int i from r1]; exact ⟨_, rfl, q _ H1 Δ1 M1 F1 e1 c1 (bs_of h1)⟩
  | str z => rw [show v = .str z from r1]; exact ⟨_, ⟨h1.1, rfl⟩, q _ H1 Δ1 M1 F1 e1 c1 (bs_of h1.2)⟩
  | non => rw [show v = .non from r1]; exact ⟨_, rfl, q _ H1 Δ1 M1 F1 e1 c1 h1⟩
  | lst ds =>
    obtain ⟨p, vs, e2, g1, g2⟩ := r1
    rw [e2]
    exact ⟨!ds.isEmpty, .inl ⟨vs, SqL.of (c1.bs.fH _ _ g1), by rw [rps_empty g2]⟩, q _ H1 Δ1 M1 F1 e1 c1 (bs_of h1)⟩
  | tup ds =>
    obtain ⟨p, vs, e2, g1, g2⟩ := r1
    rw [e2]
    exact ⟨!ds.isEmpty, .inr (.inl ⟨vs, Evl.ex_t c1.bs.fH g1, by rw [rps_empty g2]⟩), q _ H1 Δ1 M1 F1 e1 c1 (bs_of h1)⟩
  | ref p =>
    obtain ⟨ds, hM, hb⟩ := h1
    obtain ⟨p', vs, ev, g1, g2⟩ := c1.res (d := .ref p) r1 hM
    rw [ev]
    exact ⟨!ds.isEmpty, .inl ⟨vs, SqL.of g1, by rw [rps_empty g2]⟩, q _ H1 Δ1 M1 F1 e1 c1 (bs_of hb)⟩
  | _ => exact h1.elim
/-- a + b of lists anywhere, a new list -/
def dCatR (ra rb : RE) : RA := fun Δ M Φ => ra Δ M fun x Δ1 M1 => rb Δ1 M1 fun y Δ2 M2 => ∃ ds es, Res M2 x ds ∧ Res M2 y es ∧ ds.length + es.length ≤ sizeLine ∧ Φ (ds ++ es) Δ2 M2
theorem ql_catR (ha : QE X Z a ra) (hb : QE X Z b rb) : QL X Z (.BinOp a .Add b pos) (dCatR ra rb) := by
  obtain ⟨ta, pa, sa⟩ := ha
  obtain ⟨tb, pb, sb⟩ := hb
  refine ⟨_, pe_op op_cat pa pb, fun M σ H Δ F Φ c h Q q => ?_⟩
  refine sa M σ H Δ F _ c h _ fun v H1 x Δ1 M1 F1 e1 c1 r1 h1 => ?_
  refine sb M1 σ H1 Δ1 F1 _ c1 h1 _ fun w H2 y Δ2 M2 F2 e2 c2 r2 h2 => ?_
  obtain ⟨ds, es, k1, k2, k3, hΦ⟩ := h2
  obtain ⟨p, vs, ev, g1, g2⟩ := c2.res (rp_mono e2 _ _ r1) k1
  obtain ⟨p', ws, ew, g3, g4⟩ := c2.res r2 k2
  exact ⟨p, p', vs, ws, ev, ew, g1, g3, by rw [rps_len g2, rps_len g4]; exact k3, fun l hl => q l _ _ _ Δ2 M2 F2 (e1.trans e2) c2 hl (rps_app g2 g4) hΦ⟩
/-- xs.pop() as a statement, xs in memory -/
def dPopM (r : RE) : RE := fun Δ M Φ => r Δ M fun x Δ1 M1 => match x with
  | .ref p => ∃ ds d, M1 p = some (.lst ds) ∧ ds[ds.length - 1]? = some d ∧ Φ d Δ1 (updM M1 p (.lst ds.dropLast))
  | _ => False
theorem rps_dropLast {F : Hp} : ∀ {ds : List D} {vs : List V}, Rps K F ds vs → Rps K F ds.dropLast vs.dropLast := fun {ds vs} h => by
  rw [List.dropLast_eq_take, List.dropLast_eq_take, rps_len h]
  exact rps_take _ h
theorem qe_popM (h : QE X Z o r) (hbase : attributeBase o "pop" X.env (eval o X.env) = eval o X.env := by rfl) (hline : (apos.endLine == pos.line) = true := by rfl) : QE X Z (.Call (.Attribute o "pop" apos) [] [] pos) (dPopM r) := by
  obtain ⟨t, p, s⟩ := h
  refine ⟨_, pe_bm0 PySem.F.plainAttrs_list PySem.F.slot_list_pop PySem.F.type_list_pop mt_pop p hbase hline, fun M σ H Δ F Φ c h Q q => ?_⟩
  refine s M σ H Δ F _ c h _ fun v H1 x Δ1 M1 F1 e1 c1 r1 h1 => ?_
  cases x with
  | ref p =>
    obtain ⟨ds, d, hM, hl, hΦ⟩ := h1
    obtain ⟨vs, g1, g2⟩ := c1.bs.lstM hM
    obtain ⟨u, hu, ru⟩ := rps_get g2 hl
    rw [show v = .ref p from r1]
    exact ⟨.inl ⟨rfl, vs, SqL.of g1⟩, p, vs, u, rfl, rfl, g1, by rw [rps_len g2]; exact hu, q u _ d Δ1 _ F1 e1 (c1.setM hM (rps_dropLast g2)) ru hΦ⟩
  | _ => exact h1.elim
/-- xs[i] = e, xs in memory -/
def dStoM (rv ra ri : RE) : RS := fun De Δ M => rv Δ M fun z Δ1 M1 => ra Δ1 M1 fun x Δ2 M2 => ri Δ2 M2 fun y Δ3 M3 => match x, y with
  | .ref p, .int k => ∃ ds j, M3 p = some (.lst ds) ∧ ixN ds.length k = some j ∧ De.nx Δ3 (updM M3 p (.lst (ds.set j z)))
  | _, _ => False
theorem qs_stoM {rv ri : RE} {i value : Expr} {p' : Pos} (hv : QE X Z value rv) (ho : QE X Z o ra) (hi : QE X Z i ri) (hg : ∀ to ti, PE X o to → PE X i ti → PG X (.Subscript o i p') (gSub to ti rSetL) := by intro to ti h1 h2; exact pg_sub h1 h2 set_list)
    (hs : swapsWithSole [.Subscript o i p'] value pos.line X.env = pure false := by rfl) (hw : swappedStores [.Subscript o i p'] value X.env = pure none := by rfl)
    (h1 : (assignEach [.Subscript o i p'] X.env).map (·.2) = [assign (.Subscript o i p') X.env] := by rfl) : QS X Z (.Assign [.Subscript o i p'] value pos) (dStoM rv ra ri) := by
  obtain ⟨tv, pv, sv⟩ := hv
  obtain ⟨to, po, so⟩ := ho
  obtain ⟨ti, pi, si⟩ := hi
  refine ⟨_, ps_asg pv (hg to ti po pi) hs hw h1, fun M σ H Δ F De c h Dv ok => ?_⟩
  refine sv M σ H Δ F _ c h _ fun v H1 z Δ1 M1 F1 e1 c1 r1 h1 => ?_
  refine so M1 σ H1 Δ1 F1 _ c1 h1 _ fun w H2 x Δ2 M2 F2 e2 c2 r2 h2 => ?_
  refine si M2 σ H2 Δ2 F2 _ c2 h2 _ fun u H3 y Δ3 M3 F3 e3 c3 r3 h3 => ?_
  cases x with
  | ref p =>
    cases y with
    | int k =>
      obtain ⟨ds, j, hM, hj, hΦ⟩ := h3
      obtain ⟨vs, g1, g2⟩ := c3.bs.lstM hM
      refine ⟨p, vs, k, j, r2, r3, g1, by rw [rps_len g2]; exact hj, ?_⟩
      exact ok.nx σ _ Δ3 _ F3 ((e1.trans e2).trans e3) (c3.setM hM (rps_set j g2 (rp_mono (e2.trans e3) _ _ r1))) hΦ
    | _ => exact h3.elim
  | _ => exact h3.elim

/-! ### texts -/
/-- s.isdigit() and its like -/
def dM0 (g : Str → Bool) (r : RE) : RE := fun Δ M Φ => r Δ M fun x Δ1 M1 => match x with
  | .str z => Φ (.bl (g z)) Δ1 M1
  | _ => False
theorem qe_m0 {id : String} {name : Str} {g : Str → Bool} (slot : Slot "str" name id) (ty : typeOf (.builtin id) = pure (.type "method_descriptor")) (rule : MtR X id (fun x xs H Q => ∃ a, x = .str a ∧ xs = [] ∧ True ∧ Q (.bl (g a)) H)) (h : QE X Z o r)
    (hbase : attributeBase o name X.env (eval o X.env) = eval o X.env := by rfl) (hline : (apos.endLine == pos.line) = true := by rfl) : QE X Z (.Call (.Attribute o name apos) [] [] pos) (dM0 g r) := by
  obtain ⟨t, p, s⟩ := h
  refine ⟨_, pe_m0 slot ty rule p hbase hline, fun M σ H Δ F Φ c h Q q => ?_⟩
  refine s M σ H Δ F _ c h _ fun v H1 x Δ1 M1 F1 e1 c1 r1 h1 => ?_
  cases x with
  | str z => exact ⟨⟨z, r1⟩, z, r1, rfl, trivial, q _ H1 (.bl _) Δ1 M1 F1 e1 c1 rfl h1⟩
  | _ => exact h1.elim
/-- int(..) of an int, a truth value, a text -/
def dIntA : List D → (D → Prop) → Prop := fun xs Φ => match xs with
  | [.int i] => Φ (.int i)
  | [.bl k] => Φ (.int (if k then 1 else 0))
  | [.str z] => ∃ m, PySem.intText? z = some m ∧ z.length ≤ 640 ∧ Φ (.int m)
  | _ => False
theorem cr_intA : CallR X (.type "int") (fun xs H Q => rInt xs H Q ∨ ∃ a n, xs = [.str a] ∧ PySem.intText? a = some n ∧ a.length ≤ 640 ∧ Q (.int n) H) := CallR.or cr_int call_int_str
theorem cd_intA : CallD K (fun xs H Q => rInt xs H Q ∨ ∃ a n, xs = [.str a] ∧ PySem.intText? a = some n ∧ a.length ≤ 640 ∧ Q (.int n) H) dIntA := by
  intro Z M σ H Δ F xs vs Φ c rx k Q q
  unfold dIntA at k
  split at k
  · obtain ⟨v, rfl, e1⟩ := vals1 rx
    exact .inl (.inl ⟨_, by rw [show v = _ from e1], q _ H (.int _) F (Ex.refl _) c rfl k⟩)
  · obtain ⟨v, rfl, e1⟩ := vals1 rx
    exact .inl (.inr ⟨_, by rw [show v = _ from e1], q _ H (.int _) F (Ex.refl _) c rfl k⟩)
  · obtain ⟨v, rfl, e1⟩ := vals1 rx
    obtain ⟨m, k1, k2, k3⟩ := k
    exact .inr ⟨_, m, by rw [show v = _ from e1], k1, k2, q _ H (.int _) F (Ex.refl _) c rfl k3⟩
  · exact k.elim
theorem qe_intA {p : Pos} (hg : Gl X "int") (hm : X.mg "int" = none) (ha : QA X Z n (e :: es) rl) (he : starEach (e :: es) X.env = (false, eval e X.env) :: starEach es X.env := by rfl) (hpl : (backTo pos (starEach es X.env)).any (·.1) = false := by rfl) :
    QE X Z (.Call (.Name "int" p) (e :: es) [] pos) (dCB dIntA rl) := qe_cty cr_intA cd_intA hg hm (by decide +kernel) ha (by decide) (by decide) he hpl
/-- str(..) of an int or a text -/
def dStrA : List D → (D → Prop) → Prop := fun xs Φ => match xs with
  | [.int i] => i.natAbs.log2 < 1920 ∧ Φ (.str (toString i))
  | [.str z] => Φ (.str z)
  | _ => False
def rStrA : List V → Hp → VK → Prop := fun xs H Q => (∃ i, xs = [.int i] ∧ i.natAbs.log2 < 1920 ∧ Q (.str (toString i)) H) ∨ ∃ a, xs = [.str a] ∧ Q (.str a) H
theorem cr_strA : CallR X (.type "str") rStrA := CallR.or call_str_int SkE.call_str_str
theorem cd_strA : CallD K rStrA dStrA := by
  intro Z M σ H Δ F xs vs Φ c rx k Q q
  unfold dStrA at k
  split at k
  · obtain ⟨v, rfl, e1⟩ := vals1 rx
    exact .inl ⟨_, by rw [show v = _ from e1], k.1, q _ H (.str _) F (Ex.refl _) c rfl k.2⟩
  · obtain ⟨v, rfl, e1⟩ := vals1 rx
    exact .inr ⟨_, by rw [show v = _ from e1], q _ H (.str _) F (Ex.refl _) c rfl k⟩
  · exact k.elim
theorem qe_strA {p : Pos} (hg : Gl X "str") (hm : X.mg "str" = none) (ha : QA X Z n (e :: es) rl) (he : starEach (e :: es) X.env = (false, eval e X.env) :: starEach es X.env := by rfl) (hpl : (backTo pos (starEach es X.env)).any (·.1) = false := by rfl) :
    QE X Z (.Call (.Name "str" p) (e :: es) [] pos) (dCB dStrA rl) := qe_cty cr_strA cd_strA hg hm (by decide +kernel) ha (by decide) (by decide) he hpl
end
end DL

set_option Elab.async false
set_option linter.all false
set_option maxRecDepth 100000
set_option maxHeartbeats 4000000
namespace DL
open PySem PySem.Spec PyProof.Rows L2
open Evl (Ex)
section
variable {X : Cx} {Z : Zx} {e a b o : Expr} {ra rb r : RE} {pos apos : Pos} {es : List Expr} {rl : RA} {n : Nat} {K : PySem.W.Frag}
/-! ### == of lists anywhere -/
/-- what stands for a value when it is compared -/
def View (M : Mem) (x dx : D) : Prop := match x with
  | .ref p => ∃ ds, M p = some (.lst ds) ∧ dx = .lst ds
  | _ => dx = x
theorem Cn.view {Z : Zx} {M : Mem} {σ : L2.St} {H F : Hp} {Δ : List Sl} (c : Cn K Z M σ H Δ F) {x dx : D} {v : V} (h : View M x dx) (hp : dx.pure = true) (r : Rp K F x v) : Dp K H v dx.py := by
  cases x with
  | ref p =>
    obtain ⟨ds, hM, e⟩ := h
    subst e
    obtain ⟨vs, g1, g2⟩ := c.bs.lstM hM
    rw [show v = .ref p from r]
    exact .lst (SqL.of g1) (rps_dp c.bs.fH ds vs hp g2)
  | _ =>
    have e : dx = _ := h
    subst e
    exact rp_dp c.bs.fH _ v hp r
def dEqR (neg : Bool) (ra rb : RE) : RE := fun Δ M Φ => ra Δ M fun x Δ1 M1 => rb Δ1 M1 fun y Δ2 M2 => ∃ dx dy, View M2 x dx ∧ View M2 y dy ∧ dx.pure = true ∧ dy.pure = true ∧ SeqAt.shaped dx.py = true ∧ SeqAt.shaped dy.py = true ∧
  Φ (.bl (if neg then !PyData.eqv dx.py dy.py else PyData.eqv dx.py dy.py)) Δ2 M2
theorem sim_eqR {ta tb : TE} (sa : Sim K Z ta ra) (sb : Sim K Z tb rb) : Sim K Z (tOp (rEqD K) ta tb) (dEqR false ra rb) := by
  intro M σ H Δ F Φ c h Q q
  refine sa M σ H Δ F _ c h _ fun v H1 x Δ1 M1 F1 e1 c1 r1 h1 => ?_
  refine sb M1 σ H1 Δ1 F1 _ c1 h1 _ fun w H2 y Δ2 M2 F2 e2 c2 r2 h2 => ?_
  obtain ⟨dx, dy, v1, v2, p1, p2, s1, s2, hΦ⟩ := h2
  exact ⟨_, _, c2.view v1 p1 (rp_mono e2 _ _ r1), c2.view v2 p2 r2, s1, s2, q _ H2 (.bl _) Δ2 M2 F2 (e1.trans e2) c2 rfl hΦ⟩
theorem sim_neR {ta tb : TE} (sa : Sim K Z ta ra) (sb : Sim K Z tb rb) : Sim K Z (tOp (rNeD K) ta tb) (dEqR true ra rb) := by
  intro M σ H Δ F Φ c h Q q
  refine sa M σ H Δ F _ c h _ fun v H1 x Δ1 M1 F1 e1 c1 r1 h1 => ?_
  refine sb M1 σ H1 Δ1 F1 _ c1 h1 _ fun w H2 y Δ2 M2 F2 e2 c2 r2 h2 => ?_
  obtain ⟨dx, dy, v1, v2, p1, p2, s1, s2, hΦ⟩ := h2
  exact ⟨_, _, c2.view v1 p1 (rp_mono e2 _ _ r1), c2.view v2 p2 r2, s1, s2, q _ H2 (.bl _) Δ2 M2 F2 (e1.trans e2) c2 rfl hΦ⟩
theorem qe_eqR (hu : X.A.units + 64 < cLine) (ha : QE X Z a ra) (hb : QE X Z b rb) (hm : behindInMarks .Eq b = false := by first | exact nobehind _ (by decide) (by decide) | rfl) : QE X Z (.Compare a [.Eq] [b] pos) (dEqR false ra rb) := by
  obtain ⟨ta, pa, sa⟩ := ha
  obtain ⟨tb, pb, sb⟩ := hb
  exact ⟨_, pe_cmpR (op_eqD hu) pa pb hm, sim_eqR sa sb⟩
theorem qe_neR (hu : X.A.units + 64 < cLine) (ha : QE X Z a ra) (hb : QE X Z b rb) (hm : behindInMarks .NotEq b = false := by first | exact nobehind _ (by decide) (by decide) | rfl) : QE X Z (.Compare a [.NotEq] [b] pos) (dEqR true ra rb) := by
  obtain ⟨ta, pa, sa⟩ := ha
  obtain ⟨tb, pb, sb⟩ := hb
  exact ⟨_, pe_cmpR (op_neD hu) pa pb hm, sim_neR sa sb⟩
theorem qt_eqR (hu : X.A.units + 64 < cLine) (ha : QE X Z a ra) (hb : QE X Z b rb) (hm : behindInMarks .Eq b = false := by first | exact nobehind _ (by decide) (by decide) | rfl) : QT X Z (.Compare a [.Eq] [b] pos) (dTest (dEqR false ra rb)) := by
  obtain ⟨ta, pa, sa⟩ := ha
  obtain ⟨tb, pb, sb⟩ := hb
  exact ⟨_, pt_cmpR (op_eqD hu) pa pb hm, simT_test (sim_eqR sa sb)⟩
theorem qt_neR (hu : X.A.units + 64 < cLine) (ha : QE X Z a ra) (hb : QE X Z b rb) (hm : behindInMarks .NotEq b = false := by first | exact nobehind _ (by decide) (by decide) | rfl) : QT X Z (.Compare a [.NotEq] [b] pos) (dTest (dEqR true ra rb)) := by
  obtain ⟨ta, pa, sa⟩ := ha
  obtain ⟨tb, pb, sb⟩ := hb
  exact ⟨_, pt_cmpR (op_neD hu) pa pb hm, simT_test (sim_neR sa sb)⟩
/-- x[i], lists anywhere, tuples, texts -/
theorem qe_ixR (ha : QE X Z a ra) (hb : QE X Z b rb) (hs : PlainIx b := by intro _ _; rfl) : QE X Z (.Subscript a b pos) (dIxR ra rb) := by
  obtain ⟨ta, pa, sa⟩ := ha
  obtain ⟨tb, pb, sb⟩ := hb
  refine ⟨_, pe_ix ix_seq pa pb hs, fun M σ H Δ F Φ c h Q q => ?_⟩
  refine sa M σ H Δ F _ c h _ fun v H1 x Δ1 M1 F1 e1 c1 r1 h1 => ?_
  refine sb M1 σ H1 Δ1 F1 _ c1 h1 _ fun w H2 y Δ2 M2 F2 e2 c2 r2 h2 => ?_
  have gen : dIx x y (fun d => Φ d Δ2 M2) → rIx X.K v w H2 Q := fun k => od_ix Z M2 σ H2 Δ2 F2 x y v w _ c2 (rp_mono e2 _ _ r1) r2 k Q fun u H3 d F3 e3 c3 r3 k3 => q u H3 d Δ2 M2 F3 ((e1.trans e2).trans e3) c3 r3 k3
  cases x with
  | ref p =>
    cases y with
    | int i =>
      obtain ⟨ds, hM, d, k1, k2⟩ := h2
      obtain ⟨vs, g1, g2⟩ := c2.bs.lstM hM
      obtain ⟨u, h3, h4⟩ := atI_rps g2 k1
      exact .inl ⟨p, vs, i, u, r1, r2, SqL.of g1, h3, q u H2 d Δ2 M2 F2 (e1.trans e2) c2 h4 k2⟩
    | _ => exact gen h2
  | _ => exact gen h2

/-! ### module constants -/
theorem qe_glob {x : Str} {v : V} {u : Value} {d : D} (hg : Gl X x) (hm : X.mg x = some u) (r : RelV v u) (h : ∀ F, Rp X.K F d v) (hd : (x == ("__debug__" : Str)) = false := by decide) : QE X Z (.Name x pos) (dC d) := ⟨_, pe_glob hg hm r hd, sim_c h⟩

/-! ### f-texts -/
def dJs : List RE → Str → List Sl → Mem → (Str → List Sl → Mem → Prop) → Prop
  | [], acc, Δ, M, Φ => Φ acc Δ M
  | r :: rs, acc, Δ, M, Φ => r Δ M fun x Δ1 M1 => match x with
    | .str y => (acc ++ y).length ≤ sizeLine ∧ dJs rs (acc ++ y) Δ1 M1 Φ
    | _ => False
def dJoin (rs : List RE) : RE := fun Δ M Φ => dJs rs Str.empty Δ M fun out Δ1 M1 => Φ (.str out) Δ1 M1
def QJ (X : Cx) (Z : Zx) (es : List Expr) (rs : List RE) : Prop := ∃ ts, PJ X es ts ∧ ∀ (acc : Str) (M : Mem) (σ : L2.St) (H : Hp) (Δ : List Sl) (F : Hp) (Φ : Str → List Sl → Mem → Prop), Cn X.K Z M σ H Δ F → dJs rs acc Δ M Φ →
  ∀ Q : Str → Hp → Prop, (∀ out H' Δ' M' F', Ex F F' → Cn X.K Z M' σ H' Δ' F' → Φ out Δ' M' → Q out H') → tJs ts acc σ H Q
theorem qj_nil : QJ X Z [] [] := ⟨[], .nil, fun acc M σ H Δ F Φ c h Q q => q acc H Δ M F (Ex.refl _) c h⟩
theorem qj_cons {rs : List RE} (h : QE X Z e r) (hs : QJ X Z es rs) : QJ X Z (e :: es) (r :: rs) := by
  obtain ⟨t, p, s⟩ := h
  obtain ⟨ts, ps, ss⟩ := hs
  refine ⟨t :: ts, .cons p ps, fun acc M σ H Δ F Φ c h Q q => ?_⟩
  refine s M σ H Δ F _ c h _ fun v H1 x Δ1 M1 F1 e1 c1 r1 h1 => ?_
  cases x with
  | str y => exact ⟨y, r1, h1.1, ss _ M1 σ H1 Δ1 F1 Φ c1 h1.2 Q fun out H' Δ' M' F' e2 => q out H' Δ' M' F' (e1.trans e2)⟩
  | _ => exact h1.elim
theorem qe_join {v1 v2 : Expr} {rest : List Expr} {rs : List RE} (h : QJ X Z (v1 :: v2 :: rest) rs) : QE X Z (.JoinedStr (v1 :: v2 :: rest) pos) (dJoin rs) := by
  obtain ⟨ts, ps, ss⟩ := h
  exact ⟨_, pe_joined ps, fun M σ H Δ F Φ c h Q q => ss _ M σ H Δ F _ c h _ fun out H' Δ' M' F' e1 c1 k => q _ H' (.str out) Δ' M' F' e1 c1 rfl k⟩
/-- {e}: an int or a text -/
def dFmt (r : RE) : RE := fun Δ M Φ => r Δ M fun x Δ1 M1 => match x with
  | .str y => y.length ≤ sizeLine ∧ Φ (.str y) Δ1 M1
  | .int i => i.natAbs.log2 < 1920 ∧ Φ (.str (toString i)) Δ1 M1
  | _ => False
theorem qe_fmt (h : QE X Z e r) : QE X Z (.FormattedValue e (-1) none pos) (dFmt r) := by
  obtain ⟨t, p, s⟩ := h
  refine ⟨_, pe_fmt p, fun M σ H Δ F Φ c h Q q => ?_⟩
  refine s M σ H Δ F _ c h _ fun v H1 x Δ1 M1 F1 e1 c1 r1 h1 => ?_
  cases x with
  | str y => exact .inl ⟨y, r1, h1.1, q _ H1 (.str y) Δ1 M1 F1 e1 c1 rfl h1.2⟩
  | int i => exact .inr ⟨i, r1, h1.1, q _ H1 (.str _) Δ1 M1 F1 e1 c1 rfl h1.2⟩
  | _ => exact h1.elim

/-! ### for c in s -/
def signsD (x : Str) : List D := x.cps.toList.map fun c => .str ⟨#[c]⟩
theorem loop_str {x : Str} {j : Nat} {js : List Nat} {t : TS} {u : RS} (hu : SimS K Z t u) {M : Mem} {σ : L2.St} {H F : Hp} {Δ : List Sl} {De : DE} {Dv : Ends} (c : Cn K Z M σ H Δ F)
    (h : dLoop j js (signsD x) u De Δ M) (ok : EndsOk K Z F De Dv) :
    ∃ W : Nat → Nat → L2.St → Hp → Prop, (∃ m, W 0 m σ H) ∧ ∀ i k σ H, W i k σ H →
      ((Its x).stop i H ∧ Dv.nx σ H) ∨ ((Its x).go i H ∧ ∃ N : L2.St → Hp → Prop, (∀ σ' H', N σ' H' → ∃ m', m' < k ∧ W (i + 1) m' σ' H') ∧ ∀ y H', (Its x).yld i H y H' → gName j y σ H' fun σ2 H2 => t { Dv with nx := N, ct := N, bk := Dv.nx } σ2 H2) := by
  obtain ⟨Pv, h0, hs, hd⟩ := h
  have hl : (signsD x).length = x.cps.size := by unfold signsD; rw [List.length_map, Array.length_toList]
  refine ⟨fun i m σ H => m = x.cps.size - i ∧ i ≤ x.cps.size ∧ ∃ Δ M F', Ex F F' ∧ Cn K Z M σ H Δ F' ∧ Pv i Δ M, ⟨_, rfl, Nat.zero_le _, _, M, F, Ex.refl _, cn_fgt js _ c, h0⟩, ?_⟩
  rintro i m σ H ⟨rfl, hi, Δ, M, F', e, c, hp⟩
  by_cases hlt : i < x.cps.size
  · refine .inr ⟨hlt, fun σ H => ∃ Δ M F', Ex F F' ∧ Cn K Z M σ H Δ F' ∧ Pv (i + 1) Δ M, fun σ' H' p' => ⟨x.cps.size - (i + 1), by omega, rfl, hlt, p'⟩, fun y H' hy => ?_⟩
    obtain ⟨eH, k, hk, ev⟩ := hy
    subst eH ev
    have hd' : (signsD x)[i]? = some (.str ⟨#[k]⟩) := by
      unfold signsD
      rw [List.getElem?_map, Array.getElem?_toList, hk] <;> rfl
    exact hu M _ _ _ F' _ (c.set (d := .str ⟨#[k]⟩) rfl j) (hs i _ Δ M hd' hp) _ (endsLoop (js := js) (Pv := Pv) ok e fun σ' H' Δ' M' F'' e1 c' k => ⟨Δ', M', F'', e.trans e1, c', k⟩)
  · have ei : i = x.cps.size := by omega
    subst ei
    rw [hl] at hd
    exact .inl ⟨Nat.le_refl _, ok.nx σ H Δ M F' e c (hd _ _ hp)⟩
def dForS (j : Nat) (js : List Nat) (r : RE) (u : RS) : RS := fun De Δ M => r Δ M fun x Δ1 M1 => match x with
  | .str z => dLoop j js (signsD z) u De Δ1 M1
  | _ => False
theorem qs_forS {j : Nat} {js : List Nat} {x : Str} {px : Pos} {body : List Stmt} {iter : Expr} {u : RS} (hp : PassesOwn (model X.prog X.w) X.A X.env X.xe) (hc : X.calm = true) (hN : X.N.Nodup) (h : QE X Z iter r) (hb : QSs X Z body u) (hi : X.N[j]? = some x := by rfl) (hx : Loc X.env.scope x := by first | exact Or.inl rfl | exact Or.inr rfl)
    (hf : X.fn x = true ∨ X.env.scope.names.lookup x = some .local := by first | exact .inl rfl | exact .inr rfl) (hs : ∀ x, foldedSetIterable iter X.env x = pure x := by intro _; rfl) : QS X Z (.For (.Name x px) iter body [] pos) (dForS j js r u) := by
  obtain ⟨t, p, s⟩ := h
  obtain ⟨tb, pb, sb⟩ := hb
  refine ⟨_, ps_for hp hc (pi_str p) (pg_name (i := j) hN hi hx hf) pb hs, fun M σ H Δ F De c h Dv ok => ?_⟩
  refine s M σ H Δ F _ c h _ fun v H1 y Δ1 M1 F1 e1 c1 r1 h1 => ?_
  cases y with
  | str z => exact ⟨z, r1, loop_str sb c1 h1 (ok.mono e1)⟩
  | _ => exact h1.elim
/-- isinstance, also of a list in memory -/
def dIsiR (T : String) (r : RE) : RE := fun Δ M Φ => r Δ M fun x Δ1 M1 => match x with
  | .ref p => ∃ ds b, M1 p = some (.lst ds) ∧ kitB "list" T = some b ∧ Φ (.bl b) Δ1 M1
  | .rng _ _ => False
  | x => ∃ b, kitB x.ty T = some b ∧ Φ (.bl b) Δ1 M1
theorem qe_isiR {T : String} {x : Str} {p p2 : Pos} (h : QE X Z e r) (hg : Gl X "isinstance") (hm : X.mg "isinstance" = none) (hg2 : Gl X x) (hm2 : X.mg x = none) (hb : bootBuiltins x = some (.type T)) (hn : x ≠ "__name__" := by decide) (hdb : (x == ("__debug__" : Str)) = false := by decide)
    (he : starEach [e, .Name x p2] X.env = (false, eval e X.env) :: starEach [.Name x p2] X.env := by rfl) (he2 : starEach [.Name x p2] X.env = (false, eval (.Name x p2) X.env) :: starEach [] X.env := by rfl) (hpl : (backTo pos (starEach [.Name x p2] X.env)).any (·.1) = false := by rfl) :
    QE X Z (.Call (.Name "isinstance" p) [e, .Name x p2] [] pos) (dIsiR T r) := by
  obtain ⟨t, pe, s⟩ := h
  refine ⟨_, pe_callB call_isi hg hm (by decide +kernel) (pa_cons pe (pa_cons (pe_bltn hg2 hm2 hb (v := .ty T) rfl hn hdb) pa_nil he2) he) (by decide) (by decide) he hpl, fun M σ H Δ F Φ c h Q q => ?_⟩
  refine s M σ H Δ F _ c h _ fun v H1 y Δ1 M1 F1 e1 c1 r1 h1 => ?_
  have hd : ∃ ty b, TyX X.K H1 v (.type ty) ∧ kitB ty T = some b ∧ Φ (.bl b) Δ1 M1 := by
    cases y with
    | ref p =>
      obtain ⟨ds, b, hM, k1, k2⟩ := h1
      obtain ⟨vs, g1, g2⟩ := c1.bs.lstM hM
      rw [show v = .ref p from r1]
      exact ⟨_, b, .base (.lst g1), k1, k2⟩
    | rng lo hi => exact h1.elim
    | _ =>
      obtain ⟨b, k1, k2⟩ := h1
      exact ⟨_, b, rp_tyx c1.bs.fH r1 True.intro, k1, k2⟩
  obtain ⟨ty, b, hty, k1, k2⟩ := hd
  exact ⟨v, .ty T, _, _, b, rfl, .ty T, hty, kit_ty k1, q _ H1 (.bl b) Δ1 M1 F1 e1 c1 rfl k2⟩
end
end DL

set_option Elab.async false
set_option linter.all false
set_option maxRecDepth 100000
set_option maxHeartbeats 4000000
namespace DL
open PySem PySem.Spec PyProof.Rows L2
open Evl (Ex)
/-! ### an own exception's __init__ of two fields -/
def tI2 (K : PySem.W.Frag) (f1 f2 : Str) : TS := fun Dv σ H => tOst K f1 (tVar 0) (tVar 1) { Dv with nx := fun σ1 H1 => tOst K f2 (tVar 0) (tVar 2) Dv σ1 H1 } σ H
theorem spInit_len {C : Addr} {names ps : List Str} (h : ps.length = names.length + 1) : ∀ vs H Q E, spInit C names vs H Q E → vs.length = ps.length := by
  rintro vs H Q E ⟨a, ws, rfl, hl, _⟩
  rw [List.length_cons, hl, h]
theorem init2 {K : PySem.W.Frag} {C : Addr} {f1 f2 a b c : Str} {vs : List V} {H : Hp} {Q : VK} {E : XK} (T : OexC K C) (n1 : PySem.W.findIn K (.ref C) f1 = some none) (n2 : PySem.W.findIn K (.ref C) f2 = some none) (h : spInit C [f1, f2] vs H Q E) :
    tI2 K f1 f2 { nx := fun _ H' => Q .non H', rt := Q } (L2.start [a, b, c] vs) H := by
  obtain ⟨e, ws, rfl, hl, he, k⟩ := h
  match ws, hl with
  | [x, y], _ =>
    refine ⟨x, rfl, .ref e, rfl, e, C, rfl, T, n1, .inl ⟨he, fun dx hdx hne => ?_⟩⟩
    refine ⟨y, rfl, .ref e, rfl, e, C, rfl, T, n2, .inr ⟨dx, [(f1, x)], upd_same, by rw [upd_ne hne, upd_same], (by show 1 ≤ 900; decide), ?_⟩⟩
    refine k dx _ hdx hne ?_ upd_same fun u h1 h2 => ?_
    · rw [upd_ne hne.symm, upd_same]
    · rw [upd_ne h2, upd_ne h1, upd_ne h2]
/-! ### constants, += on a field -/
theorem qe_globI {X : Cx} {Z : Zx} {pos : Pos} {x : Str} {i : Int} (hg : Gl X x) (hm : ∃ t, X.mg x = some (.int i t)) (hd : (x == ("__debug__" : Str)) = false := by decide) : QE X Z (.Name x pos) (dC (.int i)) := by
  obtain ⟨t, hm⟩ := hm
  exact qe_glob (v := .int i) hg hm ⟨t, rfl⟩ (fun _ => rfl) hd
theorem inop_add {X : Cx} : InOp X .Add rAdd := in_add
theorem od_plus {K : PySem.W.Frag} : OpD K rAdd dPlus := by
  intro Z M σ H Δ F x y v w Φ c rx ry k Q q
  unfold dPlus dI at k
  split at k
  · exact ⟨_, _, rx, ry, q _ H (.int _) F (Ex.refl _) c rfl k⟩
  · exact k.elim
/-- isinstance(e, T) of the exception that the suite holds -/
def dIsX (a : Addr) (b : Bool) (r : RE) : RE := fun Δ M Φ => r Δ M fun x Δ1 M1 => match x with
  | .ref p => p = a ∧ Φ (.bl b) Δ1 M1
  | _ => False
theorem kit_true {K : PySem.W.Frag} {C T : Addr} (hd : PySem.W.hasDictIn K T = true) (ht : PySem.W.typeIn K (.ref T) = some (.type "type")) (hs : PySem.W.subIn K (.ref C) (.ref T) = some true) : PySem.W.kitOne K (.ref C) (.ref T) = some true := by
  unfold PySem.W.kitOne
  split
  · rfl
  · obtain ⟨cd, hc, _⟩ := PySem.W.any_some hd
    show (if ((PySem.W.clsIn K T).isSome && PySem.W.typeIn K (.ref T) == some (.type "type")) = true then PySem.W.subIn K (.ref C) (.ref T) else none) = some true
    have e : ((some cd).isSome && (some (Value.type "type") : Option Value) == some (.type "type")) = true := rfl
    rw [hc, ht, hs, if_pos e]
def rIsX (D cT a : Addr) (d : Option Addr) (b : Bool) : List V → Hp → VK → Prop := fun xs H Q => xs = [.ref a, .ref cT] ∧ (∀ dd, d = some dd → ∃ vfs, H dd = some (.xd vfs)) ∧ Q (.bl b) H
theorem call_isX {X : Cx} {a D cT : Addr} {oe : Obj} {d : Option Addr} {b : Bool} {pn : List (Addr × Obj)} (C : ExcC X.K D) (hk : PySem.W.kitOne X.K (.ref D) (.ref cT) = some b) (hz : Zc (.ref D) d oe) (hf : ∃ vs, oe.data = .fields vs) :
    CallR (X.suite a ((a, oe) :: pn)) (.builtin "isinstance") (rIsX D cT a d b) := by
  intro pins s σ H xs us Q I r h
  obtain ⟨rfl, hd, q⟩ := h
  match us, r with
  | [_, _], .cons rx (.cons ry .nil) =>
    cases rx
    cases ry
    have hget := (I.pin (a, oe) (List.mem_append.mpr (.inl List.mem_cons_self))).1
    obtain ⟨vs, hv⟩ := hf
    obtain ⟨h1, h2⟩ := hz
    have cl : (PySem.W.clsIn X.K D).isSome = true := by
      obtain ⟨cd, hc, _⟩ := PySem.W.any_some C.hd
      rw [hc] <;> rfl
    have nc : PySem.W.notCls oe = true := by unfold PySem.W.notCls; rw [hv] <;> rfl
    have fin : ∀ od, PySem.W.InstAt s.heap a oe D od → wpAny (model X.prog X.w) (X.suite a ((a, oe) :: pn)).A (call (.builtin "isinstance") [.ref a, .ref cT]) (EP (X.suite a ((a, oe) :: pn)) pins σ Q) (X.suite a ((a, oe) :: pn)).xe s := fun od J =>
      PySem.W.kia_one (PySem.W.kitx_exc (gt := none) (od := od) (ox := oe) cl C.hg C.hk C.hs C.ha C.hn C.ht C.hm) I.kIn J hk (fun z => nomatch z) fun tk => ⟨.bl b, H, I.kept (t' := tk) fun _ _ z => z, rfl, q⟩
    cases d with
    | none => exact fin none ⟨hget, h1, nc, by rw [h2]; trivial⟩
    | some dd =>
      obtain ⟨vfs, ed⟩ := hd dd rfl
      have hx : ObjOk X.prog X.w H s.heap dd (.xd vfs) := I.hok dd _ ed
      obtain ⟨mA, hns, hr⟩ := hx
      obtain ⟨od, ho, hl⟩ := lookIn_ns hns
      exact fin (some od) ⟨hget, h1, nc, by rw [h2]; exact ho⟩
theorem qe_isX {X : Cx} {Z : Zx} {a C cT : Addr} {oe : Obj} {d : Option Addr} {b : Bool} {fs : List (Str × D)} {pn : List (Addr × Obj)} {e : Expr} {r : RE} {pos p p2 : Pos} {x : Str} (T : ExcC X.K C) (hk : PySem.W.kitOne X.K (.ref C) (.ref cT) = some b)
    (hz : Zc (.ref C) d oe) (hf : ∃ vs, oe.data = .fields vs) (xr : XRep X.K Z.F0 fs d) (he : QE (X.suite a ((a, oe) :: pn)) Z e r) (hg : Gl X "isinstance") (hm : X.mg "isinstance" = none) (hg2 : Gl X x) (hm2 : X.mg x = some (.ref cT)) (hdb : (x == ("__debug__" : Str)) = false := by decide)
    (h1 : starEach [e, .Name x p2] X.env = (false, eval e X.env) :: starEach [.Name x p2] X.env := by rfl) (h2 : starEach [.Name x p2] X.env = (false, eval (.Name x p2) X.env) :: starEach [] X.env := by rfl) (hpl : (backTo pos (starEach [.Name x p2] X.env)).any (·.1) = false := by rfl) :
    QE (X.suite a ((a, oe) :: pn)) Z (.Call (.Name "isinstance" p) [e, .Name x p2] [] pos) (dIsX a b r) := by
  obtain ⟨t, pe, s⟩ := he
  refine ⟨_, pe_callB (X := X.suite a ((a, oe) :: pn)) (call_isX T hk hz hf) hg hm (by decide +kernel) (pa_cons pe (pa_cons (pe_glob (X := X.suite a ((a, oe) :: pn)) (v := .ref cT) hg2 hm2 rfl hdb) pa_nil h2) h1) (by decide) (by decide) h1 hpl, fun M σ H Δ F Φ c h Q q => ?_⟩
  refine s M σ H Δ F _ c h _ fun v H1 y Δ1 M1 F1 e1 c1 r1 k => ?_
  cases y with
  | ref b =>
    obtain ⟨rfl, hΦ⟩ := k
    refine ⟨by rw [show v = .ref b from r1], fun dd hd => ?_, q _ H1 (.bl _) Δ1 M1 F1 e1 c1 rfl hΦ⟩
    subst hd
    obtain ⟨vfs, g1, _⟩ := xr.mono c1.bs.f0
    exact ⟨vfs, c1.bs.fH _ _ g1⟩
  | _ => exact k.elim
end DL

set_option Elab.async false
set_option linter.all false
set_option maxRecDepth 100000
set_option maxHeartbeats 4000000
namespace My
open PySem PySem.Spec PyProof.Rows L2 DL
open Evl (Ex)
/-! ### the law's own numbers: a row of the script -/
def cellAt (ns : List Int) (k : Int) : Int := if k < (ns.length : Int) then ns.getD k.toNat 0 else 0
def seedAt (s : Int) : Nat → Int
  | 0 => s
  | i + 1 => (seedAt s i * 16807 + (i : Int) * 7919 + 101) % 2147483647
def thAt (c : Int) : Nat → Int
  | 0 => c
  | i + 1 => thAt c i / 1000
def lawRow (ns : List Int) (k : Int) (n : Nat) : List Int :=
  if cellAt ns k ≥ 10 ^ 18 then (List.range n).map fun i => thAt (cellAt ns k) i % 1000
  else (List.range n).map fun i => seedAt ((cellAt ns k * 48271 + k * 69621 + 11) % 2147483647) (i + 1) / 65536 % 1000
theorem lawRow_len (ns : List Int) (k : Int) (n : Nat) : (lawRow ns k n).length = n := by
  unfold lawRow
  split <;> rw [List.length_map, List.length_range]
theorem lawRow_mem {ns : List Int} {k : Int} {n : Nat} : ∀ r ∈ lawRow ns k n, 0 ≤ r ∧ r < 1000 := by
  intro r hr
  unfold lawRow at hr
  split at hr
  · obtain ⟨i, _, rfl⟩ := List.mem_map.mp hr
    omega
  · obtain ⟨i, _, rfl⟩ := List.mem_map.mp hr
    omega
/-- the i-th number of a row -/
theorem lawRow_at {ns : List Int} {k : Int} {n i : Nat} (h : i < n) : ∃ r, atI ((lawRow ns k n).map D.int) (i : Int) = some (.int r) ∧ (lawRow ns k n)[i]? = some r ∧ 0 ≤ r ∧ r < 1000 := by
  have hl : i < (lawRow ns k n).length := by rw [lawRow_len]; exact h
  refine ⟨(lawRow ns k n)[i], ?_, List.getElem?_eq_getElem hl, lawRow_mem _ (List.getElem_mem hl)⟩
  refine atI_nat ?_
  rw [List.getElem?_map, List.getElem?_eq_getElem hl] <;> rfl
def S_law_row : DSp := fun ds M Φ _ => ∃ (ns : List Int) (k : Int) (n : Nat), ds = [.scr ns, .int k, .int n] ∧ 0 ≤ k ∧ k < 1000000 ∧ n ≤ 1000 ∧ Φ (.lst ((lawRow ns k n).map .int)) M
theorem ar_law_row : Arity S_law_row 3 := by
  rintro ds M Φ Ψ ⟨ns, k, n, rfl, _⟩
  rfl
theorem seedAt_lo {s : Int} (h : 0 ≤ s ∧ s < 2147483647) : ∀ i, 0 ≤ seedAt s i ∧ seedAt s i < 2147483647
  | 0 => h
  | i + 1 => by
    show 0 ≤ (seedAt s i * 16807 + (i : Int) * 7919 + 101) % 2147483647 ∧ (seedAt s i * 16807 + (i : Int) * 7919 + 101) % 2147483647 < 2147483647
    omega
/-! _law_row: slots 0 _law_script 1 _law_k 2 _law_count 3 _law_cell_here 4 _law_row_here 5 _law_at 6 _law_seed -/
def b_law_row_6 : RS := (dSeq (dApp 4 (dOp (dIC (fun _ j => 0 < j) fun i j => .int (i % j)) (dCB dInt (dCons (dVar 3) dNil)) (dC (.int 1000))))
    (dSet 3 (dOp (dIC CDivA fun i j => .int (i / j)) (dVar 3) (dC (.int 1000)))))
def b_law_row_11 : RS := (dSeq (dSet 6 (dOp (dIC (fun _ j => 0 < j) fun i j => .int (i % j)) (dCB dInt (dCons (dOp dAdd (dOp dAdd (dOp (dIC CMulA fun i j => .int (i * j)) (dVar 6) (dC (.int 16807))) (dOp (dIC CMulA fun i j => .int (i * j)) (dVar 5) (dC (.int 7919)))) (dC (.int 101))) dNil)) (dC (.int 2147483647))))
    (dApp 4 (dOp (dIC (fun _ j => 0 < j) fun i j => .int (i % j)) (dOp (dIC CDivA fun i j => .int (i / j)) (dVar 6) (dC (.int 65536))) (dC (.int 1000)))))
def r_law_row_6 : RS := (dRet (dVar 4))
def r_law_row_5 : RS := dSeq (dForR 5 [5] (dVar 2) b_law_row_11) r_law_row_6
def r_law_row_4 : RS := dSeq (dSet 6 (dOp (dIC (fun _ j => 0 < j) fun i j => .int (i % j)) (dCB dInt (dCons (dOp dAdd (dOp dAdd (dOp (dIC CMulA fun i j => .int (i * j)) (dVar 3) (dC (.int 48271))) (dOp (dIC CMulA fun i j => .int (i * j)) (dVar 1) (dC (.int 69621)))) (dC (.int 11))) dNil)) (dC (.int 2147483647)))) r_law_row_5
def r_law_row_3 : RS := dSeq (dIfS (dTest (dOp dGe (dVar 3) (dOp (dIC CPow fun i j => .int (i ^ j.toNat)) (dC (.int 10)) (dC (.int 18))))) (dSeq (dForR 5 [5] (dVar 2) b_law_row_6)
    (dRet (dVar 4))) dNext) r_law_row_4
def r_law_row_2 : RS := dSeq (dSetO 4 dNil) r_law_row_3
def r_law_row_1 : RS := dSeq (dIfS (dTest (dOp dLt (dVar 1) (dCB dLen (dCons (dVar 0) dNil)))) (dSet 3 (dCB dInt (dCons (dOp dIx (dVar 0) (dVar 1)) dNil))) dNext) r_law_row_2
def r_law_row : RS := dSeq (dSet 3 (dC (.int 0))) r_law_row_1


theorem getD_of {ns : List Int} {k : Int} (h0 : 0 ≤ k) (h : k < (ns.length : Int)) : atI ns k = some (cellAt ns k) := by
  have hk : k.toNat < ns.length := by omega
  have e : ((k.toNat : Nat) : Int) = k := Int.toNat_of_nonneg h0
  rw [← e]
  unfold cellAt
  rw [if_pos (by omega)]
  refine atI_nat ?_
  rw [Int.toNat_natCast, List.getD_eq_getElem?_getD, List.getElem?_eq_getElem hk] <;> rfl
theorem range_take {α : Type} (g : Nat → α) (i : Nat) : (List.range (i + 1)).map g = (List.range i).map g ++ [g i] := by
  rw [List.range_succ, List.map_append] <;> rfl
theorem line1000 {n : Nat} (h : n ≤ 1000) : n < sizeLine := Nat.lt_of_le_of_lt h (by decide)
theorem rangeD_some {lo : Int} {n i : Nat} {d : D} (h : (rangeD lo n)[i]? = some d) : i < n ∧ d = .int (lo + (i : Nat)) := by
  have hi : i < n := by
    have := (List.getElem?_eq_some_iff.mp h).1
    rw [rangeD_len] at this
    exact this
  rw [rangeD_get hi] at h
  exact ⟨hi, (Option.some.inj h).symm⟩
theorem red_law_row : ∀ ds M Φ Ψ, S_law_row ds M Φ Ψ → r_law_row { nx := fun _ M' => Φ .non M', rt := Φ } (startD 7 ds) M := by
  rintro ds M Φ Ψ ⟨ns, k, n, rfl, hk0, hk1, hn, q⟩
  have key : ∀ c, c = cellAt ns k → r_law_row_2 { nx := fun _ M' => Φ .non M', rt := Φ } [.d (.scr ns), .d (.int k), .d (.int n), .d (.int c), .un, .un, .un] M := by
    intro c hc
    have h10 : (10 : Int) ^ (18 : Int).toNat = 1000000000000000000 := by decide
    have h10' : (10 : Int) ^ 18 = 1000000000000000000 := by decide
    refine ⟨⟨by decide, by decide, by decide⟩, fun hb => ?_, fun hb => ?_⟩
    · -- the digits of a great cell
      have hc18 : cellAt ns k ≥ 10 ^ 18 := by
        have := of_decide_eq_true hb
        rw [h10] at this
        omega
      refine ⟨by omega, ?_⟩
      refine loop_by (fun i => [.d (.scr ns), .d (.int k), .d (.int n), .d (.int (thAt c i)), .own ((List.range i).map fun i => .int (thAt c i % 1000)), .un, .un]) rfl (fun i d hi => ?_) ?_
      · obtain ⟨hi, rfl⟩ := rangeD_some hi
        refine ⟨⟨_, rfl⟩, (by show (0 : Int) < 1000; decide), ?_, ?_⟩
        · rw [List.length_map, List.length_range]
          exact line1000 (by omega)
        · refine ⟨⟨by decide, .inl (by decide)⟩, ?_, rfl⟩
          show [Sl.d (.scr ns), .d (.int k), .d (.int n), .d (.int (thAt c i / 1000)), .own ((List.range i).map (fun i => D.int (thAt c i % 1000)) ++ [.int (thAt c i % 1000)]), .un, .un] = [.d (.scr ns), .d (.int k), .d (.int n), .d (.int (thAt c (i + 1))), .own ((List.range (i + 1)).map fun i => .int (thAt c i % 1000)), .un, .un]
          rw [range_take] <;> rfl
      · rw [rangeD_len, show (↑n : Int).toNat = n from Int.toNat_natCast n]
        have e : (List.range n).map (fun i => D.int (thAt c i % 1000)) = (lawRow ns k n).map .int := by
          unfold lawRow
          rw [if_pos hc18, List.map_map, hc] <;> rfl
        show Φ (.lst ((List.range n).map fun i => D.int (thAt c i % 1000))) M
        rw [e]
        exact q
    · -- a seed
      have hc18 : ¬ cellAt ns k ≥ 10 ^ 18 := by
        have := of_decide_eq_false hb
        rw [h10] at this
        omega
      have e2 : (0 : Int) < 2147483647 := by decide
      let s0 := (c * 48271 + k * 69621 + 11) % 2147483647
      have hs0 : 0 ≤ s0 ∧ s0 < 2147483647 := by omega
      refine ⟨.inl (.inr (by decide)), .inl (.inr (by decide)), e2, by omega, ?_⟩
      refine loop_by (fun i => [.d (.scr ns), .d (.int k), .d (.int n), .d (.int c), .own ((List.range i).map fun i => .int (seedAt s0 (i + 1) / 65536 % 1000)), .un, .d (.int (seedAt s0 i))]) rfl (fun i d hi => ?_) ?_
      · obtain ⟨hi, rfl⟩ := rangeD_some hi
        refine ⟨.inl (.inr (by decide)), .inl (.inr (by decide)), e2, ⟨_, rfl⟩, ⟨by decide, .inl (by decide)⟩, (by show (0 : Int) < 1000; decide), ?_, ?_, rfl⟩
        · rw [List.length_map, List.length_range]
          exact line1000 (by omega)
        · have e3 : (seedAt s0 i * 16807 + (0 + (i : Int)) * 7919 + 101) % 2147483647 = seedAt s0 (i + 1) := by
            show _ = (seedAt s0 i * 16807 + (i : Int) * 7919 + 101) % 2147483647
            rw [Int.zero_add]
          show [Sl.d (.scr ns), .d (.int k), .d (.int n), .d (.int c), .own ((List.range i).map (fun i => D.int (seedAt s0 (i + 1) / 65536 % 1000)) ++ [.int ((seedAt s0 i * 16807 + (0 + (i : Int)) * 7919 + 101) % 2147483647 / 65536 % 1000)]), .un, .d (.int ((seedAt s0 i * 16807 + (0 + (i : Int)) * 7919 + 101) % 2147483647))] = _
          rw [e3, range_take]
      · rw [rangeD_len, show (↑n : Int).toNat = n from Int.toNat_natCast n]
        have e : (List.range n).map (fun i => D.int (seedAt s0 (i + 1) / 65536 % 1000)) = (lawRow ns k n).map .int := by
          unfold lawRow
          rw [if_neg hc18, List.map_map, ← hc] <;> rfl
        show Φ (.lst ((List.range n).map fun i => D.int (seedAt s0 (i + 1) / 65536 % 1000))) M
        rw [e]
        exact q
  refine ⟨fun hb => ?_, fun hb => ?_⟩
  · have hlt : k < (ns.length : Int) := of_decide_eq_true hb
    exact ⟨_, getD_of hk0 hlt, key _ rfl⟩
  · have hge : ¬ k < (ns.length : Int) := of_decide_eq_false hb
    refine key 0 ?_
    unfold cellAt
    rw [if_neg hge]
end My

set_option Elab.async false
set_option linter.all false
set_option maxRecDepth 100000
set_option maxHeartbeats 4000000
namespace My
open PySem PySem.Spec PyProof.Rows L2 DL
open Evl (Ex)
/-! ### trees of pairs over ints: values, kinds -/
inductive T where
  | n (i : Int) | p (a b : T)
  deriving DecidableEq
def T.D : T → DL.D
  | .n i => .int i
  | .p a b => .tup [a.D, b.D]
def T.dep : T → Nat
  | .n _ => 0
  | .p a b => 1 + max a.dep b.dep
def T.isZ : T → Bool
  | .n i => decide (i = 0)
  | .p _ _ => false
theorem T.pure : ∀ t : T, t.D.pure = true
  | .n _ => rfl
  | .p a b => by
    show (a.D.pure && (b.D.pure && true)) = true
    rw [a.pure, b.pure] <;> rfl
theorem T.lay : ∀ t : T, t.D.py.canLay0 = true
  | .n _ => rfl
  | .p a b => by
    show (a.D.py.canLay0 && (b.D.py.canLay0 && true)) = true
    rw [a.lay, b.lay] <;> rfl
theorem T.pdep : ∀ t : T, t.D.py.depth ≤ t.dep
  | .n _ => Nat.le_refl 0
  | .p a b => by
    show max a.D.py.depth (max b.D.py.depth 0) + 1 ≤ 1 + max a.dep b.dep
    have h1 := a.pdep
    have h2 := b.pdep
    omega
theorem T.shaped {t : T} (h : t.dep ≤ 60) : SeqAt.shaped t.D.py = true := by
  unfold SeqAt.shaped
  rw [t.lay, Bool.true_and]
  have := t.pdep
  exact decide_eq_true (by omega)
/-- t == 0 -/
theorem eq_zero {t : T} (h : t.dep ≤ 60) {Φ : DL.D → Prop} (k : Φ (.bl t.isZ)) : dEqA t.D (.int 0) Φ := by
  cases t with
  | n i => exact k
  | p a b => exact ⟨T.pure _, rfl, T.shaped h, rfl, k⟩
def oD : Option T → DL.D
  | none => .non
  | some t => t.D
theorem oD_isNon (x : Option T) : (oD x).isNon = x.isNone := by
  cases x with
  | none => rfl
  | some t => cases t <;> rfl
theorem T.isNon (t : T) : t.D.isNon = false := by cases t <;> rfl
end My

set_option Elab.async false
set_option linter.all false
set_option maxRecDepth 100000
set_option maxHeartbeats 4000000
namespace My
open PySem PySem.Spec PyProof.Rows L2 DL
open Evl (Ex)
/-! ### words as lists of signs -/
/-- at place i, 0 beyond the end -/
def sg (l : List Nat) (i : Nat) : Nat := l.getD i 0
def stops (c : Nat) : Bool := c == 32 || c == 40 || c == 41
def opens (fs : List (List Nat)) : Bool := match fs.getLast? with
  | none => true
  | some t => t == [40]
/-- where the next token begins -/
def begN (l : List Nat) (i : Nat) (o : Bool) : Option Nat :=
  if o = true then (if sg l i = 32 then none else some i)
  else if sg l i = 41 then some i
  else if sg l i = 32 ∧ i + 1 < l.length ∧ sg l (i + 1) ≠ 32 ∧ sg l (i + 1) ≠ 41 then some (i + 1) else none
/-- how many signs follow that stop nothing -/
def runN (l : List Nat) (i : Nat) : Nat := ((l.drop i).takeWhile fun c => !stops c).length
/-- where the token that begins at b ends -/
def endN (l : List Nat) (b : Nat) : Nat := if sg l b = 40 ∨ sg l b = 41 then b + 1 else b + 1 + runN l (b + 1)
def tokN (l : List Nat) (b : Nat) : List Nat := (l.drop b).take (endN l b - b)
/-- the program's way through a line: tokens, the fault's number or 0 -/
def scanN (l : List Nat) : Nat → Nat → List (List Nat) → List (List Nat) × Nat
  | 0, _, fs => (fs, 0)
  | k + 1, i, fs => if i < l.length then
      match begN l i (opens fs) with
      | none => (fs, fs.length + 1)
      | some b => scanN l k (endN l b) (fs ++ [tokN l b])
    else (fs, 0)
/-- the law's way -/
def scanL (l : List Nat) : Nat → Nat → List (List Nat) → List (List Nat) × Nat
  | 0, _, fs => (fs, 0)
  | k + 1, i, fs => if i = l.length then (fs, 0) else if sg l i = 32 then (fs, fs.length + 1) else
      if tokN l i = [40] ∨ endN l i = l.length ∨ sg l (endN l i) = 41 then scanL l k (endN l i) (fs ++ [tokN l i])
      else if sg l (endN l i) ≠ 32 ∨ endN l i + 1 = l.length ∨ sg l (endN l i + 1) = 32 ∨ sg l (endN l i + 1) = 41 then (fs ++ [tokN l i], (fs ++ [tokN l i]).length + 1)
      else scanL l k (endN l i + 1) (fs ++ [tokN l i])
theorem runN_le {l : List Nat} {i : Nat} (h : i ≤ l.length) : i + runN l i ≤ l.length := by
  unfold runN
  have h1 := (List.takeWhile_prefix (p := fun c => !stops c) (l := l.drop i)).length_le
  rw [List.length_drop] at h1
  omega
theorem endN_le {l : List Nat} {b : Nat} (h : b < l.length) : b < endN l b ∧ endN l b ≤ l.length := by
  unfold endN
  have := runN_le (l := l) (i := b + 1) h
  split <;> omega
theorem opens_snoc {fs : List (List Nat)} {t : List Nat} : opens (fs ++ [t]) = (t == [40]) := by
  unfold opens
  rw [List.getLast?_append]
  rfl
theorem scan_same (l : List Nat) : ∀ (k at_ i : Nat) (fs : List (List Nat)), at_ ≤ l.length → l.length < k + at_ →
    ((at_ = i ∧ (opens fs = true ∨ at_ = l.length ∨ sg l at_ = 41)) ∨ (opens fs = false ∧ at_ = i + 1 ∧ i + 1 < l.length ∧ sg l i = 32 ∧ sg l (i + 1) ≠ 32 ∧ sg l (i + 1) ≠ 41)) → scanL l k at_ fs = scanN l k i fs := by
  intro k
  induction k with
  | zero => intro at_ i fs h1 h2; omega
  | succ k ih =>
    intro at_ i fs h1 h2 h
    have step : at_ < l.length → sg l at_ ≠ 32 → i < l.length → begN l i (opens fs) = some at_ → scanL l (k + 1) at_ fs = scanN l (k + 1) i fs := by
      intro g1 g2 g3 g4
      obtain ⟨e1, e2⟩ := endN_le g1
      unfold scanL scanN
      rw [if_neg (by omega), if_neg g2, if_pos g3, g4]
      show (if _ then _ else _) = scanN l k (endN l at_) (fs ++ [tokN l at_])
      by_cases c1 : tokN l at_ = [40] ∨ endN l at_ = l.length ∨ sg l (endN l at_) = 41
      · rw [if_pos c1]
        refine ih _ _ _ e2 (by omega) (.inl ⟨rfl, ?_⟩)
        rcases c1 with c | c
        · exact .inl (by rw [opens_snoc, c] <;> rfl)
        · exact .inr c
      · rw [if_neg c1]
        have n1 : tokN l at_ ≠ [40] := fun z => c1 (.inl z)
        have n2 : endN l at_ ≠ l.length := fun z => c1 (.inr (.inl z))
        have n3 : sg l (endN l at_) ≠ 41 := fun z => c1 (.inr (.inr z))
        have op : opens (fs ++ [tokN l at_]) = false := by
          rw [opens_snoc]
          exact beq_false_of_ne n1
        by_cases c2 : sg l (endN l at_) ≠ 32 ∨ endN l at_ + 1 = l.length ∨ sg l (endN l at_ + 1) = 32 ∨ sg l (endN l at_ + 1) = 41
        · rw [if_pos c2]
          match k, ih, h2 with
          | 0, _, h2 => omega
          | k + 1, _, _ =>
            unfold scanN
            rw [if_pos (by omega), op]
            have b0 : begN l (endN l at_) false = none := by
              unfold begN
              rw [if_neg (by decide), if_neg n3, if_neg]
              rintro ⟨z1, z2, z3, z4⟩
              rcases c2 with c | c | c | c
              · exact c z1
              · omega
              · exact z3 c
              · exact z4 c
            rw [b0]
        · rw [if_neg c2]
          refine ih _ _ _ (by omega) (by omega) (.inr ⟨op, rfl, ?_, ?_, ?_, ?_⟩)
          · by_cases z : endN l at_ + 1 < l.length
            · exact z
            · exact absurd (.inr (.inl (by omega))) c2
          · by_cases z : sg l (endN l at_) = 32
            · exact z
            · exact absurd (.inl z) c2
          · exact fun z => c2 (.inr (.inr (.inl z)))
          · exact fun z => c2 (.inr (.inr (.inr z)))
    rcases h with ⟨rfl, h⟩ | ⟨h, rfl, h3, h4, h5, h6⟩
    · by_cases hl : at_ = l.length
      · unfold scanL scanN
        rw [if_pos hl, if_neg (by omega)]
      · have hlt : at_ < l.length := by omega
        by_cases hs : sg l at_ = 32
        · unfold scanL scanN
          rw [if_neg hl, if_pos hs, if_pos hlt]
          have o : opens fs = true := by
            rcases h with h | h | h
            · exact h
            · exact absurd h hl
            · rw [hs] at h; cases h
          have : begN l at_ (opens fs) = none := by
            unfold begN
            rw [if_pos o, if_pos hs]
          rw [this]
        · refine step hlt hs hlt ?_
          unfold begN
          by_cases o : opens fs = true
          · rw [if_pos o, if_neg hs]
          · rw [if_neg o, if_pos (by
              rcases h with h | h | h
              · exact absurd h o
              · exact absurd h hl
              · exact h)]
    · refine step h3 h5 (by omega) ?_
      unfold begN
      rw [if_neg (by rw [h]; decide), if_neg (by rw [h4]; decide), if_pos ⟨h4, h3, h5, h6⟩]
def scan (l : List Nat) : List (List Nat) × Nat := scanN l (l.length + 1) 0 []
theorem scanL_eq (l : List Nat) : scanL l (l.length + 1) 0 [] = scan l := scan_same l _ _ _ _ (Nat.zero_le _) (by omega) (.inl ⟨rfl, .inl rfl⟩)
/-! ### numbers in words -/
def isDig (c : Nat) : Bool := decide (48 ≤ c) && decide (c ≤ 57)
def valN (t : List Nat) : Nat := t.foldl (fun a c => 10 * a + (c - 48)) 0
/-- the number that a token is -/
def numT (t : List Nat) : Option Nat := if t ≠ [] ∧ t.length ≤ 3 ∧ t.all isDig = true ∧ (sg t 0 = 48 → t.length = 1) then some (valN t) else none
/-! ### the program's way through the tokens: a value and the place behind it, or the fault -/
def parse (ts : List (List Nat)) : Nat → Nat → (T × Nat) ⊕ Nat
  | 0, p => match numT (ts.getD p []) with
    | some v => .inl (.n v, p + 1)
    | none => .inr (p + 1)
  | d + 1, p => if ts.getD p [] = [40] then
      match parse ts d (p + 1) with
      | .inr k => .inr k
      | .inl (a, q) => match parse ts d q with
        | .inr k => .inr k
        | .inl (b, r) => if ts.getD r [] = [41] then .inl (.p a b, r + 1) else .inr (r + 1)
    else match numT (ts.getD p []) with
      | some v => .inl (.n v, p + 1)
      | none => .inr (p + 1)
def readT (ts : List (List Nat)) : (T ⊕ Nat) := match parse ts 4 0 with
  | .inr k => .inr k
  | .inl (v, p) => if p = ts.length then .inl v else .inr (p + 1)
/-! ### the law's way: counts of parts, the newest first -/
def room (cs : List Nat) (done : Bool) : Bool := !done && (match cs with | [] => true | h :: _ => decide (h < 2))
/-- behind a closed part: the counts and whether all is done -/
def bump : List Nat → List Nat × Bool
  | [] => ([], true)
  | h :: r => ((h + 1) :: r, false)
/-- one token: the new state, or a fault -/
def stepF (t : List Nat) (cs : List Nat) (done : Bool) : Option (List Nat × Bool) :=
  if t = [40] ∧ room cs done = true ∧ cs.length < 4 then some (0 :: cs, done)
  else if t = [41] ∧ done = false ∧ cs ≠ [] ∧ cs.head? = some 2 then some (bump cs.tail)
  else if (numT t).isSome = true ∧ room cs done = true then some (bump cs)
  else none
def faultF (ts : List (List Nat)) : Nat → Nat → List Nat → Bool → Nat
  | 0, _, _, done => if done = true then 0 else ts.length + 1
  | k + 1, p, cs, done => match stepF (ts.getD p []) cs done with
    | some (cs', done') => faultF ts k (p + 1) cs' done'
    | none => p + 1
/-- from place p on -/
def from_ (ts : List (List Nat)) (p : Nat) (cs : List Nat) (done : Bool) : Nat := faultF ts (ts.length - p) p cs done
theorem from_end {ts : List (List Nat)} {p : Nat} {cs : List Nat} {done : Bool} (h : ts.length ≤ p) : from_ ts p cs done = if done = true then 0 else ts.length + 1 := by
  unfold from_
  rw [show ts.length - p = 0 by omega] <;> rfl
theorem from_step {ts : List (List Nat)} {p : Nat} {cs : List Nat} {done : Bool} (h : p < ts.length) : from_ ts p cs done = match stepF (ts.getD p []) cs done with
    | some (cs', done') => from_ ts (p + 1) cs' done'
    | none => p + 1 := by
  unfold from_
  obtain ⟨k, hk⟩ : ∃ k, ts.length - p = k + 1 := ⟨ts.length - p - 1, by omega⟩
  rw [hk, show ts.length - (p + 1) = k by omega]
  show (match stepF (ts.getD p []) cs done with | some (cs', done') => faultF ts k (p + 1) cs' done' | none => p + 1) = _
  cases stepF (ts.getD p []) cs done <;> rfl
theorem getD_ge {ts : List (List Nat)} {p : Nat} (h : ts.length ≤ p) : ts.getD p [] = [] := by
  rw [List.getD_eq_getElem?_getD, List.getElem?_eq_none_iff.mpr h] <;> rfl
theorem num_nil : numT [] = none := by decide
theorem num_open : numT [40] = none := by decide
theorem num_close : numT [41] = none := by decide
/-- a leaf -/
theorem leaf_run {ts : List (List Nat)} {p : Nat} {cs : List Nat} (hp : p ≤ ts.length) (hr : room cs false = true) (hn : ¬ (ts.getD p [] = [40] ∧ cs.length < 4)) :
    match numT (ts.getD p []) with
    | some v => p + 1 ≤ ts.length ∧ from_ ts p cs false = from_ ts (p + 1) (bump cs).1 (bump cs).2
    | none => from_ ts p cs false = p + 1 := by
  by_cases h : p < ts.length
  · rw [from_step h]
    have h2 : ¬ (ts.getD p [] = [41] ∧ false = false ∧ cs ≠ [] ∧ cs.head? = some 2) := by
      rintro ⟨_, _, z1, z2⟩
      cases cs with
      | nil => exact z1 rfl
      | cons a r =>
        have e : a = 2 := by simpa using z2
        subst e
        cases hr
    unfold stepF
    rw [if_neg (fun z => hn ⟨z.1, z.2.2⟩), if_neg h2]
    cases e : numT (ts.getD p []) with
    | some v =>
      rw [if_pos ⟨rfl, hr⟩]
      exact ⟨h, rfl⟩
    | none => rw [if_neg (fun z => Bool.noConfusion (show false = true from z.1))]
  · have e : p = ts.length := by omega
    rw [getD_ge (by omega), num_nil, from_end (by omega), e] <;> rfl
theorem run_parse (ts : List (List Nat)) : ∀ (d p : Nat) (cs : List Nat), p ≤ ts.length → d + cs.length = 4 → room cs false = true →
    match parse ts d p with
    | .inl (_, q) => p < q ∧ q ≤ ts.length ∧ from_ ts p cs false = from_ ts q (bump cs).1 (bump cs).2
    | .inr k => from_ ts p cs false = k ∧ 0 < k := by
  intro d
  induction d with
  | zero =>
    intro p cs hp hd hr
    have q := leaf_run hp hr fun z => by omega
    unfold parse
    cases e : numT (ts.getD p []) with
    | some v =>
      rw [e] at q
      exact ⟨Nat.lt_succ_self p, q.1, q.2⟩
    | none =>
      rw [e] at q
      exact ⟨q, Nat.succ_pos p⟩
  | succ d ih =>
    intro p cs hp hd hr
    unfold parse
    by_cases ho : ts.getD p [] = [40]
    · rw [if_pos ho]
      have hlt : p < ts.length := by
        by_cases z : p < ts.length
        · exact z
        · rw [getD_ge (by omega)] at ho; cases ho
      have e1 : from_ ts p cs false = from_ ts (p + 1) (0 :: cs) false := by
        rw [from_step hlt, ho]
        unfold stepF
        rw [if_pos ⟨rfl, hr, by omega⟩]
      have q1 := ih (p + 1) (0 :: cs) hlt (by rw [List.length_cons]; omega) rfl
      cases p1 : parse ts d (p + 1) with
      | inr k =>
        rw [p1] at q1
        exact ⟨e1.trans q1.1, q1.2⟩
      | inl aq =>
        obtain ⟨a, q⟩ := aq
        rw [p1] at q1
        obtain ⟨l1, l2, e2⟩ := q1
        have q2 := ih q (1 :: cs) l2 (by rw [List.length_cons]; omega) rfl
        dsimp only
        cases p2 : parse ts d q with
        | inr k =>
          rw [p2] at q2
          exact ⟨(e1.trans e2).trans q2.1, q2.2⟩
        | inl br =>
          obtain ⟨b, r⟩ := br
          rw [p2] at q2
          obtain ⟨l3, l4, e3⟩ := q2
          dsimp only
          have e4 : from_ ts p cs false = from_ ts r (2 :: cs) false := (e1.trans e2).trans e3
          by_cases hc : ts.getD r [] = [41]
          · rw [if_pos hc]
            have hlt2 : r < ts.length := by
              by_cases z : r < ts.length
              · exact z
              · rw [getD_ge (by omega)] at hc; cases hc
            refine ⟨by omega, hlt2, ?_⟩
            rw [e4, from_step hlt2, hc]
            unfold stepF
            rw [if_neg (by rintro ⟨z, _⟩; cases z), if_pos ⟨rfl, rfl, by simp, rfl⟩]
            rfl
          · rw [if_neg hc]
            refine ⟨?_, Nat.succ_pos r⟩
            rw [e4]
            by_cases z : r < ts.length
            · rw [from_step z]
              unfold stepF
              rw [if_neg (by rintro ⟨_, z2, _⟩; cases z2), if_neg (by rintro ⟨z1, _⟩; exact hc z1), if_neg (by rintro ⟨_, z2⟩; cases z2)]
            · rw [from_end (by omega)]
              show ts.length + 1 = r + 1
              omega
    · rw [if_neg ho]
      have q := leaf_run hp hr fun z => ho z.1
      cases e : numT (ts.getD p []) with
      | some v =>
        rw [e] at q
        exact ⟨Nat.lt_succ_self p, q.1, q.2⟩
      | none =>
        rw [e] at q
        exact ⟨q, Nat.succ_pos p⟩
/-- the law's fault is the program's -/
theorem fault_read (ts : List (List Nat)) : from_ ts 0 [] false = match readT ts with | .inl _ => 0 | .inr k => k := by
  have h := run_parse ts 4 0 [] (Nat.zero_le _) rfl rfl
  unfold readT
  cases e : parse ts 4 0 with
  | inr k =>
    rw [e] at h
    exact h.1
  | inl vq =>
    obtain ⟨v, q⟩ := vq
    rw [e] at h
    obtain ⟨_, l, e1⟩ := h
    rw [e1]
    dsimp only
    by_cases hq : q = ts.length
    · rw [if_pos hq, from_end (by omega)] <;> rfl
    · rw [if_neg hq, from_step (by omega)]
      unfold stepF
      rw [if_neg (by rintro ⟨_, z, _⟩; cases z), if_neg (by rintro ⟨_, z, _⟩; cases z), if_neg (by rintro ⟨_, z⟩; cases z)]
theorem read_pos (ts : List (List Nat)) {k : Nat} (h : readT ts = .inr k) : 0 < k := by
  have g := run_parse ts 4 0 [] (Nat.zero_le _) rfl rfl
  unfold readT at h
  cases e : parse ts 4 0 with
  | inr j =>
    rw [e] at g h
    cases h
    exact g.2
  | inl vq =>
    obtain ⟨v, q⟩ := vq
    rw [e] at h
    dsimp only at h
    split at h
    · cases h
    · cases h
      exact Nat.succ_pos _
/-! ### numbers as words -/
def digs (i : Int) : List Nat := (Str.ofString (toString i)).cps.toList
theorem dig1 : ((List.range 10).all fun a => digs (valN [48 + a] : Nat) == [48 + a]) = true := by decide +kernel
theorem dig2 : ((List.range 9).all fun a => (List.range 10).all fun b => digs (valN [49 + a, 48 + b] : Nat) == [49 + a, 48 + b]) = true := by decide +kernel
theorem dig3 : ((List.range 9).all fun a => (List.range 10).all fun b => (List.range 10).all fun c => digs (valN [49 + a, 48 + b, 48 + c] : Nat) == [49 + a, 48 + b, 48 + c]) = true := by decide +kernel
theorem all_range {n : Nat} {p : Nat → Bool} (h : (List.range n).all p = true) {i : Nat} (hi : i < n) : p i = true := List.all_eq_true.mp h i (List.mem_range.mpr hi)
theorem numT_some {t : List Nat} {v : Nat} (h : numT t = some v) : digs (v : Nat) = t ∧ v < 1000 := by
  unfold numT at h
  split at h
  · rename_i hc
    obtain ⟨h1, h2, h3, h4⟩ := hc
    injection h with h
    subst h
    have dg : ∀ c ∈ t, 48 ≤ c ∧ c ≤ 57 := fun c hm => by
      have := List.all_eq_true.mp h3 c hm
      unfold isDig at this
      rw [Bool.and_eq_true, decide_eq_true_iff, decide_eq_true_iff] at this
      exact this
    match t, h1, h2, h4, dg with
    | [a], _, _, _, dg =>
      have ha := dg a (by simp)
      obtain ⟨x, rfl⟩ : ∃ x, a = 48 + x := ⟨a - 48, by omega⟩
      refine ⟨eq_of_beq (all_range dig1 (by omega)), ?_⟩
      show 10 * 0 + (48 + x - 48) < 1000
      omega
    | [a, b], _, _, h4, dg =>
      have ha := dg a (by simp)
      have hb := dg b (by simp)
      have hz : a ≠ 48 := fun z => by
        have := h4 z
        cases this
      obtain ⟨x, rfl⟩ : ∃ x, a = 49 + x := ⟨a - 49, by omega⟩
      obtain ⟨y, rfl⟩ : ∃ y, b = 48 + y := ⟨b - 48, by omega⟩
      refine ⟨eq_of_beq (all_range (all_range dig2 (i := x) (by omega)) (by omega)), ?_⟩
      show 10 * (10 * 0 + (49 + x - 48)) + (48 + y - 48) < 1000
      omega
    | [a, b, c], _, _, h4, dg =>
      have ha := dg a (by simp)
      have hb := dg b (by simp)
      have hc := dg c (by simp)
      have hz : a ≠ 48 := fun z => by
        have := h4 z
        cases this
      obtain ⟨x, rfl⟩ : ∃ x, a = 49 + x := ⟨a - 49, by omega⟩
      obtain ⟨y, rfl⟩ : ∃ y, b = 48 + y := ⟨b - 48, by omega⟩
      obtain ⟨z, rfl⟩ : ∃ z, c = 48 + z := ⟨c - 48, by omega⟩
      refine ⟨eq_of_beq (all_range (all_range (all_range dig3 (i := x) (by omega)) (i := y) (by omega)) (by omega)), ?_⟩
      show 10 * (10 * (10 * 0 + (49 + x - 48)) + (48 + y - 48)) + (48 + z - 48) < 1000
      omega
    | [], h1, _, _, _ => exact absurd rfl h1
    | _ :: _ :: _ :: _ :: _, _, h2, _, _ => simp at h2
  · cases h
theorem digs_free (i : Int) : ∀ c ∈ digs i, stops c = false := by
  intro c hc
  have n1 : c ≠ 32 := fun z => by subst z; exact int_text_free' 32 ⟨by decide, by decide⟩ i hc
  have n2 : c ≠ 40 := fun z => by subst z; exact int_text_free' 40 ⟨by decide, by decide⟩ i hc
  have n3 : c ≠ 41 := fun z => by subst z; exact int_text_free' 41 ⟨by decide, by decide⟩ i hc
  unfold stops
  simp [n1, n2, n3]
theorem str_of_toList {x y : Str} (h : x.cps.toList = y.cps.toList) : x = y := by
  obtain ⟨a⟩ := x
  obtain ⟨b⟩ := y
  have : a = b := Array.toList_inj.mp h
  rw [this]
theorem digs_inj {i j : Int} (hi : 0 ≤ i ∧ i < 10 ^ 10) (hj : 0 ≤ j ∧ j < 10 ^ 10) (h : digs i = digs j) : i = j := by
  have e := str_of_toList (x := Str.ofString (toString i)) (y := Str.ofString (toString j)) h
  have r1 := PySem.W.KIN.num_reads hi.1 hi.2
  have r2 := PySem.W.KIN.num_reads hj.1 hj.2
  rw [e, r2] at r1
  exact (Option.some.inj r1).symm
theorem digs_ne {i : Int} (hi : 0 ≤ i) : digs i ≠ [] := by
  intro z
  have h := PySem.W.KLn.one_le hi
  have : (Str.ofString (toString i)).length = (digs i).length := by
    unfold digs
    rw [Array.length_toList] <;> rfl
  rw [this, z] at h
  simp at h
/-! ### values as tokens, as words -/
def textT : T → List Nat
  | .n i => digs i
  | .p a b => 40 :: (textT a ++ 32 :: (textT b ++ [41]))
def toksT : T → List (List Nat)
  | .n i => [digs i]
  | .p a b => [40] :: (toksT a ++ (toksT b ++ [[41]]))
/-- every number from 0 to below m -/
def Below (m : Int) : T → Prop
  | .n i => 0 ≤ i ∧ i < m
  | .p a b => Below m a ∧ Below m b
/-- a line put together from tokens, behind a token -/
def joinW : Option (List Nat) → List (List Nat) → List Nat
  | _, [] => []
  | pr, t :: r => (if pr = none ∨ pr = some [40] ∨ t = [41] then [] else [32]) ++ (t ++ joinW (some t) r)
theorem parse_toks (ts : List (List Nat)) : ∀ (d p : Nat) (v : T) (q : Nat), parse ts d p = .inl (v, q) → ts.drop p = toksT v ++ ts.drop q ∧ Below 1000 v ∧ v.dep ≤ d := by
  have leaf : ∀ (p : Nat) (v : Nat) (x : T) (q : Nat), numT (ts.getD p []) = some v → (T.n (v : Nat), p + 1) = (x, q) → ts.drop p = toksT x ++ ts.drop q ∧ Below 1000 x ∧ x.dep = 0 := by
    rintro p v x q h e
    cases e
    have hl : p < ts.length := by
      by_cases z : p < ts.length
      · exact z
      · rw [getD_ge (by omega), num_nil] at h; cases h
    obtain ⟨h1, h2⟩ := numT_some h
    refine ⟨?_, ⟨by omega, by omega⟩, rfl⟩
    rw [List.drop_eq_getElem_cons hl]
    show _ = [digs (v : Nat)] ++ _
    rw [h1, List.getD_eq_getElem?_getD, List.getElem?_eq_getElem hl] <;> rfl
  intro d
  induction d with
  | zero =>
    intro p v q h
    unfold parse at h
    cases e : numT (ts.getD p []) with
    | none => rw [e] at h; cases h
    | some x =>
      rw [e] at h
      obtain ⟨h1, h2, h3⟩ := leaf p x v q e (Sum.inl.inj h)
      exact ⟨h1, h2, by omega⟩
  | succ d ih =>
    intro p v q h
    unfold parse at h
    by_cases ho : ts.getD p [] = [40]
    · rw [if_pos ho] at h
      cases p1 : parse ts d (p + 1) with
      | inr k => rw [p1] at h; cases h
      | inl aq =>
        obtain ⟨a, q1⟩ := aq
        rw [p1] at h
        dsimp only at h
        cases p2 : parse ts d q1 with
        | inr k => rw [p2] at h; cases h
        | inl br =>
          obtain ⟨b, r⟩ := br
          rw [p2] at h
          dsimp only at h
          by_cases hc : ts.getD r [] = [41]
          · rw [if_pos hc] at h
            injection h with h
            cases h
            obtain ⟨a1, a2, a3⟩ := ih _ _ _ p1
            obtain ⟨b1, b2, b3⟩ := ih _ _ _ p2
            have at_ : ∀ (i : Nat) (t : List Nat), t ≠ [] → ts.getD i [] = t → ts.drop i = t :: ts.drop (i + 1) := fun i t hn e => by
              have hl : i < ts.length := by
                by_cases z : i < ts.length
                · exact z
                · rw [getD_ge (by omega)] at e; exact absurd e.symm hn
              rw [List.drop_eq_getElem_cons hl, ← e, List.getD_eq_getElem?_getD, List.getElem?_eq_getElem hl] <;> rfl
            refine ⟨?_, ⟨a2, b2⟩, ?_⟩
            · rw [at_ p _ (by simp) ho, a1, b1, at_ r _ (by simp) hc]
              show _ = [40] :: (toksT a ++ (toksT b ++ [[41]])) ++ _
              simp
            · show 1 + max a.dep b.dep ≤ d + 1
              omega
          · rw [if_neg hc] at h; cases h
    · rw [if_neg ho] at h
      cases e : numT (ts.getD p []) with
      | none => rw [e] at h; cases h
      | some x =>
        rw [e] at h
        obtain ⟨h1, h2, h3⟩ := leaf p x v q e (Sum.inl.inj h)
        exact ⟨h1, h2, by omega⟩
theorem join_toks : ∀ (v : T) (pr : Option (List Nat)) (rest : List (List Nat)), ∃ la, la ≠ [40] ∧ joinW pr (toksT v ++ rest) = (if pr = none ∨ pr = some [40] then [] else [32]) ++ (textT v ++ joinW (some la) rest) := by
  intro v
  induction v with
  | n i =>
    intro pr rest
    have n1 : digs i ≠ [41] := fun z => by
      have := digs_free i 41 (by rw [z]; simp)
      cases this
    have n2 : digs i ≠ [40] := fun z => by
      have := digs_free i 40 (by rw [z]; simp)
      cases this
    refine ⟨digs i, n2, ?_⟩
    show (if pr = none ∨ pr = some [40] ∨ digs i = [41] then [] else [32]) ++ _ = _
    have : (pr = none ∨ pr = some [40] ∨ digs i = [41]) ↔ (pr = none ∨ pr = some [40]) := by
      constructor
      · rintro (h | h | h)
        · exact .inl h
        · exact .inr h
        · exact absurd h n1
      · rintro (h | h)
        · exact .inl h
        · exact .inr (.inl h)
    simp only [this]
    rfl
  | p a b iha ihb =>
    intro pr rest
    obtain ⟨la, ha, ea⟩ := iha (some [40]) (toksT b ++ ([41] :: rest))
    obtain ⟨lb, hb, eb⟩ := ihb (some la) ([41] :: rest)
    rw [if_pos (.inr rfl), List.nil_append] at ea
    have nla : ¬ (some la = none ∨ some la = some [40]) := by
      rintro (z | z)
      · cases z
      · exact ha (Option.some.inj z)
    rw [if_neg nla] at eb
    refine ⟨[41], by decide, ?_⟩
    have e0 : toksT (.p a b) ++ rest = [40] :: (toksT a ++ (toksT b ++ ([41] :: rest))) := by
      show [40] :: (toksT a ++ (toksT b ++ [[41]])) ++ rest = _
      simp
    rw [e0]
    show (if pr = none ∨ pr = some [40] ∨ [40] = [41] then [] else [32]) ++ ([40] ++ joinW (some [40]) (toksT a ++ (toksT b ++ ([41] :: rest)))) = _
    rw [ea, eb]
    have e1 : joinW (some lb) ([41] :: rest) = [41] ++ joinW (some [41]) rest := by
      show (if some lb = none ∨ some lb = some [40] ∨ [41] = [41] then [] else [32]) ++ _ = _
      rw [if_pos (.inr (.inr rfl)), List.nil_append]
    rw [e1]
    have : (pr = none ∨ pr = some [40] ∨ ([40] : List Nat) = [41]) ↔ (pr = none ∨ pr = some [40]) := by
      constructor
      · rintro (h | h | h)
        · exact .inl h
        · exact .inr h
        · cases h
      · rintro (h | h)
        · exact .inl h
        · exact .inr (.inl h)
    simp only [this]
    show _ = _ ++ ((40 :: (textT a ++ 32 :: (textT b ++ [41]))) ++ _)
    simp
/-! ### a line without fault is its tokens put together -/
theorem drop_sg {l : List Nat} {i : Nat} (h : i < l.length) : l.drop i = sg l i :: l.drop (i + 1) := by
  rw [List.drop_eq_getElem_cons h]
  unfold sg
  rw [List.getD_eq_getElem?_getD, List.getElem?_eq_getElem h] <;> rfl
theorem tok_drop {l : List Nat} {b : Nat} (h : b < l.length) : l.drop b = tokN l b ++ l.drop (endN l b) := by
  have e := (endN_le h).1
  unfold tokN
  have := (List.take_append_drop (endN l b - b) (l.drop b)).symm
  rw [List.drop_drop, show b + (endN l b - b) = endN l b by omega] at this
  exact this
theorem tok_close {l : List Nat} {b : Nat} (h : b < l.length) (hc : sg l b = 41) : tokN l b = [41] := by
  unfold tokN endN
  rw [if_pos (.inr hc), show b + 1 - b = 1 by omega, drop_sg h, hc] <;> rfl
theorem tok_head {l : List Nat} {b : Nat} (h : b < l.length) : ∃ r, tokN l b = sg l b :: r := by
  have e := (endN_le h).1
  unfold tokN
  obtain ⟨k, hk⟩ : ∃ k, endN l b - b = k + 1 := ⟨endN l b - b - 1, by omega⟩
  rw [hk, drop_sg h]
  exact ⟨_, rfl⟩
theorem scan_join (l : List Nat) : ∀ (k i : Nat) (fs ts : List (List Nat)), i ≤ l.length → l.length < k + i → scanN l k i fs = (ts, 0) → ∃ more, ts = fs ++ more ∧ l.drop i = joinW fs.getLast? more := by
  intro k
  induction k with
  | zero => intro i fs ts h1 h2; omega
  | succ k ih =>
    intro i fs ts h1 h2 h
    unfold scanN at h
    by_cases hi : i < l.length
    · rw [if_pos hi] at h
      cases hb : begN l i (opens fs) with
      | none =>
        rw [hb] at h
        have := congrArg Prod.snd h
        cases this
      | some b =>
        rw [hb] at h
        have key : i ≤ b ∧ b < l.length ∧ l.drop i = (if fs.getLast? = none ∨ fs.getLast? = some [40] ∨ tokN l b = [41] then [] else [32]) ++ l.drop b := by
          unfold begN at hb
          by_cases o : opens fs = true
          · rw [if_pos o] at hb
            split at hb
            · cases hb
            · cases hb
              refine ⟨Nat.le_refl _, hi, ?_⟩
              have : fs.getLast? = none ∨ fs.getLast? = some [40] := by
                unfold opens at o
                cases hg : fs.getLast? with
                | none => exact .inl rfl
                | some t =>
                  rw [hg] at o
                  exact .inr (by rw [eq_of_beq o])
              rw [if_pos (by rcases this with z | z; exact .inl z; exact .inr (.inl z)), List.nil_append]
          · rw [if_neg o] at hb
            by_cases c : sg l i = 41
            · rw [if_pos c] at hb
              cases hb
              exact ⟨Nat.le_refl _, hi, by rw [if_pos (.inr (.inr (tok_close hi c))), List.nil_append]⟩
            · rw [if_neg c] at hb
              split at hb
              · rename_i hc
                cases hb
                obtain ⟨h3, h4, h5, h6⟩ := hc
                refine ⟨by omega, h4, ?_⟩
                have n : ¬ (fs.getLast? = none ∨ fs.getLast? = some [40] ∨ tokN l (i + 1) = [41]) := by
                  rintro (z | z | z)
                  · exact o (by unfold opens; rw [z])
                  · exact o (by unfold opens; rw [z] <;> rfl)
                  · obtain ⟨r, hr⟩ := tok_head h4
                    rw [z] at hr
                    exact h6 (List.cons.inj hr).1.symm
                rw [if_neg n, drop_sg hi, h3] <;> rfl
              · cases hb
        obtain ⟨k1, k2, k3⟩ := key
        obtain ⟨e1, e2⟩ := endN_le k2
        obtain ⟨more, m1, m2⟩ := ih _ _ _ e2 (by omega) h
        refine ⟨tokN l b :: more, by rw [m1, List.append_assoc] <;> rfl, ?_⟩
        rw [k3, tok_drop k2, m2, List.getLast?_append]
        rfl
    · rw [if_neg hi] at h
      cases h
      refine ⟨[], by simp, ?_⟩
      rw [List.drop_eq_nil_of_le (by omega)]
      rfl
/-- what the program reads is what the line says -/
theorem read_text {l : List Nat} {v : T} (h0 : (scan l).2 = 0) (h : readT (scan l).1 = .inl v) : textT v = l ∧ Below 1000 v ∧ v.dep ≤ 4 := by
  unfold readT at h
  cases e : parse (scan l).1 4 0 with
  | inr k => rw [e] at h; cases h
  | inl vq =>
    obtain ⟨w, q⟩ := vq
    rw [e] at h
    dsimp only at h
    split at h
    · rename_i hq
      cases h
      obtain ⟨h1, h2, h3⟩ := parse_toks _ _ _ _ _ e
      rw [List.drop_zero, hq, List.drop_length, List.append_nil] at h1
      have es : scanN l (l.length + 1) 0 [] = ((scan l).1, 0) := by
        show scan l = _
        rw [← h0]
      obtain ⟨more, m1, m2⟩ := scan_join l _ _ _ _ (Nat.zero_le _) (by omega) es
      rw [List.nil_append] at m1
      rw [← m1, h1, List.drop_zero] at m2
      obtain ⟨la, _, hj⟩ := join_toks v none []
      rw [List.append_nil, if_pos (.inl rfl), List.nil_append] at hj
      have j0 : joinW (some la) [] = [] := rfl
      rw [j0, List.append_nil] at hj
      refine ⟨?_, h2, h3⟩
      rw [m2]
      exact hj.symm
    · cases h
/-! ### a text belongs to one value -/
/-- nothing, or a sign that stops a number -/
def Ends (x : List Nat) : Prop := x = [] ∨ ∃ c r, x = c :: r ∧ stops c = true
theorem split_free {u w x y : List Nat} (hu : ∀ c ∈ u, stops c = false) (hw : ∀ c ∈ w, stops c = false) (hx : Ends x) (hy : Ends y) (h : u ++ x = w ++ y) : u = w ∧ x = y := by
  induction u generalizing w with
  | nil =>
    cases w with
    | nil => exact ⟨rfl, h⟩
    | cons d w =>
      rcases hx with hx | ⟨c, r, hx, hc⟩
      · rw [hx] at h; cases h
      · rw [hx] at h
        have e : c = d := (List.cons.inj h).1
        have := hw d (by simp)
        rw [← e, hc] at this
        cases this
  | cons c u ih =>
    cases w with
    | nil =>
      rcases hy with hy | ⟨d, r, hy, hd⟩
      · rw [hy] at h; cases h
      · rw [hy] at h
        have e : c = d := (List.cons.inj h).1
        have := hu c (by simp)
        rw [e, hd] at this
        cases this
    | cons d w =>
      obtain ⟨e1, e2⟩ := List.cons.inj h
      obtain ⟨e3, e4⟩ := ih (fun z hz => hu z (List.mem_cons_of_mem _ hz)) (fun z hz => hw z (List.mem_cons_of_mem _ hz)) e2
      exact ⟨by rw [e1, e3], e4⟩
theorem text_split : ∀ (a b : T) (x y : List Nat), Below (10 ^ 10) a → Below (10 ^ 10) b → Ends x → Ends y → textT a ++ x = textT b ++ y → a = b ∧ x = y := by
  have numpair : ∀ (i : Int) (c d : T) (x y : List Nat), 0 ≤ i → textT (.n i) ++ x = textT (.p c d) ++ y → False := by
    intro i c d x y hi h
    have hn := digs_ne hi
    have h' : digs i ++ x = 40 :: ((textT c ++ 32 :: (textT d ++ [41])) ++ y) := h
    cases e : digs i with
    | nil => exact hn e
    | cons z r =>
      rw [e] at h'
      have e2 : z = 40 := (List.cons.inj h').1
      have := digs_free i z (by rw [e]; simp)
      rw [e2] at this
      cases this
  intro a
  induction a with
  | n i =>
    intro b x y ha hb hx hy h
    cases b with
    | n j =>
      obtain ⟨e1, e2⟩ := split_free (digs_free i) (digs_free j) hx hy h
      exact ⟨by rw [digs_inj ha hb e1], e2⟩
    | p c d => exact (numpair i c d x y ha.1 h).elim
  | p a1 a2 ih1 ih2 =>
    intro b x y ha hb hx hy h
    cases b with
    | n j => exact (numpair j a1 a2 y x hb.1 h.symm).elim
    | p b1 b2 =>
      have h' : 40 :: (textT a1 ++ (32 :: (textT a2 ++ (41 :: x)))) = 40 :: (textT b1 ++ (32 :: (textT b2 ++ (41 :: y)))) := by
        have e1 : textT (.p a1 a2) ++ x = 40 :: (textT a1 ++ (32 :: (textT a2 ++ (41 :: x)))) := by
          show 40 :: (textT a1 ++ 32 :: (textT a2 ++ [41])) ++ x = _
          simp
        have e2 : textT (.p b1 b2) ++ y = 40 :: (textT b1 ++ (32 :: (textT b2 ++ (41 :: y)))) := by
          show 40 :: (textT b1 ++ 32 :: (textT b2 ++ [41])) ++ y = _
          simp
        rw [← e1, ← e2, h]
      obtain ⟨_, h1⟩ := List.cons.inj h'
      obtain ⟨e1, h2⟩ := ih1 b1 _ _ ha.1 hb.1 (.inr ⟨32, _, rfl, rfl⟩) (.inr ⟨32, _, rfl, rfl⟩) h1
      obtain ⟨_, h3⟩ := List.cons.inj h2
      obtain ⟨e2, h4⟩ := ih2 b2 _ _ ha.2 hb.2 (.inr ⟨41, _, rfl, rfl⟩) (.inr ⟨41, _, rfl, rfl⟩) h3
      exact ⟨by rw [e1, e2], (List.cons.inj h4).2⟩
theorem Below.mono {m k : Int} (h : m ≤ k) : ∀ {t : T}, Below m t → Below k t
  | .n _, hb => ⟨hb.1, by have := hb.2; omega⟩
  | .p _ _, hb => ⟨hb.1.mono h, hb.2.mono h⟩
theorem text_inj {a b : T} (ha : Below (10 ^ 10) a) (hb : Below (10 ^ 10) b) (h : textT a = textT b) : a = b :=
  (text_split a b [] [] ha hb (.inl rfl) (.inl rfl) (by rw [h])).1
end My

set_option Elab.async false
set_option linter.all false
set_option maxRecDepth 100000
set_option maxHeartbeats 4000000
namespace My
open PySem PySem.Spec PyProof.Rows L2 DL
open Evl (Ex)
structure Cs where
  DeedsError : Addr
  TextError : Addr
  Line : Addr
/-! ### texts as data -/
def st (l : List Nat) : Str := ⟨l.toArray⟩
def W (l : List Nat) : D := .str (st l)
/-- the longest line there is here -/
abbrev BL : Nat := 2000000
theorem st_len (l : List Nat) : (st l).length = l.length := List.size_toArray
theorem st_list (l : List Nat) : (st l).cps.toList = l := rfl
theorem BL_size : BL + 10 ≤ sizeLine := by rw [sizeLine_eq]; decide
theorem st_sz {l : List Nat} (h : l.length ≤ BL) : (st l).length ≤ sizeLine := by
  rw [st_len]
  have := BL_size
  omega
theorem W_sz {l : List Nat} (h : l.length ≤ BL) : (st l).length ≤ sizeLine := st_sz h
theorem st_inj {u w : List Nat} (h : st u = st w) : u = w := by
  have := congrArg (fun s => s.cps.toList) h
  exact this
theorem lit {s : String} {w : List Nat} (h : (Str.ofString s).cps.toList = w) : Str.ofString s = st w := str_of_toList h
theorem l_sp : Str.ofString " " = st [32] := lit (by decide +kernel)
theorem l_op : Str.ofString "(" = st [40] := lit (by decide +kernel)
theorem l_cl : Str.ofString ")" = st [41] := lit (by decide +kernel)
theorem l_no : Str.ofString "" = st [] := lit (by decide +kernel)
theorem l_0 : Str.ofString "0" = st [48] := lit (by decide +kernel)
theorem c_sp : (Str.ofString " ()").cps.toList = [32, 40, 41] := by decide +kernel
theorem c_op : (Str.ofString "()").cps.toList = [40, 41] := by decide +kernel
theorem c_cl : (Str.ofString " )").cps.toList = [32, 41] := by decide +kernel
/-- == of words, told by their signs -/
theorem eqT {u w : List Nat} {s : Str} (hs : s = st w) (h : decide (st u = s) = true) : u = w := st_inj ((of_decide_eq_true h).trans hs)
theorem eqF {u w : List Nat} {s : Str} (hs : s = st w) (h : decide (st u = s) = false) : u ≠ w := fun e => of_decide_eq_false h (by rw [hs, e])
theorem ix_sg {l : List Nat} {i : Nat} (h : i < l.length) : atI l (i : Int) = some (sg l i) := atI_nat (by
  unfold sg
  rw [List.getD_eq_getElem?_getD, List.getElem?_eq_getElem h] <;> rfl)
/-! ### the promises -/
def WS (ts : List (List Nat)) : List D := ts.map W
def TokOk (ts : List (List Nat)) : Prop := ts.length ≤ BL ∧ ∀ t ∈ ts, t.length ≤ BL
def numI (t : List Nat) : Int := match numT t with
  | some v => (v : Nat)
  | none => -1
def S_token_begin (cs : Cs) : DSp := fun ds M Φ _ => ∃ (l : List Nat) (i : Nat) (p : Addr) (fs : List (List Nat)), ds = [W l, .int (i : Nat), .ref p] ∧ M p = some (.lst (WS fs)) ∧ i < l.length ∧ l.length ≤ BL ∧
  (∀ b : Nat, begN l i (opens fs) = some b → Φ (.int (b : Nat)) M) ∧ (begN l i (opens fs) = none → Φ (.int (-1)) M)
def S_token_end (cs : Cs) : DSp := fun ds M Φ _ => ∃ (l : List Nat) (b : Nat), ds = [W l, .int (b : Nat)] ∧ b < l.length ∧ l.length ≤ BL ∧ Φ (.int (endN l b : Nat)) M
def errD (k : Nat) (n : Int) : List (Str × D) := [("token", .int (k : Nat)), ("line", .int n)]
def S_tokens_of (cs : Cs) : DSp := fun ds M Φ Ψ => ∃ (l : List Nat) (n : Int), ds = [W l, .int n] ∧ l.length ≤ BL ∧
  ((scan l).2 = 0 → ∀ p, M p = none → Φ (.ref p) (updM M p (.lst (WS (scan l).1)))) ∧ ((scan l).2 ≠ 0 → ∀ M', Ψ cs.TextError (errD (scan l).2 n) M')
def digsOk (t : List Nat) : Bool := decide (t ≠ []) && t.all isDig
def S_is_digits (cs : Cs) : DSp := fun ds M Φ _ => ∃ t : List Nat, ds = [W t] ∧ Φ (.bl (digsOk t)) M
def S_whole_in (cs : Cs) : DSp := fun ds M Φ _ => ∃ t : List Nat, ds = [W t, .int 3] ∧ t.length ≤ BL ∧ Φ (.int (numI t)) M
def S_number_in (cs : Cs) : DSp := fun ds M Φ _ => ∃ t : List Nat, ds = [W t] ∧ t.length ≤ BL ∧ Φ (.int (numI t)) M
def lowOk (t : List Nat) : Bool := t.all fun c => decide (97 ≤ c) && decide (c ≤ 122)
def nameOk (t : List Nat) : Bool := decide (1 ≤ t.length) && decide (t.length ≤ 6) && lowOk t
def S_is_name (cs : Cs) : DSp := fun ds M Φ _ => ∃ t : List Nat, ds = [W t] ∧ t.length ≤ BL ∧ Φ (.bl (nameOk t)) M
/-- a Line at s that stands at place i -/
structure LineAt (cs : Cs) (M : Mem) (s q : Addr) (ts : List (List Nat)) (n : Int) (i : Nat) : Prop where
  obj : M s = some (.ins cs.Line [("tokens", .ref q), ("number", .int n), ("place", .int (i : Nat))])
  lst : M q = some (.lst (WS ts))
  ne : q ≠ s
  ok : TokOk ts
def S_Line_init (cs : Cs) : DSp := fun ds M Φ Ψ => ∃ (s : Addr) (l : List Nat) (n : Int), ds = [.ref s, W l, .int n] ∧ M s = some (.ins cs.Line []) ∧ l.length ≤ BL ∧
  ((scan l).2 = 0 → ∀ q M', LineAt cs M' s q (scan l).1 n 0 → Φ .non M') ∧ ((scan l).2 ≠ 0 → ∀ M', Ψ cs.TextError (errD (scan l).2 n) M')
def S_Line_here (cs : Cs) : DSp := fun ds M Φ _ => ∃ (s q : Addr) (ts : List (List Nat)) (n : Int) (i : Nat), ds = [.ref s] ∧ LineAt cs M s q ts n i ∧ Φ (W (ts.getD i [])) M
def S_Line_need (cs : Cs) : DSp := fun ds M Φ Ψ => ∃ (s q : Addr) (ts : List (List Nat)) (n : Int) (i : Nat) (b : Bool), ds = [.ref s, .bl b] ∧ LineAt cs M s q ts n i ∧ (b = true → Φ .non M) ∧ (b = false → ∀ M', Ψ cs.TextError (errD (i + 1) n) M')
def S_Line_take (cs : Cs) : DSp := fun ds M Φ Ψ => ∃ (s q : Addr) (ts : List (List Nat)) (n : Int) (i : Nat) (b : Bool), ds = [.ref s, .bl b] ∧ LineAt cs M s q ts n i ∧
  (b = true → ∀ M', LineAt cs M' s q ts n (i + 1) → Φ (W (ts.getD i [])) M') ∧ (b = false → ∀ M', Ψ cs.TextError (errD (i + 1) n) M')
def S_Line_mark (cs : Cs) : DSp := fun ds M Φ Ψ => ∃ (s q : Addr) (ts : List (List Nat)) (n : Int) (i : Nat) (g : List Nat), ds = [.ref s, W g] ∧ LineAt cs M s q ts n i ∧
  (ts.getD i [] = g → ∀ M', LineAt cs M' s q ts n (i + 1) → Φ .non M') ∧ (ts.getD i [] ≠ g → ∀ M', Ψ cs.TextError (errD (i + 1) n) M')
def S_Line_whole (cs : Cs) : DSp := fun ds M Φ Ψ => ∃ (s q : Addr) (ts : List (List Nat)) (n : Int) (i : Nat), ds = [.ref s, .int 3] ∧ LineAt cs M s q ts n i ∧
  (∀ v, numT (ts.getD i []) = some v → ∀ M', LineAt cs M' s q ts n (i + 1) → Φ (.int (v : Nat)) M') ∧ (numT (ts.getD i []) = none → ∀ M', Ψ cs.TextError (errD (i + 1) n) M')
def S_Line_name (cs : Cs) : DSp := fun _ _ _ _ => False
def S_Line_finish (cs : Cs) : DSp := fun ds M Φ Ψ => ∃ (s q : Addr) (ts : List (List Nat)) (n : Int) (i : Nat), ds = [.ref s] ∧ LineAt cs M s q ts n i ∧ (i = ts.length → Φ .non M) ∧ (i ≠ ts.length → ∀ M', Ψ cs.TextError (errD (i + 1) n) M')
def S_value_text (cs : Cs) (n : Nat) : DSp := fun ds M Φ _ => ∃ t : T, ds = [t.D] ∧ t.dep < n ∧ n ≤ 20 ∧ t.dep ≤ 10 ∧ Below 10000 t ∧ Φ (W (textT t)) M
def S_value_in (cs : Cs) (n : Nat) : DSp := fun ds M Φ Ψ => ∃ (s q : Addr) (ts : List (List Nat)) (nn : Int) (i d : Nat), ds = [.ref s, .int (d : Nat)] ∧ d < n ∧ n ≤ 50 ∧ LineAt cs M s q ts nn i ∧
  (∀ v j, parse ts d i = .inl (v, j) → ∀ M', LineAt cs M' s q ts nn j → Φ v.D M') ∧ (∀ k, parse ts d i = .inr k → ∀ M', Ψ cs.TextError (errD k nn) M')
def S_last_value_in (cs : Cs) : DSp := fun ds M Φ Ψ => ∃ (s q : Addr) (ts : List (List Nat)) (nn : Int), ds = [.ref s] ∧ LineAt cs M s q ts nn 0 ∧ (∀ v, readT ts = .inl v → ∀ M', Φ v.D M') ∧ (∀ k, readT ts = .inr k → ∀ M', Ψ cs.TextError (errD k nn) M')
def readL (l : List Nat) : T ⊕ Nat := if (scan l).2 = 0 then readT (scan l).1 else .inr (scan l).2
def S_read_value (cs : Cs) : DSp := fun ds M Φ Ψ => ∃ l : List Nat, ds = [W l] ∧ l.length ≤ BL ∧ (∀ v, readL l = .inl v → ∀ M', Φ v.D M') ∧ (∀ k, readL l = .inr k → ∀ M', Ψ cs.TextError (errD k 1) M')
def S_is_value_text (cs : Cs) : DSp := fun ds M Φ _ => ∃ l : List Nat, ds = [W l] ∧ l.length ≤ BL ∧ (∀ v, readL l = .inl v → ∀ M', Φ (.bl true) M') ∧ (∀ k, readL l = .inr k → ∀ M', Φ (.bl false) M')
def S_wall (cs : Cs) : DSp := fun _ _ _ _ => False
def S_Line_below (cs : Cs) : DSp := fun _ _ _ _ => False
def S_law_is_integer (cs : Cs) : DSp := fun ds M Φ _ => ∃ i : Int, ds = [.int i] ∧ Φ (.bl true) M
def S_law_scan (cs : Cs) : DSp := fun ds M Φ _ => ∃ l : List Nat, ds = [W l] ∧ l.length ≤ BL ∧ ∀ p, M p = none → Φ (.tup [.ref p, .int ((scan l).2 : Nat)]) (updM M p (.lst (WS (scan l).1)))
def S_law_word (cs : Cs) : DSp := fun ds M Φ _ => ∃ r : Int, ds = [.lst [.int r]] ∧ 0 ≤ r ∧ ∀ w : List Nat, w.length ≤ 10 → (∀ c ∈ w, c < 128) → Φ (W w) M
def S_law_line (cs : Cs) : DSp := fun ds M Φ _ => ∃ ns : List Int, ds = [.scr ns] ∧ ∀ l : List Nat, l.length ≤ 1000 → (∀ c ∈ l, c < 128) → Φ (W l) M
def S_law_lines (cs : Cs) : DSp := fun ds M Φ _ => ∃ ns : List Int, ds = [.scr ns] ∧ ∀ M', Φ (.bl true) M'
def S_law_number (cs : Cs) : DSp := fun ds M Φ _ => ∃ t : List Nat, ds = [W t] ∧ t.length ≤ BL ∧ Φ (.int (numI t)) M
def S_law_words (cs : Cs) : DSp := fun ds M Φ _ => ∃ ns : List Int, ds = [.scr ns] ∧ ∀ M', Φ (.bl true) M'
def S_law_value (cs : Cs) : DSp := fun ds M Φ _ => ∃ (ns : List Int) (k : Int), ds = [.scr ns, .int k] ∧ 0 ≤ k ∧ k ≤ 1000 ∧ ∀ (t : T) (g : Bool) M', t.dep ≤ 5 → Below 2000 t → (g = true → Below 1000 t ∧ t.dep ≤ 4) → Φ (.tup [t.D, .bl g]) M'
def S_law_text (cs : Cs) (n : Nat) : DSp := fun ds M Φ _ => ∃ t : T, ds = [t.D] ∧ t.dep < n ∧ n ≤ 20 ∧ t.dep ≤ 10 ∧ Below 10000 t ∧ Φ (W (textT t)) M
def S_law_equal (cs : Cs) (n : Nat) : DSp := fun ds M Φ _ => ∃ t : T, ds = [t.D, t.D] ∧ t.dep < n ∧ n ≤ 20 ∧ Φ (.bl true) M
def S_law_fault (cs : Cs) : DSp := fun ds M Φ _ => ∃ (p : Addr) (ts : List (List Nat)), ds = [.ref p] ∧ M p = some (.lst (WS ts)) ∧ TokOk ts ∧ ∀ M', Φ (.int (from_ ts 0 [] false : Nat)) M'
def S_law_joined (cs : Cs) : DSp := fun ds M Φ _ => ∃ (p : Addr) (ts : List (List Nat)), ds = [.ref p] ∧ M p = some (.lst (WS ts)) ∧ ts.length ≤ 1900 ∧ (∀ t ∈ ts, t.length ≤ 1000) ∧ ∀ l : List Nat, l.length ≤ BL → Φ (W l) M
def S_law_values (cs : Cs) : DSp := fun ds M Φ _ => ∃ ns : List Int, ds = [.scr ns] ∧ ∀ M', Φ (.bl true) M'
abbrev S_law (_ : Cs) := lawSp
abbrev ends (Φ : D → Mem → Prop) : DE := { nx := fun _ M' => Φ .non M', rt := Φ }
theorem ff {P : Prop} (h : false = true) : P := Bool.noConfusion h
theorem tf {P : Prop} (h : true = false) : P := Bool.noConfusion h
theorem ar_token_begin (cs : Cs) : Arity (S_token_begin cs) 3 := by rintro ds M Φ Ψ ⟨_, _, _, _, rfl, _⟩; rfl
theorem ar_token_end (cs : Cs) : Arity (S_token_end cs) 2 := by rintro ds M Φ Ψ ⟨_, _, rfl, _⟩; rfl
theorem ar_tokens_of (cs : Cs) : Arity (S_tokens_of cs) 2 := by rintro ds M Φ Ψ ⟨_, _, rfl, _⟩; rfl
theorem ar_is_digits (cs : Cs) : Arity (S_is_digits cs) 1 := by rintro ds M Φ Ψ ⟨_, rfl, _⟩; rfl
theorem ar_whole_in (cs : Cs) : Arity (S_whole_in cs) 2 := by rintro ds M Φ Ψ ⟨_, rfl, _⟩; rfl
theorem ar_number_in (cs : Cs) : Arity (S_number_in cs) 1 := by rintro ds M Φ Ψ ⟨_, rfl, _⟩; rfl
theorem ar_is_name (cs : Cs) : Arity (S_is_name cs) 1 := by rintro ds M Φ Ψ ⟨_, rfl, _⟩; rfl
theorem ar_Line_init (cs : Cs) : Arity (S_Line_init cs) 3 := by rintro ds M Φ Ψ ⟨_, _, _, rfl, _⟩; rfl
theorem ar_Line_here (cs : Cs) : Arity (S_Line_here cs) 1 := by rintro ds M Φ Ψ ⟨_, _, _, _, _, rfl, _⟩; rfl
theorem ar_Line_need (cs : Cs) : Arity (S_Line_need cs) 2 := by rintro ds M Φ Ψ ⟨_, _, _, _, _, _, rfl, _⟩; rfl
theorem ar_Line_take (cs : Cs) : Arity (S_Line_take cs) 2 := by rintro ds M Φ Ψ ⟨_, _, _, _, _, _, rfl, _⟩; rfl
theorem ar_Line_mark (cs : Cs) : Arity (S_Line_mark cs) 2 := by rintro ds M Φ Ψ ⟨_, _, _, _, _, _, rfl, _⟩; rfl
theorem ar_Line_whole (cs : Cs) : Arity (S_Line_whole cs) 2 := by rintro ds M Φ Ψ ⟨_, _, _, _, _, rfl, _⟩; rfl
theorem ar_Line_name (cs : Cs) : Arity (S_Line_name cs) 1 := by rintro ds M Φ Ψ h; exact h.elim
theorem ar_Line_finish (cs : Cs) : Arity (S_Line_finish cs) 1 := by rintro ds M Φ Ψ ⟨_, _, _, _, _, rfl, _⟩; rfl
theorem ar_value_text (cs : Cs) (n : Nat) : Arity (S_value_text cs n) 1 := by rintro ds M Φ Ψ ⟨_, rfl, _⟩; rfl
theorem nv_value_text (cs : Cs) : ∀ ds M Φ Ψ, ¬ S_value_text cs 0 ds M Φ Ψ := by rintro ds M Φ Ψ ⟨_, _, h, _⟩; omega
theorem ar_value_in (cs : Cs) (n : Nat) : Arity (S_value_in cs n) 2 := by rintro ds M Φ Ψ ⟨_, _, _, _, _, _, rfl, _⟩; rfl
theorem nv_value_in (cs : Cs) : ∀ ds M Φ Ψ, ¬ S_value_in cs 0 ds M Φ Ψ := by rintro ds M Φ Ψ ⟨_, _, _, _, _, _, _, h, _⟩; omega
theorem ar_last_value_in (cs : Cs) : Arity (S_last_value_in cs) 1 := by rintro ds M Φ Ψ ⟨_, _, _, _, rfl, _⟩; rfl
theorem ar_read_value (cs : Cs) : Arity (S_read_value cs) 1 := by rintro ds M Φ Ψ ⟨_, rfl, _⟩; rfl
theorem ar_is_value_text (cs : Cs) : Arity (S_is_value_text cs) 1 := by rintro ds M Φ Ψ ⟨_, rfl, _⟩; rfl
theorem ar_law_is_integer (cs : Cs) : Arity (S_law_is_integer cs) 1 := by rintro ds M Φ Ψ ⟨_, rfl, _⟩; rfl
theorem ar_law_scan (cs : Cs) : Arity (S_law_scan cs) 1 := by rintro ds M Φ Ψ ⟨_, rfl, _⟩; rfl
theorem ar_law_word (cs : Cs) : Arity (S_law_word cs) 1 := by rintro ds M Φ Ψ ⟨_, rfl, _⟩; rfl
theorem ar_law_line (cs : Cs) : Arity (S_law_line cs) 1 := by rintro ds M Φ Ψ ⟨_, rfl, _⟩; rfl
theorem ar_law_lines (cs : Cs) : Arity (S_law_lines cs) 1 := by rintro ds M Φ Ψ ⟨_, rfl, _⟩; rfl
theorem ar_law_number (cs : Cs) : Arity (S_law_number cs) 1 := by rintro ds M Φ Ψ ⟨_, rfl, _⟩; rfl
theorem ar_law_words (cs : Cs) : Arity (S_law_words cs) 1 := by rintro ds M Φ Ψ ⟨_, rfl, _⟩; rfl
theorem ar_law_value (cs : Cs) : Arity (S_law_value cs) 2 := by rintro ds M Φ Ψ ⟨_, _, rfl, _⟩; rfl
theorem ar_law_text (cs : Cs) (n : Nat) : Arity (S_law_text cs n) 1 := by rintro ds M Φ Ψ ⟨_, rfl, _⟩; rfl
theorem nv_law_text (cs : Cs) : ∀ ds M Φ Ψ, ¬ S_law_text cs 0 ds M Φ Ψ := by rintro ds M Φ Ψ ⟨_, _, h, _⟩; omega
theorem ar_law_equal (cs : Cs) (n : Nat) : Arity (S_law_equal cs n) 2 := by rintro ds M Φ Ψ ⟨_, rfl, _⟩; rfl
theorem nv_law_equal (cs : Cs) : ∀ ds M Φ Ψ, ¬ S_law_equal cs 0 ds M Φ Ψ := by rintro ds M Φ Ψ ⟨_, _, h, _⟩; omega
theorem ar_law_fault (cs : Cs) : Arity (S_law_fault cs) 1 := by rintro ds M Φ Ψ ⟨_, _, rfl, _⟩; rfl
theorem ar_law_joined (cs : Cs) : Arity (S_law_joined cs) 1 := by rintro ds M Φ Ψ ⟨_, _, rfl, _⟩; rfl
theorem ar_law_values (cs : Cs) : Arity (S_law_values cs) 1 := by rintro ds M Φ Ψ ⟨_, rfl, _⟩; rfl
theorem ar_law (cs : Cs) : Arity (S_law cs) 1 := by rintro ds M Φ Ψ ⟨_, rfl, _⟩; rfl
theorem ar_wall (cs : Cs) : Arity (S_wall cs) 1 := by rintro ds M Φ Ψ h; exact h.elim
theorem ar_Line_below (cs : Cs) : Arity (S_Line_below cs) 3 := by rintro ds M Φ Ψ h; exact h.elim
/-! _wall: slots 0 k -/
def b_wall_1 (cs : Cs) : RS := dNext
def r_wall (cs : Cs) : RS := (dWhile [] (dTruth (dC (.bl true))) (b_wall_1 cs))

/-! _token_begin: slots 0 line 1 place 2 found 3 mark -/
def r_token_begin_4 (cs : Cs) : RS := (dRet (dNeg (dC (.int 1))))
def r_token_begin_3 (cs : Cs) : RS := dSeq (dIfS (dAnd (dTest (dOp dEqA (dVar 3) (dC (.str (Str.ofString " "))))) (dAnd (dTest (dOp dLt (dOp dAdd (dVar 1) (dC (.int 1))) (dCB dLen (dCons (dVar 0) dNil)))) (dTest (dOp (dInA true) (dOp dIx (dVar 0) (dOp dAdd (dVar 1) (dC (.int 1)))) (dC (.str (Str.ofString " )"))))))) (dRet (dOp dAdd (dVar 1) (dC (.int 1)))) dNext) (r_token_begin_4 cs)
def r_token_begin_2 (cs : Cs) : RS := dSeq (dIfS (dTest (dOp dEqA (dVar 3) (dC (.str (Str.ofString ")"))))) (dRet (dVar 1)) dNext) (r_token_begin_3 cs)
def r_token_begin_1 (cs : Cs) : RS := dSeq (dIfS (dOr (dNot (dTruthR (dVar 2))) (dTest (dOp dEqA (dIxM (dVar 2) (dNeg (dC (.int 1)))) (dC (.str (Str.ofString "(")))))) (dRet (dIf (dTest (dOp dEqA (dVar 3) (dC (.str (Str.ofString " "))))) (dNeg (dC (.int 1))) (dVar 1))) dNext) (r_token_begin_2 cs)
def r_token_begin (cs : Cs) : RS := dSeq (dSet 3 (dOp dIx (dVar 0) (dVar 1))) (r_token_begin_1 cs)

/-! _token_end: slots 0 line 1 begin 2 end -/
def b_token_end_4 (cs : Cs) : RS := (dAug 2 dPlus (dC (.int 1)))
def r_token_end_3 (cs : Cs) : RS := (dRet (dVar 2))
def r_token_end_2 (cs : Cs) : RS := dSeq (dWhile [] (dAnd (dTest (dOp dLt (dVar 2) (dCB dLen (dCons (dVar 0) dNil)))) (dTest (dOp (dInA true) (dOp dIx (dVar 0) (dVar 2)) (dC (.str (Str.ofString " ()")))))) (b_token_end_4 cs)) (r_token_end_3 cs)
def r_token_end_1 (cs : Cs) : RS := dSeq (dIfS (dTest (dOp (dInA false) (dOp dIx (dVar 0) (dVar 1)) (dC (.str (Str.ofString "()"))))) (dRet (dVar 2)) dNext) (r_token_end_2 cs)
def r_token_end (cs : Cs) : RS := dSeq (dSet 2 (dOp dAdd (dVar 1) (dC (.int 1)))) (r_token_end_1 cs)

/-! tokens_of: slots 0 line 1 number 2 found 3 place 4 begin -/
def b_tokens_of_3 (cs : Cs) (Ψ : DX) : RS := (dSeq (dSet 4 (dCall (S_token_begin cs) (dCons (dVar 0) (dCons (dVar 3) (dCons (dVar 2) dNil)))))
    (dSeq (dIfS (dTest (dOp dLt (dVar 4) (dC (.int 0)))) (dRaise cs.TextError ["line", "token"] (flatX Ψ) (dCons (dVar 1) (dCons (dOp dAdd (dLenM (dVar 2)) (dC (.int 1))) dNil))) dNext)
    (dSeq (dSet 3 (dCall (S_token_end cs) (dCons (dVar 0) (dCons (dVar 4) dNil))))
    (dAppM (dVar 2) (dSl (dVar 0) (dPart (dVar 4)) (dPart (dVar 3)))))))
def r_tokens_of_3 (cs : Cs) (Ψ : DX) : RS := (dRet (dVar 2))
def r_tokens_of_2 (cs : Cs) (Ψ : DX) : RS := dSeq (dWhile [4] (dTest (dOp dLt (dVar 3) (dCB dLen (dCons (dVar 0) dNil)))) (b_tokens_of_3 cs Ψ)) (r_tokens_of_3 cs Ψ)
def r_tokens_of_1 (cs : Cs) (Ψ : DX) : RS := dSeq (dSet 3 (dC (.int 0))) (r_tokens_of_2 cs Ψ)
def r_tokens_of (cs : Cs) (Ψ : DX) : RS := dSeq (dSetM 2 dNil) (r_tokens_of_1 cs Ψ)

/-! is_digits: slots 0 token -/
def r_is_digits (cs : Cs) : RS := (dRet (dAndV (dM0 Txt.isascii (dVar 0)) (dM0 Txt.isdigit (dVar 0))))

/-! whole_in: slots 0 token 1 most -/
def r_whole_in_2 (cs : Cs) : RS := (dRet (dCB dIntA (dCons (dVar 0) dNil)))
def r_whole_in_1 (cs : Cs) : RS := dSeq (dIfS (dAnd (dTest (dOp dEqA (dOp dIx (dVar 0) (dC (.int 0))) (dC (.str (Str.ofString "0"))))) (dTest (dOp dNeA (dVar 0) (dC (.str (Str.ofString "0")))))) (dRet (dNeg (dC (.int 1)))) dNext) (r_whole_in_2 cs)
def r_whole_in (cs : Cs) : RS := dSeq (dIfS (dOr (dNot (dTruth (dCall (S_is_digits cs) (dCons (dVar 0) dNil)))) (dTest (dOp dGt (dCB dLen (dCons (dVar 0) dNil)) (dVar 1)))) (dRet (dNeg (dC (.int 1)))) dNext) (r_whole_in_1 cs)

/-! number_in: slots 0 token -/
def r_number_in (cs : Cs) : RS := (dRet (dCall (S_whole_in cs) (dCons (dVar 0) (dCons (dC (.int 3)) dNil))))

/-! is_name: slots 0 token -/
def r_is_name (cs : Cs) : RS := (dRet (dAndV (dOp dLe (dCB dLen (dCons (dVar 0) dNil)) (dC (.int 6))) (dAndV (dM0 Txt.isascii (dVar 0)) (dAndV (dM0 Txt.isalpha (dVar 0)) (dM0 Txt.islower (dVar 0))))))

/-! Line.__init__: slots 0 self 1 text 2 number -/
def r_Line_init_2 (cs : Cs) (Ψ : DX) : RS := (dSetF cs.Line "place" (dVar 0) (dC (.int 0)))
def r_Line_init_1 (cs : Cs) (Ψ : DX) : RS := dSeq (dSetF cs.Line "number" (dVar 0) (dVar 2)) (r_Line_init_2 cs Ψ)
def r_Line_init (cs : Cs) (Ψ : DX) : RS := dSeq (dSetF cs.Line "tokens" (dVar 0) (dCallX (S_tokens_of cs) (flatX Ψ) (dCons (dVar 1) (dCons (dVar 2) dNil)))) (r_Line_init_1 cs Ψ)

/-! Line.here: slots 0 self -/
def r_Line_here_1 (cs : Cs) : RS := (dRet (dC (.str (Str.ofString ""))))
def r_Line_here (cs : Cs) : RS := dSeq (dIfS (dTest (dOp dLt (dFld cs.Line "place" (dVar 0)) (dLenR (dFld cs.Line "tokens" (dVar 0))))) (dRet (dIxR (dFld cs.Line "tokens" (dVar 0)) (dFld cs.Line "place" (dVar 0)))) dNext) (r_Line_here_1 cs)

/-! Line.need: slots 0 self 1 good -/
def r_Line_need (cs : Cs) (Ψ : DX) : RS := (dIfS (dNot (dTruth (dVar 1))) (dRaise cs.TextError ["line", "token"] (flatX Ψ) (dCons (dFld cs.Line "number" (dVar 0)) (dCons (dOp dAdd (dFld cs.Line "place" (dVar 0)) (dC (.int 1))) dNil))) dNext)

/-! Line.take: slots 0 self 1 good 2 token -/
def r_Line_take_3 (cs : Cs) (Ψ : DX) : RS := (dRet (dVar 2))
def r_Line_take_2 (cs : Cs) (Ψ : DX) : RS := dSeq (dAugF cs.Line "place" dPlus (dVar 0) (dC (.int 1))) (r_Line_take_3 cs Ψ)
def r_Line_take_1 (cs : Cs) (Ψ : DX) : RS := dSeq (dDrop (dMethX cs.Line "need" (S_Line_need cs) Ψ (dVar 0) (dCons (dVar 1) dNil))) (r_Line_take_2 cs Ψ)
def r_Line_take (cs : Cs) (Ψ : DX) : RS := dSeq (dSet 2 (dMeth cs.Line "here" (S_Line_here cs) (dVar 0) dNil)) (r_Line_take_1 cs Ψ)

/-! Line.mark: slots 0 self 1 sign -/
def r_Line_mark (cs : Cs) (Ψ : DX) : RS := (dDrop (dMethX cs.Line "take" (S_Line_take cs) Ψ (dVar 0) (dCons (dOp dEqA (dMeth cs.Line "here" (S_Line_here cs) (dVar 0) dNil) (dVar 1)) dNil)))

/-! Line.whole: slots 0 self 1 most 2 number -/
def r_Line_whole_2 (cs : Cs) (Ψ : DX) : RS := (dRet (dVar 2))
def r_Line_whole_1 (cs : Cs) (Ψ : DX) : RS := dSeq (dDrop (dMethX cs.Line "take" (S_Line_take cs) Ψ (dVar 0) (dCons (dOp dGe (dVar 2) (dC (.int 0))) dNil))) (r_Line_whole_2 cs Ψ)
def r_Line_whole (cs : Cs) (Ψ : DX) : RS := dSeq (dSet 2 (dCall (S_whole_in cs) (dCons (dMeth cs.Line "here" (S_Line_here cs) (dVar 0) dNil) (dCons (dVar 1) dNil)))) (r_Line_whole_1 cs Ψ)

/-! Line.below: slots 0 self 1 most 2 many -/
def r_Line_below (cs : Cs) : RS := (dDrop (dCall (S_wall cs) (dCons (dC (.int 0)) dNil)))

/-! Line.name: slots 0 self -/
def r_Line_name (cs : Cs) (Ψ : DX) : RS := (dRet (dMethX cs.Line "take" (S_Line_take cs) Ψ (dVar 0) (dCons (dCall (S_is_name cs) (dCons (dMeth cs.Line "here" (S_Line_here cs) (dVar 0) dNil) dNil)) dNil)))

/-! Line.finish: slots 0 self -/
def r_Line_finish (cs : Cs) (Ψ : DX) : RS := (dDrop (dMethX cs.Line "need" (S_Line_need cs) Ψ (dVar 0) (dCons (dOp dEqA (dFld cs.Line "place" (dVar 0)) (dLenR (dFld cs.Line "tokens" (dVar 0)))) dNil)))

/-! value_text: slots 0 value -/
def r_value_text_1 (cs : Cs) (n : Nat) : RS := (dRet (dCB dStrA (dCons (dVar 0) dNil)))
def r_value_text (cs : Cs) (n : Nat) : RS := dSeq (dIfS (dTruth (dIsi "tuple" (dVar 0))) (dRet (dJoin [(dC (.str (Str.ofString "("))), (dFmt (dCall (S_value_text cs n) (dCons (dOp dIx (dVar 0) (dC (.int 0))) dNil))), (dC (.str (Str.ofString " "))), (dFmt (dCall (S_value_text cs n) (dCons (dOp dIx (dVar 0) (dC (.int 1))) dNil))), (dC (.str (Str.ofString ")")))])) dNext) (r_value_text_1 cs n)

/-! value_in: slots 0 line 1 depth 2 left 3 right -/
def r_value_in_1 (cs : Cs) (n : Nat) (Ψ : DX) : RS := (dRet (dMethX cs.Line "whole" (S_Line_whole cs) Ψ (dVar 0) (dCons (dC (.int 3)) dNil)))
def r_value_in (cs : Cs) (n : Nat) (Ψ : DX) : RS := dSeq (dIfS (dAnd (dTest (dOp dGt (dVar 1) (dC (.int 0)))) (dTest (dOp dEqA (dMeth cs.Line "here" (S_Line_here cs) (dVar 0) dNil) (dC (.str (Str.ofString "(")))))) (dSeq (dDrop (dMethX cs.Line "mark" (S_Line_mark cs) Ψ (dVar 0) (dCons (dC (.str (Str.ofString "("))) dNil)))
    (dSeq (dSet 2 (dCallX (S_value_in cs n) (flatX Ψ) (dCons (dVar 0) (dCons (dOp (dI fun i j => .int (i - j)) (dVar 1) (dC (.int 1))) dNil))))
    (dSeq (dSet 3 (dCallX (S_value_in cs n) (flatX Ψ) (dCons (dVar 0) (dCons (dOp (dI fun i j => .int (i - j)) (dVar 1) (dC (.int 1))) dNil))))
    (dSeq (dDrop (dMethX cs.Line "mark" (S_Line_mark cs) Ψ (dVar 0) (dCons (dC (.str (Str.ofString ")"))) dNil)))
    (dRet (dTup (dCons (dVar 2) (dCons (dVar 3) dNil)))))))) dNext) (r_value_in_1 cs n Ψ)

/-! last_value_in: slots 0 line 1 value -/
def r_last_value_in_2 (cs : Cs) (Ψ : DX) : RS := (dRet (dVar 1))
def r_last_value_in_1 (cs : Cs) (Ψ : DX) : RS := dSeq (dDrop (dMethX cs.Line "finish" (S_Line_finish cs) Ψ (dVar 0) dNil)) (r_last_value_in_2 cs Ψ)
def r_last_value_in (cs : Cs) (Ψ : DX) : RS := dSeq (dSet 1 (dCallX (S_value_in cs 6) (flatX Ψ) (dCons (dVar 0) (dCons (dC (.int 4)) dNil)))) (r_last_value_in_1 cs Ψ)

/-! read_value: slots 0 text -/
def r_read_value (cs : Cs) (Ψ : DX) : RS := (dRet (dCallX (S_last_value_in cs) (flatX Ψ) (dCons (dMakeX cs.Line (S_Line_init cs) Ψ (dCons (dVar 0) (dCons (dC (.int 1)) dNil))) dNil)))

/-! is_value_text: slots 0 text -/
def t_is_value_text_1 (cs : Cs) (Ψ1 : DXS) : RS := (dDrop (dCallX (S_read_value cs) Ψ1 (dCons (dVar 0) dNil)))
def u_is_value_text_1 (cs : Cs) (a C : Addr) (fs : List (Str × D)) : RS := (dRet (dC (.bl false)))
def r_is_value_text_1 (cs : Cs) : RS := (dRet (dC (.bl true)))
def r_is_value_text (cs : Cs) : RS := dSeq (dTryOn [(cs.TextError, true)] (t_is_value_text_1 cs) (u_is_value_text_1 cs) (fun _ _ _ _ => False)) (r_is_value_text_1 cs)

/-! _law_is_integer: slots 0 _law_actual -/
def r_law_is_integer (cs : Cs) : RS := (dRet (dAndV (dIsi "int" (dVar 0)) (dNotV (dIsi "bool" (dVar 0)))))

/-! _law_scan: slots 0 _law_line_here 1 _law_found 2 _law_at 3 _law_turn 4 _law_end 5 _law_sign -/
def b_law_scan_10 (cs : Cs) : RS := (dSeq (dIfS (dTest (dOp (dInA false) (dVar 5) (dC (.str (Str.ofString " ()"))))) dBrk dNext)
    (dSet 4 (dOp dAdd (dVar 4) (dC (.int 1)))))
def b_law_scan_3 (cs : Cs) : RS := (dSeq (dIfS (dTest (dOp dEqA (dVar 2) (dCB dLen (dCons (dVar 0) dNil)))) (dRet (dTup (dCons (dVar 1) (dCons (dC (.int 0)) dNil)))) dNext)
    (dSeq (dIfS (dTest (dOp dEqA (dOp dIx (dVar 0) (dVar 2)) (dC (.str (Str.ofString " "))))) (dRet (dTup (dCons (dVar 1) (dCons (dOp dAdd (dLenM (dVar 1)) (dC (.int 1))) dNil)))) dNext)
    (dSeq (dSet 4 (dOp dAdd (dVar 2) (dC (.int 1))))
    (dSeq (dIfS (dTest (dOp (dInA true) (dOp dIx (dVar 0) (dVar 2)) (dC (.str (Str.ofString "()"))))) (dForS 5 [5] (dSl (dVar 0) (dPart (dOp dAdd (dVar 2) (dC (.int 1)))) dNoP) (b_law_scan_10 cs)) dNext)
    (dSeq (dAppM (dVar 1) (dSl (dVar 0) (dPart (dVar 2)) (dPart (dVar 4))))
    (dSeq (dSet 2 (dVar 4))
    (dSeq (dIfS (dOr (dTest (dOp dEqA (dIxM (dVar 1) (dNeg (dC (.int 1)))) (dC (.str (Str.ofString "("))))) (dOr (dTest (dOp dEqA (dVar 2) (dCB dLen (dCons (dVar 0) dNil)))) (dTest (dOp dEqA (dOp dIx (dVar 0) (dVar 2)) (dC (.str (Str.ofString ")"))))))) dCt dNext)
    (dSeq (dIfS (dOr (dTest (dOp dNeA (dOp dIx (dVar 0) (dVar 2)) (dC (.str (Str.ofString " "))))) (dOr (dTest (dOp dEqA (dOp dAdd (dVar 2) (dC (.int 1))) (dCB dLen (dCons (dVar 0) dNil)))) (dTest (dOp (dInA false) (dOp dIx (dVar 0) (dOp dAdd (dVar 2) (dC (.int 1)))) (dC (.str (Str.ofString " )"))))))) (dRet (dTup (dCons (dVar 1) (dCons (dOp dAdd (dLenM (dVar 1)) (dC (.int 1))) dNil)))) dNext)
    (dSet 2 (dOp dAdd (dVar 2) (dC (.int 1))))))))))))
def r_law_scan_3 (cs : Cs) : RS := (dRet (dTup (dCons (dVar 1) (dCons (dC (.int 0)) dNil))))
def r_law_scan_2 (cs : Cs) : RS := dSeq (dForR 3 [3, 4] (dOp dAdd (dCB dLen (dCons (dVar 0) dNil)) (dC (.int 1))) (b_law_scan_3 cs)) (r_law_scan_3 cs)
def r_law_scan_1 (cs : Cs) : RS := dSeq (dSet 2 (dC (.int 0))) (r_law_scan_2 cs)
def r_law_scan (cs : Cs) : RS := dSeq (dSetM 1 dNil) (r_law_scan_1 cs)

/-! _law_word: slots 0 _law_row_here 1 _law_words_here -/
def r_law_word_1 (cs : Cs) : RS := (dRet (dOp dIx (dVar 1) (dOp (dIC (fun _ j => 0 < j) fun i j => .int (i % j)) (dCB dInt (dCons (dOp dIx (dVar 0) (dC (.int 0))) dNil)) (dC (.int 20)))))
def r_law_word (cs : Cs) : RS := dSeq (dSet 1 (dFz (dCons (dC (.str (Str.ofString "("))) (dCons (dC (.str (Str.ofString ")"))) (dCons (dC (.str (Str.ofString "("))) (dCons (dC (.str (Str.ofString ")"))) (dCons (dC (.str (Str.ofString "0"))) (dCons (dC (.str (Str.ofString "7"))) (dCons (dC (.str (Str.ofString "12"))) (dCons (dC (.str (Str.ofString "999"))) (dCons (dC (.str (Str.ofString "1000"))) (dCons (dC (.str (Str.ofString "007"))) (dCons (dC (.str (Str.ofString "a"))) (dCons (dC (.str (Str.ofString "let"))) (dCons (dC (.str (Str.ofString "abcdef"))) (dCons (dC (.str (Str.ofString "abcdefg"))) (dCons (dC (.str (Str.ofString "A"))) (dCons (dC (.str (Str.ofString "="))) (dCons (dC (.str (Str.ofString ":"))) (dCons (dC (.str (Str.ofString "x1"))) (dCons (dC (.str (Str.ofString "-1"))) (dCons (dC (.str (Str.ofString "1/2"))) dNil)))))))))))))))))))))) (r_law_word_1 cs)

/-! _law_line: slots 0 _law_script 1 _law_line_here 2 _law_at 3 _law_word_here 4 _law_row_here 5 _law_place -/
def b_law_line_2 (cs : Cs) : RS := (dSeq (dSet 3 (dCall (S_law_word cs) (dCons (dCall S_law_row (dCons (dVar 0) (dCons (dOp dAdd (dC (.int 1)) (dVar 2)) (dCons (dC (.int 1)) dNil)))) dNil)))
    (dSeq (dIfS (dAnd (dTest (dOp dNeA (dVar 1) (dC (.str (Str.ofString ""))))) (dAnd (dTest (dOp dNeA (dOp dIx (dVar 1) (dNeg (dC (.int 1)))) (dC (.str (Str.ofString "("))))) (dTest (dOp dNeA (dVar 3) (dC (.str (Str.ofString ")"))))))) (dSet 1 (dOp dAdd (dVar 1) (dC (.str (Str.ofString " "))))) dNext)
    (dSet 1 (dOp dAdd (dVar 1) (dVar 3)))))
def r_law_line_4 (cs : Cs) : RS := (dRet (dVar 1))
def r_law_line_3 (cs : Cs) : RS := dSeq (dIfS (dTest (dOp dEqA (dOp (dIC (fun _ j => 0 < j) fun i j => .int (i % j)) (dOp dIx (dVar 4) (dC (.int 0))) (dC (.int 2))) (dC (.int 0)))) (dSeq (dSet 5 (dOp (dIC (fun _ j => 0 < j) fun i j => .int (i % j)) (dCB dInt (dCons (dOp dIx (dVar 4) (dC (.int 1))) dNil)) (dOp dAdd (dCB dLen (dCons (dVar 1) dNil)) (dC (.int 1)))))
    (dSeq (dIfS (dTest (dOp dEqA (dOp (dIC (fun _ j => 0 < j) fun i j => .int (i % j)) (dOp dIx (dVar 4) (dC (.int 2))) (dC (.int 3))) (dC (.int 0)))) (dRet (dOp dAdd (dSl (dVar 1) dNoP (dPart (dVar 5))) (dSl (dVar 1) (dPart (dOp dAdd (dVar 5) (dC (.int 1)))) dNoP))) dNext)
    (dRet (dOp dAdd (dOp dAdd (dSl (dVar 1) dNoP (dPart (dVar 5))) (dOp dIx (dFz (dCons (dC (.str (Str.ofString " "))) (dCons (dC (.str (Str.ofString "("))) (dCons (dC (.str (Str.ofString ")"))) (dCons (dC (.str (Str.ofString "b"))) dNil))))) (dOp (dIC (fun _ j => 0 < j) fun i j => .int (i % j)) (dCB dInt (dCons (dOp dIx (dVar 4) (dC (.int 3))) dNil)) (dC (.int 4))))) (dSl (dVar 1) (dPart (dVar 5)) dNoP))))) dNext) (r_law_line_4 cs)
def r_law_line_2 (cs : Cs) : RS := dSeq (dSet 4 (dCall S_law_row (dCons (dVar 0) (dCons (dC (.int 11)) (dCons (dC (.int 4)) dNil))))) (r_law_line_3 cs)
def r_law_line_1 (cs : Cs) : RS := dSeq (dForR 2 [2, 3] (dOp (dIC (fun _ j => 0 < j) fun i j => .int (i % j)) (dOp dIx (dCall S_law_row (dCons (dVar 0) (dCons (dC (.int 0)) (dCons (dC (.int 1)) dNil)))) (dC (.int 0))) (dC (.int 10))) (b_law_line_2 cs)) (r_law_line_2 cs)
def r_law_line (cs : Cs) : RS := dSeq (dSet 1 (dC (.str (Str.ofString "")))) (r_law_line_1 cs)

/-! _law_lines: slots 0 _law_script 1 _law_line_here 2 _law_number_here 3 _law_tokens 4 _law_fault_here 5 _law_told 6 e -/
def t_law_lines_4 (cs : Cs) (Ψ1 : DXS) : RS := (dSet 5 (dCallX (S_tokens_of cs) Ψ1 (dCons (dVar 1) (dCons (dVar 2) dNil))))
def u_law_lines_4 (cs : Cs) (a C : Addr) (fs : List (Str × D)) : RS := (dRet (dAndV (dOp dGt (dVar 4) (dC (.int 0))) (dAndV (dOp dEqA (dXf a fs "line" (dVar 6)) (dVar 2)) (dAndV (dOp dEqA (dXf a fs "token" (dVar 6)) (dVar 4)) (dIsX a true (dVar 6))))))
def r_law_lines_4 (cs : Cs) : RS := (dRet (dAndV (dOp dEqA (dVar 4) (dC (.int 0))) (dAndV (dIsiR "list" (dVar 5)) (dEqR false (dVar 5) (dVar 3)))))
def r_law_lines_3 (cs : Cs) : RS := dSeq (dTryAs [(cs.TextError, true)] 6 (t_law_lines_4 cs) (u_law_lines_4 cs) (fun _ _ _ _ => False)) (r_law_lines_4 cs)
def r_law_lines_2 (cs : Cs) : RS := dSeq (dUnp [3, 4] (dCall (S_law_scan cs) (dCons (dVar 1) dNil))) (r_law_lines_3 cs)
def r_law_lines_1 (cs : Cs) : RS := dSeq (dSet 2 (dOp dAdd (dC (.int 1)) (dOp (dIC (fun _ j => 0 < j) fun i j => .int (i % j)) (dOp dIx (dCall S_law_row (dCons (dVar 0) (dCons (dC (.int 12)) (dCons (dC (.int 1)) dNil)))) (dC (.int 0))) (dC (.int 50))))) (r_law_lines_2 cs)
def r_law_lines (cs : Cs) : RS := dSeq (dSet 1 (dCall (S_law_line cs) (dCons (dVar 0) dNil))) (r_law_lines_1 cs)

/-! _law_number: slots 0 _law_token 1 _law_sign -/
def b_law_number_3 (cs : Cs) : RS := (dIfS (dTest (dOp (dInA true) (dVar 1) (dC (.str (Str.ofString "0123456789"))))) (dRet (dNeg (dC (.int 1)))) dNext)
def r_law_number_2 (cs : Cs) : RS := (dRet (dCB dIntA (dCons (dVar 0) dNil)))
def r_law_number_1 (cs : Cs) : RS := dSeq (dForS 1 [1] (dVar 0) (b_law_number_3 cs)) (r_law_number_2 cs)
def r_law_number (cs : Cs) : RS := dSeq (dIfS (dOr (dTest (dOp dEqA (dVar 0) (dC (.str (Str.ofString ""))))) (dOr (dTest (dOp dGt (dCB dLen (dCons (dVar 0) dNil)) (dC (.int 3)))) (dAnd (dTest (dOp dEqA (dOp dIx (dVar 0) (dC (.int 0))) (dC (.str (Str.ofString "0"))))) (dTest (dOp dGt (dCB dLen (dCons (dVar 0) dNil)) (dC (.int 1))))))) (dRet (dNeg (dC (.int 1)))) dNext) (r_law_number_1 cs)

/-! _law_words: slots 0 _law_script 1 _law_signs 2 _law_row_here 3 _law_token 4 _law_at 5 _law_number_here 6 _law_due 7 _law_sign 8 _law_told -/
def b_law_words_4 (cs : Cs) : RS := (dSet 3 (dOp dAdd (dVar 3) (dOp dIx (dVar 1) (dOp (dIC (fun _ j => 0 < j) fun i j => .int (i % j)) (dCB dInt (dCons (dOp dIx (dVar 2) (dOp dAdd (dC (.int 1)) (dVar 4))) dNil)) (dOp dIx (dFz (dCons (dC (.int 28)) (dCons (dC (.int 10)) (dCons (dC (.int 16)) (dCons (dC (.int 26)) dNil))))) (dOp (dIC (fun _ j => 0 < j) fun i j => .int (i % j)) (dOp (dIC CDivA fun i j => .int (i / j)) (dCB dInt (dCons (dOp dIx (dVar 2) (dC (.int 0))) dNil)) (dC (.int 8))) (dC (.int 4))))))))
def b_law_words_10 (cs : Cs) : RS := (dIfS (dTest (dOp (dInA true) (dVar 7) (dC (.str (Str.ofString "abcdefghijklmnopqrstuvwxyz"))))) (dSet 6 (dC (.bl false))) dNext)
def r_law_words_9 (cs : Cs) : RS := (dRet (dIf (dTruth (dVar 6)) (dOp dIsB (dVar 8) (dC (.bl true))) (dOp dIsB (dVar 8) (dC (.bl false)))))
def r_law_words_8 (cs : Cs) : RS := dSeq (dSet 8 (dCall (S_is_name cs) (dCons (dVar 3) dNil))) (r_law_words_9 cs)
def r_law_words_7 (cs : Cs) : RS := dSeq (dForS 7 [7] (dVar 3) (b_law_words_10 cs)) (r_law_words_8 cs)
def r_law_words_6 (cs : Cs) : RS := dSeq (dSet 6 (dAndV (dOp dLe (dC (.int 1)) (dCB dLen (dCons (dVar 3) dNil))) (dOp dLe (dCB dLen (dCons (dVar 3) dNil)) (dC (.int 6))))) (r_law_words_7 cs)
def r_law_words_5 (cs : Cs) : RS := dSeq (dIfS (dOr (dNot (dTruth (dCall (S_law_is_integer cs) (dCons (dVar 5) dNil)))) (dTest (dOp dNeA (dVar 5) (dCall (S_law_number cs) (dCons (dVar 3) dNil))))) (dRet (dC (.bl false))) dNext) (r_law_words_6 cs)
def r_law_words_4 (cs : Cs) : RS := dSeq (dSet 5 (dCall (S_number_in cs) (dCons (dVar 3) dNil))) (r_law_words_5 cs)
def r_law_words_3 (cs : Cs) : RS := dSeq (dForR 4 [4] (dOp dAdd (dC (.int 1)) (dOp (dIC (fun _ j => 0 < j) fun i j => .int (i % j)) (dCB dInt (dCons (dOp dIx (dVar 2) (dC (.int 0))) dNil)) (dC (.int 8)))) (b_law_words_4 cs)) (r_law_words_4 cs)
def r_law_words_2 (cs : Cs) : RS := dSeq (dSet 3 (dC (.str (Str.ofString "")))) (r_law_words_3 cs)
def r_law_words_1 (cs : Cs) : RS := dSeq (dSet 2 (dCall S_law_row (dCons (dVar 0) (dCons (dC (.int 13)) (dCons (dC (.int 9)) dNil))))) (r_law_words_2 cs)
def r_law_words (cs : Cs) : RS := dSeq (dSet 1 (dC (.str (Str.ofString "0123456789abcdefxyzABZ_-+.:=")))) (r_law_words_1 cs)

/-! _law_value: slots 0 _law_script 1 _law_k 2 _law_row_here 3 _law_pile 4 _law_large 5 _law_at 6 _law_one 7 _law_pair 8 _law_number_here -/
def b_law_value_4 (cs : Cs) : RS := (dSeq (dSet 6 (dCall S_law_row (dCons (dVar 0) (dCons (dOp dAdd (dOp dAdd (dVar 1) (dC (.int 1))) (dVar 5)) (dCons (dC (.int 2)) dNil)))))
    (dIfS (dAnd (dTest (dOp dGt (dOp (dIC (fun _ j => 0 < j) fun i j => .int (i % j)) (dOp dIx (dVar 6) (dC (.int 0))) (dC (.int 3))) (dC (.int 0)))) (dAnd (dTest (dOp dGt (dLenM (dVar 3)) (dC (.int 1)))) (dTest (dOp dLt (dCB (dI2 fun i j => .int (if j > i then j else i)) (dCons (dOp dIx (dIxM (dVar 3) (dNeg (dC (.int 1)))) (dC (.int 1))) (dCons (dOp dIx (dIxM (dVar 3) (dNeg (dC (.int 2)))) (dC (.int 1))) dNil))) (dC (.int 5)))))) (dSeq (dSet 7 (dTup (dCons (dTup (dCons (dOp dIx (dIxM (dVar 3) (dNeg (dC (.int 2)))) (dC (.int 0))) (dCons (dOp dIx (dIxM (dVar 3) (dNeg (dC (.int 1)))) (dC (.int 0))) dNil))) (dCons (dOp dAdd (dC (.int 1)) (dCB (dI2 fun i j => .int (if j > i then j else i)) (dCons (dOp dIx (dIxM (dVar 3) (dNeg (dC (.int 1)))) (dC (.int 1))) (dCons (dOp dIx (dIxM (dVar 3) (dNeg (dC (.int 2)))) (dC (.int 1))) dNil)))) dNil))))
      (dSetM 3 (dCatR (dSl (dVar 3) dNoP (dPart (dNeg (dC (.int 2))))) (dFz (dCons (dVar 7) dNil))))) (dSeq (dSet 8 (dCB dInt (dCons (dOp dIx (dVar 6) (dC (.int 1))) dNil)))
      (dSeq (dIfS (dTest (dOp dEqA (dOp (dIC (fun _ j => 0 < j) fun i j => .int (i % j)) (dOp dIx (dVar 6) (dC (.int 0))) (dC (.int 11))) (dC (.int 0)))) (dSeq (dSet 8 (dOp dAdd (dC (.int 1000)) (dOp (dIC (fun _ j => 0 < j) fun i j => .int (i % j)) (dCB dInt (dCons (dOp dIx (dVar 6) (dC (.int 1))) dNil)) (dC (.int 100)))))
        (dSet 4 (dC (.bl true)))) dNext)
      (dAppM (dVar 3) (dTup (dCons (dVar 8) (dCons (dC (.int 0)) dNil))))))))
def r_law_value_4 (cs : Cs) : RS := (dRet (dTup (dCons (dOp dIx (dIxM (dVar 3) (dNeg (dC (.int 1)))) (dC (.int 0))) (dCons (dAndV (dOp dLe (dOp dIx (dIxM (dVar 3) (dNeg (dC (.int 1)))) (dC (.int 1))) (dC (.int 4))) (dNotV (dVar 4))) dNil))))
def r_law_value_3 (cs : Cs) : RS := dSeq (dForR 5 [5, 6] (dOp dAdd (dC (.int 1)) (dOp (dIC (fun _ j => 0 < j) fun i j => .int (i % j)) (dCB dInt (dCons (dOp dIx (dVar 2) (dC (.int 0))) dNil)) (dC (.int 9)))) (b_law_value_4 cs)) (r_law_value_4 cs)
def r_law_value_2 (cs : Cs) : RS := dSeq (dSet 4 (dC (.bl false))) (r_law_value_3 cs)
def r_law_value_1 (cs : Cs) : RS := dSeq (dSetM 3 dNil) (r_law_value_2 cs)
def r_law_value (cs : Cs) : RS := dSeq (dSet 2 (dCall S_law_row (dCons (dVar 0) (dCons (dVar 1) (dCons (dC (.int 1)) dNil))))) (r_law_value_1 cs)

/-! _law_text: slots 0 _law_value_here -/
def r_law_text_1 (cs : Cs) (n : Nat) : RS := (dRet (dCB dStrA (dCons (dVar 0) dNil)))
def r_law_text (cs : Cs) (n : Nat) : RS := dSeq (dIfS (dTruth (dIsi "tuple" (dVar 0))) (dRet (dOp dAdd (dOp dAdd (dOp dAdd (dOp dAdd (dC (.str (Str.ofString "("))) (dCall (S_law_text cs n) (dCons (dOp dIx (dVar 0) (dC (.int 0))) dNil))) (dC (.str (Str.ofString " ")))) (dCall (S_law_text cs n) (dCons (dOp dIx (dVar 0) (dC (.int 1))) dNil))) (dC (.str (Str.ofString ")"))))) dNext) (r_law_text_1 cs n)

/-! _law_equal: slots 0 _law_told 1 _law_due -/
def r_law_equal_1 (cs : Cs) (n : Nat) : RS := (dRet (dAndV (dCall (S_law_is_integer cs) (dCons (dVar 0) dNil)) (dOp dEqA (dVar 0) (dVar 1))))
def r_law_equal (cs : Cs) (n : Nat) : RS := dSeq (dIfS (dTruth (dIsi "tuple" (dVar 1))) (dSeq (dIfS (dOr (dNot (dTruth (dIsi "tuple" (dVar 0)))) (dTest (dOp dNeA (dCB dLen (dCons (dVar 0) dNil)) (dC (.int 2))))) (dRet (dC (.bl false))) dNext)
    (dRet (dAndV (dCall (S_law_equal cs n) (dCons (dOp dIx (dVar 0) (dC (.int 0))) (dCons (dOp dIx (dVar 1) (dC (.int 0))) dNil))) (dCall (S_law_equal cs n) (dCons (dOp dIx (dVar 0) (dC (.int 1))) (dCons (dOp dIx (dVar 1) (dC (.int 1))) dNil)))))) dNext) (r_law_equal_1 cs n)

/-! _law_fault: slots 0 _law_tokens 1 _law_counts 2 _law_done 3 _law_at 4 _law_token 5 _law_room 6 _law_closed -/
def b_law_fault_3 (cs : Cs) : RS := (dSeq (dSet 4 (dIxM (dVar 0) (dVar 3)))
    (dSeq (dSet 5 (dAndV (dNotV (dVar 2)) (dOrV (dEqR false (dVar 1) (dFz dNil)) (dOp dLt (dIxM (dVar 1) (dNeg (dC (.int 1)))) (dC (.int 2))))))
    (dSeq (dSet 6 (dC (.bl false)))
    (dSeq (dIfS (dAnd (dTest (dOp dEqA (dVar 4) (dC (.str (Str.ofString "("))))) (dAnd (dTruth (dVar 5)) (dTest (dOp dLt (dLenM (dVar 1)) (dC (.int 4)))))) (dAppM (dVar 1) (dC (.int 0))) (dIfS (dAnd (dTest (dOp dEqA (dVar 4) (dC (.str (Str.ofString ")"))))) (dAnd (dNot (dTruth (dVar 2))) (dAnd (dTest (dEqR true (dVar 1) (dFz dNil))) (dTest (dOp dEqA (dIxM (dVar 1) (dNeg (dC (.int 1)))) (dC (.int 2))))))) (dSeq (dDrop (dPopM (dVar 1)))
        (dSet 6 (dC (.bl true)))) (dIfS (dAnd (dTest (dOp dGe (dCall (S_law_number cs) (dCons (dVar 4) dNil)) (dC (.int 0)))) (dTruth (dVar 5))) (dSet 6 (dC (.bl true))) (dRet (dOp dAdd (dVar 3) (dC (.int 1)))))))
    (dIfS (dAnd (dTruth (dVar 6)) (dTest (dEqR false (dVar 1) (dFz dNil)))) (dSet 2 (dC (.bl true))) (dIfS (dTruth (dVar 6)) (dStoM (dOp dAdd (dIxM (dVar 1) (dNeg (dC (.int 1)))) (dC (.int 1))) (dVar 1) (dNeg (dC (.int 1)))) dNext))))))
def r_law_fault_3 (cs : Cs) : RS := (dRet (dIf (dTruth (dVar 2)) (dC (.int 0)) (dOp dAdd (dLenM (dVar 0)) (dC (.int 1)))))
def r_law_fault_2 (cs : Cs) : RS := dSeq (dForR 3 [3, 4, 5, 6] (dLenM (dVar 0)) (b_law_fault_3 cs)) (r_law_fault_3 cs)
def r_law_fault_1 (cs : Cs) : RS := dSeq (dSet 2 (dC (.bl false))) (r_law_fault_2 cs)
def r_law_fault (cs : Cs) : RS := dSeq (dSetM 1 dNil) (r_law_fault_1 cs)

/-! _law_joined: slots 0 _law_tokens 1 _law_line_here 2 _law_token -/
def b_law_joined_2 (cs : Cs) : RS := (dSeq (dIfS (dAnd (dTest (dOp dNeA (dVar 1) (dC (.str (Str.ofString ""))))) (dAnd (dTest (dOp dNeA (dOp dIx (dVar 1) (dNeg (dC (.int 1)))) (dC (.str (Str.ofString "("))))) (dTest (dOp dNeA (dVar 2) (dC (.str (Str.ofString ")"))))))) (dSet 1 (dOp dAdd (dVar 1) (dC (.str (Str.ofString " "))))) dNext)
    (dSet 1 (dOp dAdd (dVar 1) (dVar 2))))
def r_law_joined_2 (cs : Cs) : RS := (dRet (dVar 1))
def r_law_joined_1 (cs : Cs) : RS := dSeq (dForM 2 [2] (dVar 0) (b_law_joined_2 cs)) (r_law_joined_2 cs)
def r_law_joined (cs : Cs) : RS := dSeq (dSet 1 (dC (.str (Str.ofString "")))) (r_law_joined_1 cs)

/-! _law_values: slots 0 _law_script 1 _law_value_here 2 _law_good 3 _law_text_here 4 _law_tokens 5 _law_row_here 6 _law_place 7 _law_line_here 8 _law_scanned 9 _law_spacing 10 _law_fault_here 11 _law_told 12 e -/
def t_law_values_21 (cs : Cs) (Ψ1 : DXS) : RS := (dSet 11 (dCallX (S_read_value cs) Ψ1 (dCons (dVar 7) dNil)))
def u_law_values_21 (cs : Cs) (a C : Addr) (fs : List (Str × D)) : RS := (dRet (dAndV (dOp dGt (dVar 10) (dC (.int 0))) (dAndV (dOp dEqA (dXf a fs "line" (dVar 12)) (dC (.int 1))) (dOp dEqA (dXf a fs "token" (dVar 12)) (dVar 10)))))
def r_law_values_15 (cs : Cs) : RS := (dRet (dAndV (dOp dEqA (dVar 10) (dC (.int 0))) (dAndV (dOrV (dOp dNeA (dVar 7) (dVar 3)) (dCall (S_law_equal cs 7) (dCons (dVar 11) (dCons (dVar 1) dNil)))) (dOp dEqA (dCall (S_value_text cs 7) (dCons (dVar 11) dNil)) (dVar 7)))))
def r_law_values_14 (cs : Cs) : RS := dSeq (dTryAs [(cs.TextError, true)] 12 (t_law_values_21 cs) (u_law_values_21 cs) (fun _ _ _ _ => False)) (r_law_values_15 cs)
def r_law_values_13 (cs : Cs) : RS := dSeq (dIfS (dOr (dAnd (dTest (dOp dEqA (dVar 10) (dC (.int 0)))) (dTest (dOp dNotB (dCall (S_is_value_text cs) (dCons (dVar 7) dNil)) (dC (.bl true))))) (dAnd (dTest (dOp dGt (dVar 10) (dC (.int 0)))) (dTest (dOp dNotB (dCall (S_is_value_text cs) (dCons (dVar 7) dNil)) (dC (.bl false)))))) (dRet (dC (.bl false))) dNext) (r_law_values_14 cs)
def r_law_values_12 (cs : Cs) : RS := dSeq (dIfS (dTest (dOp dEqA (dVar 10) (dC (.int 0)))) (dSet 10 (dCall (S_law_fault cs) (dCons (dVar 8) dNil))) dNext) (r_law_values_13 cs)
def r_law_values_11 (cs : Cs) : RS := dSeq (dSet 10 (dVar 9)) (r_law_values_12 cs)
def r_law_values_10 (cs : Cs) : RS := dSeq (dUnp [8, 9] (dCall (S_law_scan cs) (dCons (dVar 7) dNil))) (r_law_values_11 cs)
def r_law_values_9 (cs : Cs) : RS := dSeq (dSet 7 (dCall (S_law_joined cs) (dCons (dVar 4) dNil))) (r_law_values_10 cs)
def r_law_values_8 (cs : Cs) : RS := dSeq (dIfS (dAnd (dTest (dOp dEqA (dOp (dIC (fun _ j => 0 < j) fun i j => .int (i % j)) (dOp dIx (dVar 5) (dC (.int 0))) (dC (.int 6))) (dC (.int 2)))) (dTest (dOp dLt (dVar 6) (dLenM (dVar 4))))) (dStoM (dOp dIx (dFz (dCons (dC (.str (Str.ofString "("))) (dCons (dC (.str (Str.ofString ")"))) (dCons (dC (.str (Str.ofString "0"))) (dCons (dC (.str (Str.ofString "-1"))) (dCons (dC (.str (Str.ofString "="))) dNil)))))) (dOp (dIC (fun _ j => 0 < j) fun i j => .int (i % j)) (dCB dInt (dCons (dOp dIx (dVar 5) (dC (.int 2))) dNil)) (dC (.int 5)))) (dVar 4) (dVar 6)) dNext) (r_law_values_9 cs)
def r_law_values_7 (cs : Cs) : RS := dSeq (dIfS (dTest (dOp dEqA (dOp (dIC (fun _ j => 0 < j) fun i j => .int (i % j)) (dOp dIx (dVar 5) (dC (.int 0))) (dC (.int 6))) (dC (.int 1)))) (dSetM 4 (dCatR (dOp dAdd (dSl (dVar 4) dNoP (dPart (dVar 6))) (dFz (dCons (dOp dIx (dFz (dCons (dC (.str (Str.ofString "("))) (dCons (dC (.str (Str.ofString ")"))) (dCons (dC (.str (Str.ofString "5"))) (dCons (dC (.str (Str.ofString "007"))) (dCons (dC (.str (Str.ofString "a"))) (dCons (dC (.str (Str.ofString "1000"))) dNil))))))) (dOp (dIC (fun _ j => 0 < j) fun i j => .int (i % j)) (dCB dInt (dCons (dOp dIx (dVar 5) (dC (.int 2))) dNil)) (dC (.int 6)))) dNil))) (dSl (dVar 4) (dPart (dVar 6)) dNoP))) dNext) (r_law_values_8 cs)
def r_law_values_6 (cs : Cs) : RS := dSeq (dIfS (dTest (dOp dEqA (dOp (dIC (fun _ j => 0 < j) fun i j => .int (i % j)) (dOp dIx (dVar 5) (dC (.int 0))) (dC (.int 6))) (dC (.int 0)))) (dSetM 4 (dCatR (dSl (dVar 4) dNoP (dPart (dVar 6))) (dSl (dVar 4) (dPart (dOp dAdd (dVar 6) (dC (.int 1)))) dNoP))) dNext) (r_law_values_7 cs)
def r_law_values_5 (cs : Cs) : RS := dSeq (dSet 6 (dOp (dIC (fun _ j => 0 < j) fun i j => .int (i % j)) (dCB dInt (dCons (dOp dIx (dVar 5) (dC (.int 1))) dNil)) (dOp dAdd (dLenM (dVar 4)) (dC (.int 1))))) (r_law_values_6 cs)
def r_law_values_4 (cs : Cs) : RS := dSeq (dSet 5 (dCall S_law_row (dCons (dVar 0) (dCons (dC (.int 24)) (dCons (dC (.int 3)) dNil))))) (r_law_values_5 cs)
def r_law_values_3 (cs : Cs) : RS := dSeq (dSet 4 (dOp dIx (dCall (S_law_scan cs) (dCons (dVar 3) dNil)) (dC (.int 0)))) (r_law_values_4 cs)
def r_law_values_2 (cs : Cs) : RS := dSeq (dIfS (dAnd (dTruth (dVar 2)) (dTest (dOp dNeA (dCall (S_value_text cs 7) (dCons (dVar 1) dNil)) (dVar 3)))) (dRet (dC (.bl false))) dNext) (r_law_values_3 cs)
def r_law_values_1 (cs : Cs) : RS := dSeq (dSet 3 (dCall (S_law_text cs 7) (dCons (dVar 1) dNil))) (r_law_values_2 cs)
def r_law_values (cs : Cs) : RS := dSeq (dUnp [1, 2] (dCall (S_law_value cs) (dCons (dVar 0) (dCons (dC (.int 14)) dNil)))) (r_law_values_1 cs)

/-! law: slots 0 _law_script -/
def r_law (cs : Cs) : RS := (dRet (dAndV (dCall (S_law_lines cs) (dCons (dVar 0) dNil)) (dAndV (dCall (S_law_words cs) (dCons (dVar 0) dNil)) (dCall (S_law_values cs) (dCons (dVar 0) dNil)))))
theorem red_wall (cs : Cs) : ∀ ds M Φ Ψ, S_wall cs ds M Φ Ψ → r_wall cs (ends Φ) (startD 1 ds) M := by
  rintro ds M Φ Ψ h
  exact h.elim
theorem red_Line_below (cs : Cs) : ∀ ds M Φ Ψ, S_Line_below cs ds M Φ Ψ → r_Line_below cs (ends Φ) (startD 3 ds) M := by
  rintro ds M Φ Ψ h
  exact h.elim
theorem nin {k : Nat} {z : Str} {w : List Nat} (hz : z.cps.toList = w) (h : (!decide (k ∈ z.cps.toList)) = true) : k ∉ w := by rw [hz] at h; simpa using h
theorem nin' {k : Nat} {z : Str} {w : List Nat} (hz : z.cps.toList = w) (h : (!decide (k ∈ z.cps.toList)) = false) : k ∈ w := by rw [hz] at h; simpa using h
theorem isin {k : Nat} {z : Str} {w : List Nat} (hz : z.cps.toList = w) (h : decide (k ∈ z.cps.toList) = true) : k ∈ w := by rw [hz] at h; simpa using h
theorem isin' {k : Nat} {z : Str} {w : List Nat} (hz : z.cps.toList = w) (h : decide (k ∈ z.cps.toList) = false) : k ∉ w := by rw [hz] at h; simpa using h
theorem stops_iff {c : Nat} : stops c = true ↔ c ∈ [32, 40, 41] := by
  unfold stops
  simp [or_assoc]
theorem last_at {fs : List (List Nat)} {t : List Nat} (h : fs.getLast? = some t) : atI (WS fs) (-1) = some (W t) := by
  have hn : fs ≠ [] := fun z => by rw [z] at h; cases h
  have hp : 0 < fs.length := List.length_pos_iff.mpr hn
  unfold atI ixN
  have hl : (WS fs).length = fs.length := by unfold WS; rw [List.length_map]
  rw [hl, if_neg (by decide), if_pos (by omega)]
  show (WS fs)[((-1 : Int) + (fs.length : Int)).toNat]? = _
  rw [show ((-1 : Int) + (fs.length : Int)).toNat = fs.length - 1 by omega]
  unfold WS
  rw [List.getElem?_map, ← List.getLast?_eq_getElem?, h] <;> rfl
theorem WS_empty {fs : List (List Nat)} : (WS fs).isEmpty = fs.isEmpty := by cases fs <;> rfl
theorem red_token_begin (cs : Cs) : ∀ ds M Φ Ψ, S_token_begin cs ds M Φ Ψ → r_token_begin cs (ends Φ) (startD 4 ds) M := by
  rintro ds M Φ Ψ ⟨l, i, p, fs, rfl, hM, hi, hl, q1, q2⟩
  have hz := st_sz hl
  refine ⟨hz, _, ix_sg hi, ?_⟩
  have A : opens fs = true → (dRet (dIf (dTest (dOp dEqA (dVar 3) (dC (.str (Str.ofString " "))))) (dNeg (dC (.int 1))) (dVar 1))) (ends Φ) [.d (W l), .d (.int (i : Nat)), .d (.ref p), .d (W [sg l i])] M := by
    intro o
    refine ⟨fun h => ?_, fun h => ?_⟩
    · have c := (List.cons.inj (eqT l_sp h)).1
      refine q2 ?_
      unfold begN
      rw [if_pos o, if_pos c]
    · have c : sg l i ≠ 32 := fun z => eqF l_sp h (by rw [z])
      refine q1 i ?_
      unfold begN
      rw [if_pos o, if_neg c]
  have B : opens fs = false → r_token_begin_2 cs (ends Φ) [.d (W l), .d (.int (i : Nat)), .d (.ref p), .d (W [sg l i])] M := by
    intro o
    have o' : ¬ opens fs = true := by rw [o]; decide
    refine ⟨fun h => ?_, fun h => ?_⟩
    · have c := (List.cons.inj (eqT l_cl h)).1
      refine q1 i ?_
      unfold begN
      rw [if_neg o', if_pos c]
    · have c : sg l i ≠ 41 := fun z => eqF l_cl h (by rw [z])
      have no : (¬ (sg l i = 32 ∧ i + 1 < l.length ∧ sg l (i + 1) ≠ 32 ∧ sg l (i + 1) ≠ 41)) → Φ (.int (-1)) M := fun n => by
        refine q2 ?_
        unfold begN
        rw [if_neg o', if_neg c, if_neg n]
      refine ⟨fun h => ?_, fun h => no fun z => eqF l_sp h (by rw [z.1])⟩
      have c1 := (List.cons.inj (eqT l_sp h)).1
      refine ⟨hz, fun h => ?_, fun h => no fun z => of_decide_eq_false h ?_⟩
      · have c2 := of_decide_eq_true h
        rw [st_len] at c2
        have c2' : i + 1 < l.length := by omega
        refine ⟨hz, _, ix_sg (i := i + 1) c2', _, rfl, fun h => ?_, fun h => no fun z => ?_⟩
        · have c3 : sg l (i + 1) ∉ [32, 41] := nin c_cl h
          refine q1 (i + 1) ?_
          unfold begN
          rw [if_neg o', if_neg c, if_pos ⟨c1, c2', fun z => c3 (by rw [z]; simp), fun z => c3 (by rw [z]; simp)⟩]
        · have c3 : sg l (i + 1) ∈ [32, 41] := nin' c_cl h
          rcases List.mem_cons.mp c3 with e | e
          · exact z.2.2.1 e
          · exact z.2.2.2 (List.mem_singleton.mp e)
      · rw [st_len]
        have := z.2.1
        omega
  cases hg : fs.getLast? with
  | none =>
    have e : fs = [] := List.getLast?_eq_none_iff.mp hg
    have o : opens fs = true := by unfold opens; rw [hg]
    subst e
    exact ⟨_, hM, ff, fun _ => A o⟩
  | some t =>
    have hne : (WS fs).isEmpty = false := by
      rw [WS_empty]
      cases fs with
      | nil => cases hg
      | cons _ _ => rfl
    refine ⟨_, hM, fun _ => ?_, fun h => ?_⟩
    · refine ⟨_, hM, _, last_at hg, fun h => ?_, fun h => ?_⟩
      · refine A ?_
        unfold opens
        rw [hg, eqT l_op h]
        rfl
      · refine B ?_
        unfold opens
        rw [hg]
        exact beq_false_of_ne (eqF l_op h)
    · rw [hne] at h
      cases h
theorem run_stop {l : List Nat} {i : Nat} (h : i < l.length) (hs : stops (sg l i) = true) : runN l i = 0 := by
  unfold runN
  rw [drop_sg h, List.takeWhile_cons_of_neg (by rw [hs]; decide)] <;> rfl
theorem run_go {l : List Nat} {i : Nat} (h : i < l.length) (hs : stops (sg l i) = false) : runN l i = runN l (i + 1) + 1 := by
  unfold runN
  rw [drop_sg h, List.takeWhile_cons_of_pos (by rw [hs]; decide)] <;> rfl
theorem run_end {l : List Nat} {i : Nat} (h : l.length ≤ i) : runN l i = 0 := by
  unfold runN
  rw [List.drop_eq_nil_of_le h] <;> rfl
theorem red_token_end (cs : Cs) : ∀ ds M Φ Ψ, S_token_end cs ds M Φ Ψ → r_token_end cs (ends Φ) (startD 3 ds) M := by
  rintro ds M Φ Ψ ⟨l, b, rfl, hb, hl, q⟩
  have hz := st_sz hl
  refine ⟨hz, _, ix_sg hb, _, rfl, fun h => ?_, fun h => ?_⟩
  · have c : sg l b ∈ [40, 41] := isin c_op h
    have e : endN l b = b + 1 := by
      unfold endN
      rw [if_pos]
      rcases List.mem_cons.mp c with e | e
      · exact .inl e
      · exact .inr (List.mem_singleton.mp e)
    rw [e] at q
    exact q
  · have c : sg l b ∉ [40, 41] := isin' c_op h
    have e : endN l b = b + 1 + runN l (b + 1) := by
      unfold endN
      rw [if_neg]
      rintro (z | z)
      · exact c (by rw [z]; simp)
      · exact c (by rw [z]; simp)
    refine ⟨fun m Δ M' => M' = M ∧ ∃ e : Nat, Δ = [.d (W l), .d (.int (b : Nat)), .d (.int (e : Nat))] ∧ m = l.length - e ∧ b + 1 ≤ e ∧ e ≤ l.length ∧ e + runN l e = b + 1 + runN l (b + 1), ⟨_, rfl, b + 1, rfl, rfl, Nat.le_refl _, hb, rfl⟩, ?_⟩
    rintro m Δ1 M1 ⟨rfl, k, rfl, rfl, k1, k2, k3⟩
    have stop : runN l k = 0 → Φ (.int (k : Nat)) M1 := fun z => by
      have : endN l b = k := by omega
      rw [this] at q
      exact q
    refine ⟨hz, fun h => ?_, fun h => ?_⟩
    · have h := of_decide_eq_true h
      rw [st_len] at h
      have hk : k < l.length := by omega
      refine ⟨hz, _, ix_sg hk, _, rfl, fun h => ?_, fun h => ?_⟩
      · have c : sg l k ∉ [32, 40, 41] := nin c_sp h
        have hs : stops (sg l k) = false := by
          cases z : stops (sg l k) with
          | false => rfl
          | true => exact absurd (stops_iff.mp z) c
        have r := run_go hk hs
        exact ⟨_, show l.length - (k + 1) < l.length - k by omega, rfl, k + 1, rfl, rfl, by omega, by omega, by omega⟩
      · exact stop (run_stop hk (stops_iff.mpr (nin' c_sp h)))
    · have h := of_decide_eq_false h
      rw [st_len] at h
      exact stop (run_end (by omega))
theorem scan_fuel (l : List Nat) : ∀ (k k' i : Nat) (fs : List (List Nat)), i ≤ l.length → l.length < k + i → l.length < k' + i → scanN l k i fs = scanN l k' i fs := by
  intro k
  induction k with
  | zero => intro k' i fs h1 h2; omega
  | succ k ih =>
    intro k' i fs h1 h2 h3
    match k', h3 with
    | 0, h3 => omega
    | k' + 1, h3 =>
      unfold scanN
      by_cases hi : i < l.length
      · rw [if_pos hi, if_pos hi]
        cases hb : begN l i (opens fs) with
        | none => rfl
        | some b =>
          dsimp only
          have : i ≤ b ∧ b < l.length := by
            unfold begN at hb
            split at hb
            · split at hb
              · cases hb
              · cases hb; exact ⟨Nat.le_refl _, hi⟩
            · split at hb
              · cases hb; exact ⟨Nat.le_refl _, hi⟩
              · split at hb
                · rename_i hc
                  cases hb
                  exact ⟨by omega, hc.2.1⟩
                · cases hb
          have e := endN_le this.2
          exact ih k' _ _ e.2 (by omega) (by omega)
      · rw [if_neg hi, if_neg hi]
theorem beg_le {l : List Nat} {i b : Nat} {o : Bool} (hi : i < l.length) (hb : begN l i o = some b) : i ≤ b ∧ b < l.length := by
  unfold begN at hb
  split at hb
  · split at hb
    · cases hb
    · cases hb; exact ⟨Nat.le_refl _, hi⟩
  · split at hb
    · cases hb; exact ⟨Nat.le_refl _, hi⟩
    · split at hb
      · rename_i hc
        cases hb
        exact ⟨by omega, hc.2.1⟩
      · cases hb
theorem cut_st {l : List Nat} {a b : Nat} (h : b ≤ l.length) (hab : a ≤ b) : cutS (st l) (some (a : Int)) (some (b : Int)) = st ((l.drop a).take (b - a)) := by
  unfold cutS
  rw [HT.sIx_nat, HT.sIx_nat, st_len, Nat.min_eq_left (show a ≤ l.length by omega), Nat.min_eq_left h] <;> rfl
theorem WS_snoc {fs : List (List Nat)} {t : List Nat} : WS fs ++ [W t] = WS (fs ++ [t]) := by
  unfold WS
  rw [List.map_append] <;> rfl
theorem WS_len {fs : List (List Nat)} : (WS fs).length = fs.length := by
  unfold WS
  rw [List.length_map]
theorem red_tokens_of (cs : Cs) : ∀ ds M Φ Ψ, S_tokens_of cs ds M Φ Ψ → r_tokens_of cs Ψ (ends Φ) (startD 5 ds) M := by
  rintro ds M Φ Ψ ⟨l, n, rfl, hl, q1, q2⟩
  have hz := st_sz hl
  refine fun p hp => ?_
  refine ⟨fun m Δ M' => ∃ (i : Nat) (fs : List (List Nat)), Δ = [.d (W l), .d (.int n), .d (.ref p), .d (.int (i : Nat)), .un] ∧ M' = updM M p (.lst (WS fs)) ∧ i ≤ l.length ∧ fs.length ≤ i ∧ m = l.length - i ∧ scanN l (l.length + 1 - i) i fs = scan l,
    ⟨_, 0, [], rfl, rfl, Nat.zero_le _, Nat.le_refl _, rfl, rfl⟩, ?_⟩
  rintro m Δ1 M1 ⟨i, fs, rfl, rfl, hi, hf, rfl, hs⟩
  refine ⟨hz, fun h => ?_, fun h => ?_⟩
  · have h := of_decide_eq_true h
    rw [st_len] at h
    have hlt : i < l.length := by omega
    have hs' := hs
    obtain ⟨k, hk⟩ : ∃ k, l.length + 1 - i = k + 1 := ⟨l.length - i, by omega⟩
    rw [hk] at hs'
    unfold scanN at hs'
    rw [if_pos hlt] at hs'
    refine ⟨l, i, p, fs, rfl, updM_same, hlt, hl, fun b hb => ?_, fun hb => ?_⟩
    · rw [hb] at hs'
      dsimp only at hs'
      obtain ⟨b1, b2⟩ := beg_le hlt hb
      obtain ⟨e1, e2⟩ := endN_le b2
      refine ⟨fun z => absurd (of_decide_eq_true z) (by omega), fun _ => ?_⟩
      refine ⟨l, b, rfl, b2, hl, ?_⟩
      refine ⟨⟨_, updM_same⟩, hz, ?_⟩
      rw [cut_st e2 (by omega)]
      refine ⟨_, updM_same, ?_, ?_⟩
      · rw [WS_len]
        have := BL_size
        omega
      · refine ⟨l.length - endN l b, by omega, endN l b, fs ++ [tokN l b], rfl, ?_, e2, ?_, rfl, ?_⟩
        · rw [updM_updM, ← WS_snoc] <;> rfl
        · rw [List.length_append]
          show fs.length + 1 ≤ _
          omega
        · rw [← hs']
          exact scan_fuel l _ _ _ _ e2 (by omega) (by omega)
    · rw [hb] at hs'
      refine ⟨fun _ => ?_, fun z => absurd (show ((-1 : Int) < 0) by decide) (of_decide_eq_false z)⟩
      refine ⟨_, updM_same, rfl, ?_⟩
      rw [WS_len]
      have e2 : (scan l).2 = fs.length + 1 := by rw [← hs']
      have := q2 (by omega) (updM M p (.lst (WS fs)))
      rw [e2] at this
      exact this
  · have h := of_decide_eq_false h
    rw [st_len] at h
    have e : i = l.length := by omega
    have hs' : (fs, 0) = scan l := by
      rw [← hs, e, show l.length + 1 - l.length = 1 by omega]
      unfold scanN
      rw [if_neg (by omega)]
    have := q1 (by rw [← hs']) p hp
    rw [← hs'] at this
    exact this
theorem scan_ok {l : List Nat} (h : l.length ≤ BL) : ∀ (k i : Nat) (fs : List (List Nat)), i ≤ l.length → fs.length ≤ i → (∀ t ∈ fs, t.length ≤ l.length) → (scanN l k i fs).1.length ≤ l.length ∧ ∀ t ∈ (scanN l k i fs).1, t.length ≤ l.length := by
  intro k
  induction k with
  | zero => intro i fs h1 h2 h3; exact ⟨by show fs.length ≤ _; omega, h3⟩
  | succ k ih =>
    intro i fs h1 h2 h3
    unfold scanN
    by_cases hi : i < l.length
    · rw [if_pos hi]
      cases hb : begN l i (opens fs) with
      | none => exact ⟨by show fs.length ≤ _; omega, h3⟩
      | some b =>
        dsimp only
        obtain ⟨b1, b2⟩ := beg_le hi hb
        obtain ⟨e1, e2⟩ := endN_le b2
        refine ih _ _ e2 ?_ ?_
        · rw [List.length_append]
          show fs.length + 1 ≤ _
          omega
        · intro t ht
          rcases List.mem_append.mp ht with ht | ht
          · exact h3 t ht
          · rw [List.mem_singleton.mp ht]
            unfold tokN
            rw [List.length_take, List.length_drop]
            omega
    · rw [if_neg hi]
      exact ⟨by show fs.length ≤ _; omega, h3⟩
theorem scan_tok {l : List Nat} (h : l.length ≤ BL) : TokOk (scan l).1 := by
  obtain ⟨a, b⟩ := scan_ok h (l.length + 1) 0 [] (Nat.zero_le _) (Nat.le_refl _) (fun _ z => by cases z)
  exact ⟨Nat.le_trans a h, fun t ht => Nat.le_trans (b t ht) h⟩
/-! ### words of numbers, names -/
theorem dig_asc : ((List.range 128).all fun c => Unicode.isDigit c == isDig c) = true := by decide +kernel
theorem low_asc : ((List.range 128).all fun c => (Unicode.isAlpha c && Unicode.isLower c && !(Unicode.isUpper c || Unicode.isTitle c)) == (decide (97 ≤ c) && decide (c ≤ 122))) = true := by decide +kernel
theorem asc_st (t : List Nat) : Txt.isascii (st t) = t.all (· < 128) := by
  unfold Txt.isascii st
  simp
theorem dgt_st (t : List Nat) : Txt.isdigit (st t) = (decide (0 < t.length) && t.all Unicode.isDigit) := by
  unfold Txt.isdigit
  rw [st_len]
  unfold st
  simp
theorem alp_st (t : List Nat) : Txt.isalpha (st t) = (decide (0 < t.length) && t.all Unicode.isAlpha) := by
  unfold Txt.isalpha
  rw [st_len]
  unfold st
  simp
theorem low_st (t : List Nat) : Txt.islower (st t) = (t.any Unicode.isLower && !t.any fun c => Unicode.isUpper c || Unicode.isTitle c) := by
  unfold Txt.islower st
  simp
theorem low1 : ((List.range 128).all fun c => (Unicode.isAlpha c && !(Unicode.isUpper c || Unicode.isTitle c)) == (decide (97 ≤ c) && decide (c ≤ 122))) = true := by decide +kernel
theorem low2 : ((List.range 128).all fun c => !(decide (97 ≤ c) && decide (c ≤ 122)) || Unicode.isLower c) = true := by decide +kernel
theorem asc_all {t : List Nat} (h : t.all (· < 128) = true) : ∀ c ∈ t, c < 128 := fun c hc => of_decide_eq_true (List.all_eq_true.mp h c hc)
theorem red_is_digits (cs : Cs) : ∀ ds M Φ Ψ, S_is_digits cs ds M Φ Ψ → r_is_digits cs (ends Φ) (startD 1 ds) M := by
  rintro ds M Φ Ψ ⟨t, rfl, q⟩
  refine ⟨fun h => ?_, fun h => ?_⟩
  · rw [asc_st] at h
    have ha := asc_all h
    have e : Txt.isdigit (st t) = digsOk t := by
      rw [dgt_st]
      unfold digsOk
      have e1 : t.all Unicode.isDigit = t.all isDig := by
        rw [Bool.eq_iff_iff, List.all_eq_true, List.all_eq_true]
        constructor
        · intro z c hc
          rw [← eq_of_beq (all_range dig_asc (ha c hc))]
          exact z c hc
        · intro z c hc
          rw [eq_of_beq (all_range dig_asc (ha c hc))]
          exact z c hc
      rw [e1]
      congr 1
      rw [decide_eq_decide, List.length_pos_iff]
    show Φ (.bl (Txt.isdigit (st t))) M
    rw [e]
    exact q
  · rw [asc_st] at h
    have e : digsOk t = false := by
      unfold digsOk
      rw [Bool.and_eq_false_iff]
      right
      rw [Bool.eq_false_iff]
      intro z
      rw [Bool.eq_false_iff] at h
      refine h (List.all_eq_true.mpr fun c hc => ?_)
      have := List.all_eq_true.mp z c hc
      unfold isDig at this
      rw [Bool.and_eq_true, decide_eq_true_iff, decide_eq_true_iff] at this
      exact decide_eq_true (by omega)
    rw [e] at q
    exact q
theorem numI_neg {t : List Nat} (h : numT t = none) : numI t = -1 := by unfold numI; rw [h]
theorem digsOk_iff {t : List Nat} : digsOk t = true ↔ t ≠ [] ∧ t.all isDig = true := by
  unfold digsOk
  rw [Bool.and_eq_true, decide_eq_true_iff]
theorem numT_int {t : List Nat} {v : Nat} (h : numT t = some v) : PySem.intText? (st t) = some ((v : Nat) : Int) := by
  obtain ⟨h1, h2⟩ := numT_some h
  have e : st t = Str.ofString (toString ((v : Nat) : Int)) := str_of_toList h1.symm
  rw [e]
  exact PySem.W.KIN.num_reads (by omega) (by omega)
theorem red_whole_in (cs : Cs) : ∀ ds M Φ Ψ, S_whole_in cs ds M Φ Ψ → r_whole_in cs (ends Φ) (startD 2 ds) M := by
  rintro ds M Φ Ψ ⟨t, rfl, hl, q⟩
  have hz := st_sz hl
  have no : numT t = none → Φ (.int (-1)) M := fun h => by
    rw [numI_neg h] at q
    exact q
  have nt : ¬ (t ≠ [] ∧ t.length ≤ 3 ∧ t.all isDig = true ∧ (sg t 0 = 48 → t.length = 1)) → numT t = none := fun h => by
    unfold numT
    rw [if_neg h]
  refine ⟨t, rfl, fun h => ?_, fun h => no (nt fun z => ?_)⟩
  · obtain ⟨h1, h2⟩ := digsOk_iff.mp h
    have hp : 0 < t.length := List.length_pos_iff.mpr h1
    refine ⟨hz, fun h3 => no (nt fun z => ?_), fun h3 => ?_⟩
    · have h3 := of_decide_eq_true h3
      rw [st_len] at h3
      omega
    · have h3 := of_decide_eq_false h3
      rw [st_len] at h3
      have last : (sg t 0 = 48 → t.length = 1) → r_whole_in_2 cs (ends Φ) [.d (W t), .d (.int 3)] M := fun h4 => by
        have e : numT t = some (valN t) := by
          unfold numT
          rw [if_pos ⟨h1, by omega, h2, h4⟩]
        refine ⟨_, numT_int e, ?_, ?_⟩
        · rw [st_len]; omega
        · have : numI t = ((valN t : Nat) : Int) := by unfold numI; rw [e]
          rw [this] at q
          exact q
      refine ⟨hz, _, ix_sg (i := 0) hp, fun h4 => ?_, fun h4 => last fun z => absurd z ?_⟩
      · have h5 : sg t 0 = 48 := (List.cons.inj (eqT l_0 h4)).1
        refine ⟨fun h6 => no (nt fun z => ?_), fun h6 => last fun _ => ?_⟩
        · have h7 : decide (st t = Str.ofString "0") = false := by simpa using h6
          refine eqF l_0 h7 ?_
          match t, z.2.2.2 h5, h5 with
          | [a], _, h5 => rw [show a = 48 from h5]
        · have h7 : decide (st t = Str.ofString "0") = true := by simpa using h6
          rw [eqT l_0 h7] <;> rfl
      · have : decide (st [sg t 0] = Str.ofString "0") = false := h4
        exact fun z => eqF l_0 this (by rw [z])
  · rw [digsOk_iff.mpr ⟨z.1, z.2.2.1⟩] at h
    cases h
theorem red_number_in (cs : Cs) : ∀ ds M Φ Ψ, S_number_in cs ds M Φ Ψ → r_number_in cs (ends Φ) (startD 1 ds) M := by
  rintro ds M Φ Ψ ⟨t, rfl, hl, q⟩
  exact ⟨t, rfl, hl, q⟩
theorem red_is_name (cs : Cs) : ∀ ds M Φ Ψ, S_is_name cs ds M Φ Ψ → r_is_name cs (ends Φ) (startD 1 ds) M := by
  rintro ds M Φ Ψ ⟨t, rfl, hl, q⟩
  have no : nameOk t = false → Φ (.bl false) M := fun h => by
    rw [h] at q
    exact q
  refine ⟨st_sz hl, fun h => ?_, fun h => no ?_⟩
  · have h := of_decide_eq_true h
    rw [st_len] at h
    have h6 : t.length ≤ 6 := by omega
    refine ⟨fun ha => ?_, fun ha => no ?_⟩
    · rw [asc_st] at ha
      have ha := asc_all ha
      refine ⟨fun hb => ?_, fun hb => no ?_⟩
      · rw [alp_st, Bool.and_eq_true, decide_eq_true_iff, List.all_eq_true] at hb
        have e : Txt.islower (st t) = nameOk t := by
          rw [low_st]
          unfold nameOk
          rw [decide_eq_true (show 1 ≤ t.length from hb.1), decide_eq_true h6, Bool.true_and, Bool.true_and, Bool.eq_iff_iff, Bool.and_eq_true, Bool.not_eq_true', Bool.eq_false_iff]
          unfold lowOk
          rw [List.all_eq_true]
          constructor
          · rintro ⟨_, z⟩ c hc
            have f := eq_of_beq (all_range low1 (ha c hc))
            rw [← f, hb.2 c hc, Bool.true_and, Bool.not_eq_true', Bool.eq_false_iff]
            exact fun w => z (List.any_eq_true.mpr ⟨c, hc, w⟩)
          · intro z
            constructor
            · obtain ⟨c, hc⟩ := List.exists_mem_of_length_pos hb.1
              refine List.any_eq_true.mpr ⟨c, hc, ?_⟩
              have f := all_range low2 (ha c hc)
              rw [z c hc] at f
              exact f
            · intro w
              obtain ⟨c, hc, w⟩ := List.any_eq_true.mp w
              have f := eq_of_beq (all_range low1 (ha c hc))
              rw [z c hc, w] at f
              simp at f
        show Φ (.bl (Txt.islower (st t))) M
        rw [e]
        exact q
      · rw [alp_st] at hb
        unfold nameOk
        rw [Bool.eq_false_iff] at hb ⊢
        intro z
        rw [Bool.and_eq_true, Bool.and_eq_true, decide_eq_true_iff] at z
        refine hb ?_
        rw [Bool.and_eq_true, decide_eq_true_iff, List.all_eq_true]
        refine ⟨z.1.1, fun c hc => ?_⟩
        have f := eq_of_beq (all_range low1 (ha c hc))
        rw [List.all_eq_true.mp z.2 c hc] at f
        rw [Bool.and_eq_true] at f
        exact f.1
    · rw [asc_st] at ha
      unfold nameOk
      rw [Bool.eq_false_iff] at ha ⊢
      intro z
      rw [Bool.and_eq_true] at z
      refine ha (List.all_eq_true.mpr fun c hc => ?_)
      have := List.all_eq_true.mp z.2 c hc
      rw [Bool.and_eq_true, decide_eq_true_iff, decide_eq_true_iff] at this
      exact decide_eq_true (by omega)
  · have h := of_decide_eq_false h
    rw [st_len] at h
    unfold nameOk
    rw [decide_eq_false (show ¬ t.length ≤ 6 by omega), Bool.and_false, Bool.false_and]
/-! ### the Line -/
abbrev lineO (q : Addr) (n : Int) (i : Int) : List (Str × D) := [("tokens", .ref q), ("number", .int n), ("place", .int i)]
theorem lk_t {q : Addr} {n i : Int} : (lineO q n i).lookup ("tokens" : Str) = some (D.ref q) := by rfl
theorem lk_n {q : Addr} {n i : Int} : (lineO q n i).lookup ("number" : Str) = some (D.int n) := by rfl
theorem lk_p {q : Addr} {n i : Int} : (lineO q n i).lookup ("place" : Str) = some (D.int i) := by rfl
theorem lk_here {q : Addr} {n i : Int} : (lineO q n i).lookup ("here" : Str) = none := by rfl
theorem lk_need {q : Addr} {n i : Int} : (lineO q n i).lookup ("need" : Str) = none := by rfl
theorem lk_take {q : Addr} {n i : Int} : (lineO q n i).lookup ("take" : Str) = none := by rfl
theorem lk_mark {q : Addr} {n i : Int} : (lineO q n i).lookup ("mark" : Str) = none := by rfl
theorem lk_whole {q : Addr} {n i : Int} : (lineO q n i).lookup ("whole" : Str) = none := by rfl
theorem lk_finish {q : Addr} {n i : Int} : (lineO q n i).lookup ("finish" : Str) = none := by rfl
theorem pt_p {q : Addr} {n i j : Int} : putD "place" (.int j) (lineO q n i) = lineO q n j := by rfl
abbrev lineO1 (q : Addr) : List (Str × D) := [("tokens", .ref q)]
abbrev lineO2 (q : Addr) (n : Int) : List (Str × D) := [("tokens", .ref q), ("number", .int n)]
theorem pt1 {q : Addr} : putD "tokens" (.ref q) [] = lineO1 q := by rfl
theorem pt2 {q : Addr} {n : Int} : putD "number" (.int n) (lineO1 q) = lineO2 q n := by rfl
theorem pt3 {q : Addr} {n j : Int} : putD "place" (.int j) (lineO2 q n) = lineO q n j := by rfl
theorem ws_at {ts : List (List Nat)} {i : Nat} (h : i < ts.length) : atI (WS ts) (i : Int) = some (W (ts.getD i [])) := atI_nat (by
  unfold WS
  rw [List.getElem?_map, List.getD_eq_getElem?_getD, List.getElem?_eq_getElem h] <;> rfl)
theorem tok_len {ts : List (List Nat)} (h : TokOk ts) (i : Nat) : (ts.getD i []).length ≤ BL := by
  by_cases hi : i < ts.length
  · rw [List.getD_eq_getElem?_getD, List.getElem?_eq_getElem hi]
    exact h.2 _ (List.getElem_mem hi)
  · rw [getD_ge (by omega)]
    exact Nat.zero_le _
theorem LineAt.step {cs : Cs} {M : Mem} {s q : Addr} {ts : List (List Nat)} {n : Int} {i : Nat} (L : LineAt cs M s q ts n i) (j : Nat) : LineAt cs (updM M s (.ins cs.Line (lineO q n (j : Nat)))) s q ts n j :=
  ⟨updM_same, by rw [updM_ne L.ne]; exact L.lst, L.ne, L.ok⟩
theorem red_Line_init (cs : Cs) : ∀ ds M Φ Ψ, S_Line_init cs ds M Φ Ψ → r_Line_init cs Ψ (ends Φ) (startD 3 ds) M := by
  rintro ds M Φ Ψ ⟨s, l, n, rfl, hs, hl, q1, q2⟩
  refine ⟨l, n, rfl, hl, fun h0 p hp => ?_, fun h M' => q2 h M'⟩
  have ne : p ≠ s := fun z => by rw [z, hs] at hp; cases hp
  refine ⟨_, by rw [updM_ne ne.symm]; exact hs, by decide, ?_⟩
  rw [pt1]
  refine ⟨_, updM_same, (by show 1 < 1000; decide), ?_⟩
  rw [pt2]
  refine ⟨_, updM_same, (by show 2 < 1000; decide), ?_⟩
  rw [pt3]
  exact q1 h0 p _ ⟨updM_same, by rw [updM_ne ne, updM_ne ne, updM_ne ne]; exact updM_same, ne, scan_tok hl⟩
theorem red_Line_here (cs : Cs) : ∀ ds M Φ Ψ, S_Line_here cs ds M Φ Ψ → r_Line_here cs (ends Φ) (startD 1 ds) M := by
  rintro ds M Φ Ψ ⟨s, q, ts, n, i, rfl, L, k⟩
  refine ⟨_, _, L.obj, lk_p, _, _, L.obj, lk_t, _, L.lst, fun h => ?_, fun h => ?_⟩
  · have h := of_decide_eq_true h
    rw [WS_len] at h
    exact ⟨_, _, L.obj, lk_t, _, _, L.obj, lk_p, _, L.lst, _, ws_at (by omega), k⟩
  · have h := of_decide_eq_false h
    rw [WS_len] at h
    rw [getD_ge (by omega)] at k
    show Φ (.str (Str.ofString "")) M
    rw [l_no]
    exact k
theorem red_Line_need (cs : Cs) : ∀ ds M Φ Ψ, S_Line_need cs ds M Φ Ψ → r_Line_need cs Ψ (ends Φ) (startD 2 ds) M := by
  rintro ds M Φ Ψ ⟨s, q, ts, n, i, b, rfl, L, k1, k2⟩
  exact ⟨fun h => k1 h, fun h => ⟨_, _, L.obj, lk_n, _, _, L.obj, lk_p, rfl, k2 h M⟩⟩
theorem red_Line_take (cs : Cs) : ∀ ds M Φ Ψ, S_Line_take cs ds M Φ Ψ → r_Line_take cs Ψ (ends Φ) (startD 3 ds) M := by
  rintro ds M Φ Ψ ⟨s, q, ts, n, i, b, rfl, L, k1, k2⟩
  refine ⟨⟨_, L.obj, lk_here⟩, s, q, ts, n, i, rfl, L, ?_⟩
  refine ⟨⟨_, L.obj, lk_need⟩, s, q, ts, n, i, b, rfl, L, fun hb => ?_, fun hb M' => k2 hb M'⟩
  refine ⟨_, _, L.obj, lk_p, _, L.obj, (by show 3 < 1000; decide), ?_⟩
  rw [pt_p]
  exact k1 hb _ (L.step (i + 1))
theorem red_Line_mark (cs : Cs) : ∀ ds M Φ Ψ, S_Line_mark cs ds M Φ Ψ → r_Line_mark cs Ψ (ends Φ) (startD 2 ds) M := by
  rintro ds M Φ Ψ ⟨s, q, ts, n, i, g, rfl, L, k1, k2⟩
  refine ⟨⟨_, L.obj, lk_take⟩, ⟨_, L.obj, lk_here⟩, s, q, ts, n, i, rfl, L, ?_⟩
  exact ⟨s, q, ts, n, i, _, rfl, L, fun h M' L' => k1 (eqT rfl h) M' L', fun h M' => k2 (eqF rfl h) M'⟩
theorem red_Line_whole (cs : Cs) : ∀ ds M Φ Ψ, S_Line_whole cs ds M Φ Ψ → r_Line_whole cs Ψ (ends Φ) (startD 3 ds) M := by
  rintro ds M Φ Ψ ⟨s, q, ts, n, i, rfl, L, k1, k2⟩
  refine ⟨⟨_, L.obj, lk_here⟩, s, q, ts, n, i, rfl, L, ?_⟩
  refine ⟨_, rfl, tok_len L.ok i, ?_⟩
  refine ⟨⟨_, L.obj, lk_take⟩, s, q, ts, n, i, _, rfl, L, fun h M' L' => ?_, fun h M' => ?_⟩
  · have h := of_decide_eq_true h
    cases e : numT (ts.getD i []) with
    | none => rw [numI_neg e] at h; exact absurd h (by decide)
    | some v =>
      have : numI (ts.getD i []) = ((v : Nat) : Int) := by unfold numI; rw [e]
      have := k1 v e M' L'
      show Φ (.int (numI (ts.getD i []))) M'
      rw [show numI (ts.getD i []) = ((v : Nat) : Int) by unfold numI; rw [e]]
      exact this
  · have h := of_decide_eq_false h
    cases e : numT (ts.getD i []) with
    | none => exact k2 e M'
    | some v =>
      rw [show numI (ts.getD i []) = ((v : Nat) : Int) by unfold numI; rw [e]] at h
      omega
theorem red_Line_name (cs : Cs) : ∀ ds M Φ Ψ, S_Line_name cs ds M Φ Ψ → r_Line_name cs Ψ (ends Φ) (startD 1 ds) M := by
  rintro ds M Φ Ψ h
  exact h.elim
theorem red_Line_finish (cs : Cs) : ∀ ds M Φ Ψ, S_Line_finish cs ds M Φ Ψ → r_Line_finish cs Ψ (ends Φ) (startD 1 ds) M := by
  rintro ds M Φ Ψ ⟨s, q, ts, n, i, rfl, L, k1, k2⟩
  refine ⟨⟨_, L.obj, lk_need⟩, _, _, L.obj, lk_p, _, _, L.obj, lk_t, _, L.lst, s, q, ts, n, i, _, rfl, L, fun h => ?_, fun h M' => ?_⟩
  · have h := of_decide_eq_true h
    rw [WS_len] at h
    exact k1 (by omega)
  · have h := of_decide_eq_false h
    rw [WS_len] at h
    exact k2 (by omega) M'
theorem red_value_in (cs : Cs) (n : Nat) : ∀ ds M Φ Ψ, S_value_in cs (n + 1) ds M Φ Ψ → r_value_in cs n Ψ (ends Φ) (startD 4 ds) M := by
  rintro ds M Φ Ψ ⟨s, q, ts, nn, i, d, rfl, hd, hn, L, k1, k2⟩
  have leaf : ∀ (_ : ∀ v, numT (ts.getD i []) = some v → parse ts d i = .inl (.n (v : Nat), i + 1)) (_ : numT (ts.getD i []) = none → parse ts d i = .inr (i + 1)), r_value_in_1 cs n Ψ (ends Φ) [.d (.ref s), .d (.int (d : Nat)), .un, .un] M := fun h1 h2 =>
    ⟨⟨_, L.obj, lk_whole⟩, s, q, ts, nn, i, rfl, L, fun v hv M' L' => k1 _ _ (h1 v hv) M' L', fun hv M' => k2 _ (h2 hv) M'⟩
  cases d with
  | zero =>
    refine ⟨fun h => absurd (of_decide_eq_true h) (by decide), fun _ => leaf (fun v hv => ?_) (fun hv => ?_)⟩
    · unfold parse; rw [hv]
    · unfold parse; rw [hv]
  | succ d =>
    refine ⟨fun _ => ?_, fun h => absurd (show (0 : Int) < ((d + 1 : Nat) : Int) by omega) (of_decide_eq_false h)⟩
    refine ⟨⟨_, L.obj, lk_here⟩, s, q, ts, nn, i, rfl, L, fun h => ?_, fun h => ?_⟩
    · have ho := eqT l_op h
      have hm : W [40] = .str (Str.ofString "(") := by unfold W; rw [l_op]
      refine ⟨⟨_, L.obj, lk_mark⟩, s, q, ts, nn, i, [40], by rw [hm], L, fun _ M1 L1 => ?_, fun z => absurd ho z⟩
      have dd : ((d + 1 : Nat) : Int) - 1 = (d : Nat) := by omega
      refine ⟨s, q, ts, nn, i + 1, d, (by dsimp only; rw [dd]), by omega, by omega, L1, fun a j p1 M2 L2 => ?_, fun k p1 M' => ?_⟩
      · refine ⟨s, q, ts, nn, j, d, (by dsimp only; rw [dd]), by omega, by omega, L2, fun b r p2 M3 L3 => ?_, fun k p2 M' => ?_⟩
        · have hc : W [41] = .str (Str.ofString ")") := by unfold W; rw [l_cl]
          refine ⟨⟨_, L3.obj, lk_mark⟩, s, q, ts, nn, r, [41], by rw [hc], L3, fun h5 M4 L4 => ?_, fun h5 M' => ?_⟩
          · refine k1 (.p a b) (r + 1) ?_ M4 L4
            unfold parse
            rw [if_pos ho, p1]
            dsimp only
            rw [p2]
            dsimp only
            rw [if_pos h5]
          · refine k2 (r + 1) ?_ M'
            unfold parse
            rw [if_pos ho, p1]
            dsimp only
            rw [p2]
            dsimp only
            rw [if_neg h5]
        · refine k2 k ?_ M'
          unfold parse
          rw [if_pos ho, p1]
          dsimp only
          rw [p2]
      · refine k2 k ?_ M'
        unfold parse
        rw [if_pos ho, p1]
    · have ho := eqF l_op h
      refine leaf (fun v hv => ?_) (fun hv => ?_)
      · unfold parse; rw [if_neg ho, hv]
      · unfold parse; rw [if_neg ho, hv]
theorem red_last_value_in (cs : Cs) : ∀ ds M Φ Ψ, S_last_value_in cs ds M Φ Ψ → r_last_value_in cs Ψ (ends Φ) (startD 2 ds) M := by
  rintro ds M Φ Ψ ⟨s, q, ts, nn, rfl, L, k1, k2⟩
  refine ⟨s, q, ts, nn, 0, 4, rfl, by decide, by decide, L, fun v j p1 M1 L1 => ?_, fun k p1 M' => ?_⟩
  · refine ⟨⟨_, L1.obj, lk_finish⟩, s, q, ts, nn, j, rfl, L1, fun h => ?_, fun h M' => ?_⟩
    · refine k1 v ?_ M1
      unfold readT
      rw [p1]
      dsimp only
      rw [if_pos h]
    · refine k2 (j + 1) ?_ M'
      unfold readT
      rw [p1]
      dsimp only
      rw [if_neg h]
  · refine k2 k ?_ M'
    unfold readT
    rw [p1]
theorem red_read_value (cs : Cs) : ∀ ds M Φ Ψ, S_read_value cs ds M Φ Ψ → r_read_value cs Ψ (ends Φ) (startD 1 ds) M := by
  rintro ds M Φ Ψ ⟨l, rfl, hl, k1, k2⟩
  refine fun s hs => ?_
  refine ⟨s, l, 1, rfl, updM_same, hl, fun h0 q M' L => ⟨rfl, ?_⟩, fun h0 M' => ?_⟩
  · refine ⟨s, q, _, 1, rfl, L, fun v hv M2 => k1 v ?_ M2, fun k hv M2 => k2 k ?_ M2⟩
    · unfold readL; rw [if_pos h0, hv]
    · unfold readL; rw [if_pos h0, hv]
  · refine k2 _ ?_ M'
    unfold readL
    rw [if_neg h0]
theorem red_is_value_text (cs : Cs) : ∀ ds M Φ Ψ, S_is_value_text cs ds M Φ Ψ → r_is_value_text cs (ends Φ) (startD 1 ds) M := by
  rintro ds M Φ Ψ ⟨l, rfl, hl, k1, k2⟩
  refine ⟨l, rfl, hl, fun v hv M' => k1 v hv M', fun k hv M' => ?_⟩
  exact ⟨true, List.mem_singleton.mpr rfl, fun _ a => k2 k hv M', tf⟩
theorem ix0 {x y : D} : atI [x, y] (0 : Int) = some x := rfl
theorem ix1 {x y : D} : atI [x, y] (1 : Int) = some y := rfl
theorem kt_i : kitB "int" "tuple" = some false := by decide +kernel
theorem kt_t : kitB "tuple" "tuple" = some true := by decide +kernel
theorem kb_i : kitB "int" "bool" = some false := by decide +kernel
theorem ki_i : kitB "int" "int" = some true := by decide +kernel
theorem st_app {u w : List Nat} : st u ++ st w = st (u ++ w) := str_of_toList (by
  show ((st u).cps ++ (st w).cps).toList = _
  rw [Array.toList_append] <;> rfl)
theorem l_em : Str.empty = st [] := str_of_toList rfl
theorem W_num {i : Int} : W (digs i) = .str (Str.ofString (toString i)) := congrArg D.str (str_of_toList rfl)
theorem digs_len {i : Int} (h : 0 ≤ i ∧ i < 10000) : (digs i).length ≤ 10 := by
  have g := PySem.W.KT.len_num h.1 (show i < 10 ^ 10 by omega)
  have : (Str.ofString (toString i)).length = (digs i).length := by
    unfold digs
    rw [Array.length_toList] <;> rfl
  omega
theorem text_len : ∀ {t : T}, Below 10000 t → (textT t).length + 3 ≤ 16 * 2 ^ t.dep
  | .n i, h => by
    have := digs_len h
    show (digs i).length + 3 ≤ 16 * 2 ^ 0
    omega
  | .p a b, h => by
    have ha := text_len h.1
    have hb := text_len h.2
    show (40 :: (textT a ++ 32 :: (textT b ++ [41]))).length + 3 ≤ 16 * 2 ^ (1 + max a.dep b.dep)
    have e : (40 :: (textT a ++ 32 :: (textT b ++ [41]))).length = (textT a).length + (textT b).length + 3 := by
      simp only [List.length_cons, List.length_append, List.length_nil]
      omega
    have pa : 2 ^ a.dep ≤ 2 ^ (max a.dep b.dep) := Nat.pow_le_pow_right (by decide) (Nat.le_max_left ..)
    have pb : 2 ^ b.dep ≤ 2 ^ (max a.dep b.dep) := Nat.pow_le_pow_right (by decide) (Nat.le_max_right ..)
    rw [e, Nat.add_comm 1, Nat.pow_succ]
    omega
theorem text_BL {t : T} (h : Below 10000 t) (hd : t.dep ≤ 10) : (textT t).length ≤ 20000 := by
  have g := text_len h
  have p : 2 ^ t.dep ≤ 2 ^ 10 := Nat.pow_le_pow_right (by decide) hd
  omega
theorem lg {i : Int} (h : 0 ≤ i ∧ i < 10000) : i.natAbs.log2 < 1920 := by
  by_cases z : i.natAbs = 0
  · rw [z]; decide
  · rw [Nat.log2_lt z]
    have : (10000 : Nat) < 2 ^ 14 := by decide
    exact Nat.lt_of_lt_of_le (show i.natAbs < 2 ^ 14 by omega) (Nat.pow_le_pow_right (by decide) (by decide))
theorem sz_bl {n : Nat} (h : n ≤ 100000) : n ≤ sizeLine := by
  have := BL_size
  have : (100000 : Nat) ≤ BL := by decide
  omega
theorem text_p {a b : T} : textT (.p a b) = ((((([] ++ [40]) ++ textT a) ++ [32]) ++ textT b) ++ [41]) := by
  show 40 :: (textT a ++ 32 :: (textT b ++ [41])) = _
  simp
theorem red_value_text (cs : Cs) (n : Nat) : ∀ ds M Φ Ψ, S_value_text cs (n + 1) ds M Φ Ψ → r_value_text cs n (ends Φ) (startD 1 ds) M := by
  rintro ds M Φ Ψ ⟨t, rfl, h1, h2, h3, h4, q⟩
  cases t with
  | n i =>
    refine ⟨_, kt_i, ff, fun _ => ⟨lg h4, ?_⟩⟩
    have q' : Φ (W (digs i)) M := q
    rw [W_num] at q'
    exact q'
  | p a b =>
    have d1 : 1 + max a.dep b.dep < n + 1 := h1
    have d2 : 1 + max a.dep b.dep ≤ 10 := h3
    have la := text_BL h4.1 (by omega)
    have lb := text_BL h4.2 (by omega)
    refine ⟨_, kt_t, fun _ => ?_, tf⟩
    refine ⟨?_, _, ix0, a, rfl, by omega, by omega, by omega, h4.1, st_sz (Nat.le_trans la (by decide)), ?_, ?_, _, ix1, b, rfl, by omega, by omega, by omega, h4.2, st_sz (Nat.le_trans lb (by decide)), ?_, ?_, ?_⟩
    · rw [l_em, l_op, st_app, st_len]; exact sz_bl (by decide)
    · rw [l_em, l_op, st_app, st_app, st_len]
      refine sz_bl ?_
      simp only [List.length_append, List.length_cons, List.length_nil]
      omega
    · rw [l_em, l_op, l_sp, st_app, st_app, st_app, st_len]
      refine sz_bl ?_
      simp only [List.length_append, List.length_cons, List.length_nil]
      omega
    · rw [l_em, l_op, l_sp, st_app, st_app, st_app, st_app, st_len]
      refine sz_bl ?_
      simp only [List.length_append, List.length_cons, List.length_nil]
      omega
    · rw [l_em, l_op, l_sp, l_cl, st_app, st_app, st_app, st_app, st_app, st_len]
      refine sz_bl ?_
      simp only [List.length_append, List.length_cons, List.length_nil]
      omega
    · show Φ (.str _) M
      rw [l_em, l_op, l_sp, l_cl, st_app, st_app, st_app, st_app, st_app, ← text_p]
      exact q
theorem red_law_text (cs : Cs) (n : Nat) : ∀ ds M Φ Ψ, S_law_text cs (n + 1) ds M Φ Ψ → r_law_text cs n (ends Φ) (startD 1 ds) M := by
  rintro ds M Φ Ψ ⟨t, rfl, h1, h2, h3, h4, q⟩
  cases t with
  | n i =>
    refine ⟨_, kt_i, ff, fun _ => ⟨lg h4, ?_⟩⟩
    have q' : Φ (W (digs i)) M := q
    rw [W_num] at q'
    exact q'
  | p a b =>
    have d1 : 1 + max a.dep b.dep < n + 1 := h1
    have d2 : 1 + max a.dep b.dep ≤ 10 := h3
    have la := text_BL h4.1 (by omega)
    have lb := text_BL h4.2 (by omega)
    refine ⟨_, kt_t, fun _ => ?_, tf⟩
    refine ⟨_, ix0, a, rfl, by omega, by omega, by omega, h4.1, ?_, ?_, _, ix1, b, rfl, by omega, by omega, by omega, h4.2, ?_, ?_, ?_⟩
    · rw [l_op, st_len, st_len]
      refine sz_bl ?_
      show 1 + _ ≤ _
      omega
    · rw [l_op, l_sp, st_app, st_len, st_len]
      refine sz_bl ?_
      simp only [List.length_append, List.length_cons, List.length_nil]
      omega
    · rw [l_op, l_sp, st_app, st_app, st_len, st_len]
      refine sz_bl ?_
      simp only [List.length_append, List.length_cons, List.length_nil]
      omega
    · rw [l_op, l_sp, l_cl, st_app, st_app, st_app, st_len, st_len]
      refine sz_bl ?_
      simp only [List.length_append, List.length_cons, List.length_nil]
      omega
    · show Φ (.str _) M
      rw [l_op, l_sp, l_cl, st_app, st_app, st_app, st_app]
      rw [text_p, List.nil_append] at q
      exact q
theorem red_law_is_integer (cs : Cs) : ∀ ds M Φ Ψ, S_law_is_integer cs ds M Φ Ψ → r_law_is_integer cs (ends Φ) (startD 1 ds) M := by
  rintro ds M Φ Ψ ⟨i, rfl, q⟩
  exact ⟨_, ki_i, fun _ => ⟨_, kb_i, q⟩, tf⟩
theorem red_law_equal (cs : Cs) (n : Nat) : ∀ ds M Φ Ψ, S_law_equal cs (n + 1) ds M Φ Ψ → r_law_equal cs n (ends Φ) (startD 2 ds) M := by
  rintro ds M Φ Ψ ⟨t, rfl, h1, h2, q⟩
  cases t with
  | n i =>
    refine ⟨_, kt_i, ff, fun _ => ⟨i, rfl, fun _ => ?_, tf⟩⟩
    show Φ (.bl (decide (i = i))) M
    rw [decide_eq_true rfl]
    exact q
  | p a b =>
    have d1 : 1 + max a.dep b.dep < n + 1 := h1
    refine ⟨_, kt_t, fun _ => ⟨_, kt_t, fun _ => ⟨ff, fun _ => ?_⟩, tf⟩, tf⟩
    exact ⟨_, ix0, _, ix0, a, rfl, by omega, by omega, fun _ => ⟨_, ix1, _, ix1, b, rfl, by omega, by omega, q⟩, tf⟩
theorem c_dg : (Str.ofString "0123456789").cps.toList = [48, 49, 50, 51, 52, 53, 54, 55, 56, 57] := by decide +kernel
theorem dg_mem {c : Nat} : c ∈ [48, 49, 50, 51, 52, 53, 54, 55, 56, 57] ↔ isDig c = true := by
  unfold isDig
  rw [Bool.and_eq_true, decide_eq_true_iff, decide_eq_true_iff]
  simp only [List.mem_cons, List.not_mem_nil, or_false]
  omega
theorem signs_get {t : List Nat} {i : Nat} {d : D} (h : (signsD (st t))[i]? = some d) : ∃ c, t[i]? = some c ∧ d = W [c] := by
  unfold signsD at h
  rw [st_list, List.getElem?_map] at h
  cases e : t[i]? with
  | none => rw [e] at h; cases h
  | some c => rw [e] at h; cases h; exact ⟨c, rfl, rfl⟩
theorem signs_len {t : List Nat} : (signsD (st t)).length = t.length := by
  unfold signsD
  rw [st_list, List.length_map]
theorem take_snoc {t : List Nat} {i c : Nat} (h : t[i]? = some c) : t.take (i + 1) = t.take i ++ [c] := by
  rw [List.take_succ, h] <;> rfl
theorem red_law_number (cs : Cs) : ∀ ds M Φ Ψ, S_law_number cs ds M Φ Ψ → r_law_number cs (ends Φ) (startD 2 ds) M := by
  rintro ds M Φ Ψ ⟨t, rfl, hl, q⟩
  have hz := st_sz hl
  have no : numT t = none → Φ (.int (-1)) M := fun h => by
    rw [numI_neg h] at q
    exact q
  have nt : ¬ (t ≠ [] ∧ t.length ≤ 3 ∧ t.all isDig = true ∧ (sg t 0 = 48 → t.length = 1)) → numT t = none := fun h => by
    unfold numT
    rw [if_neg h]
  refine ⟨fun h => no (nt fun z => z.1 (eqT l_no h)), fun h => ?_⟩
  have h1 : t ≠ [] := eqF l_no h
  have hp : 0 < t.length := List.length_pos_iff.mpr h1
  refine ⟨hz, fun h => no (nt fun z => ?_), fun h => ?_⟩
  · have h := of_decide_eq_true h
    rw [st_len] at h
    omega
  have h3 := of_decide_eq_false h
  rw [st_len] at h3
  have body : (sg t 0 = 48 → t.length = 1) → r_law_number_1 cs (ends Φ) [.d (W t), .un] M := fun h4 => by
    refine ⟨fun i Δ M' => M' = M ∧ Δ = [.d (W t), .un] ∧ (t.take i).all isDig = true, ⟨rfl, rfl, rfl⟩, ?_, ?_⟩
    · rintro i d Δ1 M1 hi ⟨rfl, rfl, ha⟩
      obtain ⟨c, hc, rfl⟩ := signs_get hi
      refine ⟨_, rfl, fun h => no (nt fun z => ?_), fun h => ⟨rfl, rfl, ?_⟩⟩
      · have n : c ∉ [48, 49, 50, 51, 52, 53, 54, 55, 56, 57] := nin c_dg h
        exact n (dg_mem.mpr (List.all_eq_true.mp z.2.2.1 c (List.mem_of_getElem? hc)))
      · have n : c ∈ [48, 49, 50, 51, 52, 53, 54, 55, 56, 57] := nin' c_dg h
        rw [take_snoc hc, List.all_append, ha, Bool.true_and]
        show (isDig c && true) = true
        rw [dg_mem.mp n] <;> rfl
    · rintro Δ1 M1 ⟨rfl, rfl, ha⟩
      rw [signs_len, List.take_length] at ha
      have e : numT t = some (valN t) := by
        unfold numT
        rw [if_pos ⟨h1, by omega, ha, h4⟩]
      refine ⟨_, numT_int e, ?_, ?_⟩
      · rw [st_len]; omega
      · have : numI t = ((valN t : Nat) : Int) := by unfold numI; rw [e]
        rw [this] at q
        exact q
  refine ⟨hz, _, ix_sg (i := 0) hp, fun h => ?_, fun h => body fun z => ?_⟩
  · have h5 : sg t 0 = 48 := (List.cons.inj (eqT l_0 h)).1
    refine ⟨hz, fun h => no (nt fun z => ?_), fun h => body fun _ => ?_⟩
    · have h := of_decide_eq_true h
      rw [st_len] at h
      have := z.2.2.2 h5
      omega
    · have h := of_decide_eq_false h
      rw [st_len] at h
      omega
  · have h6 : decide (st [sg t 0] = Str.ofString "0") = false := h
    exact absurd (by rw [z]) (eqF l_0 h6)
theorem red_law (cs : Cs) : ∀ ds M Φ Ψ, S_law cs ds M Φ Ψ → r_law cs (ends Φ) (startD 1 ds) M := by
  rintro ds M Φ Ψ ⟨ns, rfl, hl, q⟩
  exact ⟨ns, rfl, fun M1 => ⟨fun _ => ⟨ns, rfl, fun M2 => ⟨fun _ => ⟨ns, rfl, fun M3 => q M3⟩, tf⟩⟩, tf⟩⟩
/-! ### lists of numbers, compared -/
def CD (cs : List Nat) : List D := cs.reverse.map fun n => .int (n : Nat)
theorem ints_pure : ∀ ns : List Nat, pures (ns.map fun n => D.int (n : Nat)) = true
  | [] => rfl
  | _ :: ns => by
    show (true && pures (ns.map fun n => D.int (n : Nat))) = true
    rw [ints_pure ns] <;> rfl
theorem ints_lay : ∀ ns : List Nat, PyData.canLayAll0 (pys (ns.map fun n => D.int (n : Nat))) = true
  | [] => rfl
  | _ :: ns => by
    show (true && PyData.canLayAll0 (pys (ns.map fun n => D.int (n : Nat)))) = true
    rw [ints_lay ns] <;> rfl
theorem ints_dep : ∀ ns : List Nat, PyData.depthAll (pys (ns.map fun n => D.int (n : Nat))) = 0
  | [] => rfl
  | _ :: ns => by
    show max 0 (PyData.depthAll (pys (ns.map fun n => D.int (n : Nat)))) = 0
    rw [ints_dep ns] <;> rfl
theorem CD_pure (cs : List Nat) : (D.lst (CD cs)).pure = true := ints_pure _
theorem CD_shaped (cs : List Nat) : SeqAt.shaped (D.lst (CD cs)).py = true := by
  unfold SeqAt.shaped
  show (PyData.canLayAll0 (pys (CD cs)) && decide (PyData.depthAll (pys (CD cs)) + 1 ≤ 64)) = true
  unfold CD
  rw [ints_lay, ints_dep] <;> rfl
theorem CD_eq (cs : List Nat) : PyData.eqv (D.lst (CD cs)).py (D.lst []).py = cs.isEmpty := by
  cases h : CD cs with
  | nil =>
    have : cs = [] := by
      unfold CD at h
      simpa using h
    subst this
    decide +kernel
  | cons d ds =>
    have : cs ≠ [] := fun z => by subst z; cases h
    have e : PyData.eqv (D.lst (d :: ds)).py (D.lst []).py = false := by
      show PyData.eqv (.list (d.py :: pys ds)) (.list []) = false
      simp [PyData.eqv, PyData.eqvAll]
    rw [e]
    cases cs with
    | nil => exact absurd rfl this
    | cons _ _ => rfl
theorem CD_last {h : Nat} {r : List Nat} : atI (CD (h :: r)) (-1) = some (.int (h : Nat)) := by
  unfold atI ixN
  have hl : (CD (h :: r)).length = r.length + 1 := by unfold CD; simp
  rw [hl, if_neg (by decide), if_pos (by omega)]
  show (CD (h :: r))[((-1 : Int) + ((r.length + 1 : Nat) : Int)).toNat]? = _
  rw [show ((-1 : Int) + ((r.length + 1 : Nat) : Int)).toNat = r.length by omega]
  unfold CD
  simp
theorem CD_len {cs : List Nat} : (CD cs).length = cs.length := by unfold CD; simp
theorem CD_push {cs : List Nat} {n : Nat} : CD cs ++ [.int (n : Nat)] = CD (n :: cs) := by unfold CD; simp
theorem CD_pop {h : Nat} {r : List Nat} : (CD (h :: r)).dropLast = CD r := by unfold CD; simp
theorem CD_set {h n : Nat} {r : List Nat} : (CD (h :: r)).set r.length (.int (n : Nat)) = CD (n :: r) := by unfold CD; simp
theorem CD_ix {h : Nat} {r : List Nat} : ixN (CD (h :: r)).length (-1) = some r.length := by
  unfold ixN
  rw [CD_len, if_neg (by decide), if_pos (by rw [List.length_cons]; omega)]
  congr 1
  rw [List.length_cons]
  omega
/-- the counts compared with no counts -/
theorem no_counts {M : Mem} {c : Addr} {cs : List Nat} (h : M c = some (.lst (CD cs))) (neg : Bool) {P : D → Prop} (k : P (.bl (if neg then !cs.isEmpty else cs.isEmpty))) :
    ∃ dx dy, View M (.ref c) dx ∧ View M (.lst []) dy ∧ dx.pure = true ∧ dy.pure = true ∧ SeqAt.shaped dx.py = true ∧ SeqAt.shaped dy.py = true ∧ P (.bl (if neg then !PyData.eqv dx.py dy.py else PyData.eqv dx.py dy.py)) :=
  ⟨_, _, ⟨_, h, rfl⟩, rfl, CD_pure cs, rfl, CD_shaped cs, CD_shaped [], by rw [CD_eq]; exact k⟩
def PF (ts : List (List Nat)) (p c : Addr) (i : Nat) (Δ : List Sl) (M : Mem) : Prop := ∃ (cs : List Nat) (done : Bool), Δ = [.d (.ref p), .d (.ref c), .d (.bl done), .un, .un, .un, .un] ∧ M p = some (.lst (WS ts)) ∧ M c = some (.lst (CD cs)) ∧ i ≤ ts.length ∧ cs.length ≤ 4 ∧ (done = true → cs = []) ∧ from_ ts i cs done = from_ ts 0 [] false
abbrev f5 : RS := dIfS (dAnd (dTruth (dVar 6)) (dTest (dEqR false (dVar 1) (dFz dNil)))) (dSet 2 (dC (.bl true))) (dIfS (dTruth (dVar 6)) (dStoM (dOp dAdd (dIxM (dVar 1) (dNeg (dC (.int 1)))) (dC (.int 1))) (dVar 1) (dNeg (dC (.int 1)))) dNext)
abbrev f4n (cs : Cs) : RS := dIfS (dAnd (dTest (dOp dGe (dCall (S_law_number cs) (dCons (dVar 4) dNil)) (dC (.int 0)))) (dTruth (dVar 5))) (dSet 6 (dC (.bl true))) (dRet (dOp dAdd (dVar 3) (dC (.int 1))))
abbrev f4c (cs : Cs) : RS := dIfS (dAnd (dTest (dOp dEqA (dVar 4) (dC (.str (Str.ofString ")"))))) (dAnd (dNot (dTruth (dVar 2))) (dAnd (dTest (dEqR true (dVar 1) (dFz dNil))) (dTest (dOp dEqA (dIxM (dVar 1) (dNeg (dC (.int 1)))) (dC (.int 2))))))) (dSeq (dDrop (dPopM (dVar 1))) (dSet 6 (dC (.bl true)))) (f4n cs)
abbrev f4 (cs : Cs) : RS := dIfS (dAnd (dTest (dOp dEqA (dVar 4) (dC (.str (Str.ofString "("))))) (dAnd (dTruth (dVar 5)) (dTest (dOp dLt (dLenM (dVar 1)) (dC (.int 4)))))) (dAppM (dVar 1) (dC (.int 0))) (f4c cs)
section
variable {De : DE} {ts : List (List Nat)} {p c : Addr} {cz : List Nat} {done b : Bool} {D3 D4 D5 : D} {M : Mem} {t : List Nat}
/-- the end of a turn, nothing closed -/
theorem f5_no (hM : De.nx [.d (.ref p), .d (.ref c), .d (.bl done), .d D3, .d D4, .d D5, .d (.bl false)] M) : f5 De [.d (.ref p), .d (.ref c), .d (.bl done), .d D3, .d D4, .d D5, .d (.bl false)] M :=
  ⟨ff, fun _ => ⟨ff, fun _ => hM⟩⟩
/-- the end of a turn, a part closed -/
theorem f5_yes (hc : M c = some (.lst (CD cz))) (hpc : p ≠ c) (hp : M p = some (.lst (WS ts)))
    (hM : ∀ M', M' p = some (.lst (WS ts)) → M' c = some (.lst (CD (bump cz).1)) → De.nx [.d (.ref p), .d (.ref c), .d (.bl (bump cz).2), .d D3, .d D4, .d D5, .d (.bl true)] M') : f5 De [.d (.ref p), .d (.ref c), .d (.bl false), .d D3, .d D4, .d D5, .d (.bl true)] M := by
  refine ⟨fun _ => ?_, tf⟩
  refine ⟨_, _, ⟨_, hc, rfl⟩, rfl, CD_pure cz, rfl, CD_shaped cz, CD_shaped [], fun g => ?_, fun g => ?_⟩
  · have g : cz.isEmpty = true := (CD_eq cz).symm.trans g
    cases cz with
    | cons h r => cases g
    | nil => exact hM M hp hc
  · have g : cz.isEmpty = false := (CD_eq cz).symm.trans g
    cases cz with
    | nil => cases g
    | cons h r =>
    refine ⟨fun _ => ?_, tf⟩
    refine ⟨_, hc, _, CD_last, _, _, hc, CD_ix, ?_⟩
    have e : (CD (h :: r)).set r.length (.int ((h : Nat) + 1)) = CD ((h + 1) :: r) := CD_set
    rw [e]
    exact hM _ (by rw [updM_ne hpc]; exact hp) updM_same
end
section
variable {De : DE} {cs : Cs} {ts : List (List Nat)} {p c : Addr} {cz : List Nat} {done b : Bool} {i : Nat} {M : Mem} {t : List Nat}
theorem f45 (hd : done = true → cz = []) (hb : b = room cz done) (hp : M p = some (.lst (WS ts))) (hc : M c = some (.lst (CD cz))) (hpc : p ≠ c) (hl : cz.length ≤ 4) (htl : t.length ≤ BL)
    (next : ∀ (cz' : List Nat) (done' : Bool) (D6 : D) M', M' p = some (.lst (WS ts)) → M' c = some (.lst (CD cz')) → cz'.length ≤ 4 → (done' = true → cz' = []) → stepF t cz done = some (cz', done') → De.nx [.d (.ref p), .d (.ref c), .d (.bl done'), .d (.int (i : Nat)), .d (W t), .d (.bl b), .d D6] M')
    (fault : stepF t cz done = none → De.rt (.int ((i : Nat) + 1)) M) :
    dSeq (f4 cs) f5 De [.d (.ref p), .d (.ref c), .d (.bl done), .d (.int (i : Nat)), .d (W t), .d (.bl b), .d (.bl false)] M := by
  have sz := BL_size
  have bumpOk : ∀ z : List Nat, z.length ≤ 4 → (bump z).1.length ≤ 4 ∧ ((bump z).2 = true → (bump z).1 = []) := fun z hz => by
    cases z with
    | nil => exact ⟨by decide, fun _ => rfl⟩
    | cons a r => exact ⟨hz, fun w => by cases w⟩
  have num : ¬ (t = [40] ∧ room cz done = true ∧ cz.length < 4) → ¬ (t = [41] ∧ done = false ∧ cz ≠ [] ∧ cz.head? = some 2) →
      f4n cs { De with nx := fun Δ1 M1 => f5 De Δ1 M1 } [.d (.ref p), .d (.ref c), .d (.bl done), .d (.int (i : Nat)), .d (W t), .d (.bl b), .d (.bl false)] M := fun n1 n2 => by
    have st0 : stepF t cz done = if (numT t).isSome = true ∧ room cz done = true then some (bump cz) else none := by
      unfold stepF
      rw [if_neg n1, if_neg n2]
    refine ⟨t, rfl, htl, fun h => ⟨fun h2 => ?_, fun h2 => ?_⟩, fun h => ?_⟩
    · have h := of_decide_eq_true h
      have hs : (numT t).isSome = true := by
        cases e : numT t with
        | none => rw [numI_neg e] at h; exact absurd h (by decide)
        | some v => rfl
      have hr : room cz done = true := by rw [← hb]; exact h2
      rw [if_pos ⟨hs, hr⟩] at st0
      have hdn : done = false := by
        unfold room at hr
        cases done with
        | false => rfl
        | true => cases hr
      subst hdn
      obtain ⟨q1, q2⟩ := bumpOk cz hl
      exact f5_yes hc hpc hp fun M' g1 g2 => next _ _ _ M' g1 g2 q1 q2 st0
    · refine fault ?_
      rw [st0, if_neg]
      rintro ⟨_, z⟩
      rw [← hb, h2] at z
      cases z
    · have h := of_decide_eq_false h
      refine fault ?_
      rw [st0, if_neg]
      rintro ⟨z, _⟩
      cases e : numT t with
      | none => rw [e] at z; cases z
      | some v =>
        rw [show numI t = ((v : Nat) : Int) by unfold numI; rw [e]] at h
        omega
  have clo : ¬ (t = [40] ∧ room cz done = true ∧ cz.length < 4) →
      f4c cs { De with nx := fun Δ1 M1 => f5 De Δ1 M1 } [.d (.ref p), .d (.ref c), .d (.bl done), .d (.int (i : Nat)), .d (W t), .d (.bl b), .d (.bl false)] M := fun n1 => by
    refine ⟨fun h => ⟨fun h2 => num n1 fun z => ?_, fun h2 => ?_⟩, fun h => num n1 fun z => eqF l_cl h z.1⟩
    · rw [h2] at z; cases z.2.1
    · have ht := eqT l_cl h
      have ce := CD_eq cz
      refine ⟨_, _, ⟨_, hc, rfl⟩, rfl, CD_pure cz, rfl, CD_shaped cz, CD_shaped [], fun g => ?_, fun g => num n1 fun z => ?_⟩
      · have g : (!PyData.eqv (D.lst (CD cz)).py (D.lst []).py) = true := g
        rw [ce] at g
        cases cz with
        | nil => cases g
        | cons a r =>
        refine ⟨_, hc, _, CD_last, fun h3 => ?_, fun h3 => num n1 fun z => ?_⟩
        · have h3 := of_decide_eq_true h3
          have ea : a = 2 := by omega
          have st0 : stepF t (a :: r) done = some (bump r) := by
            unfold stepF
            rw [if_neg n1, if_pos ⟨ht, h2, by simp, by rw [ea] <;> rfl⟩] <;> rfl
          subst h2
          have lr : r.length ≤ 4 := by
            have : (a :: r).length ≤ 4 := hl
            rw [List.length_cons] at this
            omega
          obtain ⟨q1, q2⟩ := bumpOk r lr
          refine ⟨_, .int (a : Nat), hc, ?_, ?_⟩
          · rw [CD_len, List.length_cons]
            show (CD (a :: r))[r.length + 1 - 1]? = _
            rw [show r.length + 1 - 1 = r.length by omega]
            unfold CD
            simp
          · rw [CD_pop]
            exact f5_yes (cz := r) updM_same hpc (by rw [updM_ne hpc]; exact hp) fun M' g1 g2 => next _ _ _ M' g1 g2 q1 q2 st0
        · have h3 := of_decide_eq_false h3
          have ea : a = 2 := by simpa using z.2.2.2
          exact h3 (by rw [ea] <;> rfl)
      · have g : (!PyData.eqv (D.lst (CD cz)).py (D.lst []).py) = false := g
        rw [ce] at g
        cases cz with
        | nil => exact z.2.2.1 rfl
        | cons a r => cases g
  refine ⟨fun h => ⟨fun h2 => ⟨_, hc, fun h3 => ?_, fun h3 => clo fun z => ?_⟩, fun h2 => clo fun z => ?_⟩, fun h => clo fun z => eqF l_op h z.1⟩
  · have ht := eqT l_op h
    have h3 := of_decide_eq_true h3
    rw [CD_len] at h3
    have h4 : cz.length < 4 := by omega
    have st0 : stepF t cz done = some (0 :: cz, done) := by
      unfold stepF
      rw [if_pos ⟨ht, by rw [← hb]; exact h2, h4⟩]
    have hdn : done = false := by
      rw [hb] at h2
      unfold room at h2
      cases done with
      | false => rfl
      | true => cases h2
    refine ⟨⟨_, hc⟩, _, hc, ?_, ?_⟩
    · rw [CD_len]; omega
    · have e : CD cz ++ [.int 0] = CD (0 :: cz) := CD_push (n := 0)
      rw [e]
      exact f5_no (next _ _ _ _ (by rw [updM_ne hpc]; exact hp) updM_same (by rw [List.length_cons]; omega) (fun w => by rw [hdn] at w; cases w) st0)
  · have h3 := of_decide_eq_false h3
    rw [CD_len] at h3
    have := z.2.2
    omega
  · rw [← hb, h2] at z
    cases z.2.1
end
theorem red_law_fault (cs : Cs) : ∀ ds M Φ Ψ, S_law_fault cs ds M Φ Ψ → r_law_fault cs (ends Φ) (startD 7 ds) M := by
  rintro ds M Φ Ψ ⟨p, ts, rfl, hp, hok, q⟩
  refine fun c hc => ?_
  have hpc : p ≠ c := fun z => by rw [z, hc] at hp; cases hp
  have hlen : ts.length ≤ 2000000 := hok.1
  refine ⟨_, by rw [updM_ne hpc]; exact hp, ?_, PF ts p c, ⟨[], false, rfl, by rw [updM_ne hpc]; exact hp, updM_same, Nat.zero_le _, Nat.zero_le _, fun _ => rfl, rfl⟩, ?_, ?_⟩
  · rw [WS_len]
    exact ⟨by omega, by omega⟩
  · rintro i d Δ1 M1 hi ⟨cz, done, rfl, hp1, hc1, hi1, hl1, hd1, he1⟩
    obtain ⟨hi, rfl⟩ := rangeD_some hi
    have hw : (WS ts).length = ts.length := WS_len
    have hlt : i < ts.length := by omega
    have e0 : (0 : Int) + (i : Nat) = (i : Nat) := by omega
    rw [e0]
    have fin : ∀ b : Bool, b = room cz done → dSeq (f4 cs) f5 { nx := fun Δ2 M2 => PF ts p c (i + 1) (fgt [3, 4, 5, 6] Δ2) M2, ct := fun Δ2 M2 => PF ts p c (i + 1) (fgt [3, 4, 5, 6] Δ2) M2, rt := Φ, bk := fun Δ2 M2 => r_law_fault_3 cs (ends Φ) Δ2 M2 }
        [.d (.ref p), .d (.ref c), .d (.bl done), .d (.int (i : Nat)), .d (W (ts.getD i [])), .d (.bl b), .d (.bl false)] M1 := fun b hb => by
      refine f45 hd1 hb hp1 hc1 hpc hl1 (tok_len hok i) ?_ ?_
      · intro cz' done' D6 M' g1 g2 g3 g4 g5
        refine ⟨cz', done', rfl, g1, g2, hlt, g3, g4, ?_⟩
        rw [← he1, from_step hlt, g5]
      · intro g
        have e : from_ ts 0 [] false = i + 1 := by rw [← he1, from_step hlt, g]
        have := q M1
        rw [e] at this
        exact this
    refine ⟨_, hp1, _, ws_at hlt, ?_⟩
    cases done with
    | true => exact ⟨ff, fun _ => fin false rfl⟩
    | false =>
      refine ⟨fun _ => ⟨_, _, ⟨_, hc1, rfl⟩, rfl, CD_pure cz, rfl, CD_shaped cz, CD_shaped [], fun g => ?_, fun g => ?_⟩, tf⟩
      · have g : cz.isEmpty = true := (CD_eq cz).symm.trans g
        cases cz with
        | cons h r => cases g
        | nil => exact fin true rfl
      · have g : cz.isEmpty = false := (CD_eq cz).symm.trans g
        cases cz with
        | nil => cases g
        | cons h r =>
          refine ⟨_, hc1, _, CD_last, fin _ ?_⟩
          show decide (((h : Nat) : Int) < 2) = (!false && decide (h < 2))
          rw [Bool.not_false, Bool.true_and, decide_eq_decide]
          omega
  · rintro Δ1 M1 ⟨cz, done, rfl, hp1, hc1, hi1, hl1, hd1, he1⟩
    have e1 : (rangeD 0 ((WS ts).length : Int).toNat).length = ts.length := by
      rw [rangeD_len, WS_len]
      omega
    rw [e1, from_end (Nat.le_refl _)] at he1
    have := q M1
    rw [← he1] at this
    cases done with
    | true => exact ⟨fun _ => this, tf⟩
    | false =>
      refine ⟨ff, fun _ => ⟨_, hp1, ?_⟩⟩
      show Φ (.int (((WS ts).length : Nat) + 1)) M1
      rw [WS_len]
      exact this
abbrev g8 : RS := dSeq (dIfS (dOr (dTest (dOp dNeA (dOp dIx (dVar 0) (dVar 2)) (dC (.str (Str.ofString " "))))) (dOr (dTest (dOp dEqA (dOp dAdd (dVar 2) (dC (.int 1))) (dCB dLen (dCons (dVar 0) dNil)))) (dTest (dOp (dInA false) (dOp dIx (dVar 0) (dOp dAdd (dVar 2) (dC (.int 1)))) (dC (.str (Str.ofString " )"))))))) (dRet (dTup (dCons (dVar 1) (dCons (dOp dAdd (dLenM (dVar 1)) (dC (.int 1))) dNil)))) dNext) (dSet 2 (dOp dAdd (dVar 2) (dC (.int 1))))
abbrev g7 : RS := dSeq (dSet 2 (dVar 4)) (dSeq (dIfS (dOr (dTest (dOp dEqA (dIxM (dVar 1) (dNeg (dC (.int 1)))) (dC (.str (Str.ofString "("))))) (dOr (dTest (dOp dEqA (dVar 2) (dCB dLen (dCons (dVar 0) dNil)))) (dTest (dOp dEqA (dOp dIx (dVar 0) (dVar 2)) (dC (.str (Str.ofString ")"))))))) dCt dNext) g8)
abbrev g6 : RS := dSeq (dAppM (dVar 1) (dSl (dVar 0) (dPart (dVar 2)) (dPart (dVar 4)))) g7
def PS (l : List Nat) (p : Addr) (M0 : Mem) (i : Nat) (Δ : List Sl) (M : Mem) : Prop := ∃ (a : Nat) (fs : List (List Nat)) (s5 : Sl), Δ = [.d (W l), .d (.ref p), .d (.int (a : Nat)), .un, .un, s5] ∧ M = updM M0 p (.lst (WS fs)) ∧ a ≤ l.length ∧ fs.length ≤ a ∧ i ≤ a ∧ scanL l (l.length + 1 - i) a fs = scan l
theorem cut_from {l : List Nat} {a : Nat} (h : a ≤ l.length) : cutS (st l) (some (a : Int)) none = st (l.drop a) := by
  unfold cutS
  rw [HT.sIx_nat, HT.sIx_none, st_len, Nat.min_eq_left h]
  show st ((l.drop a).take (l.length - a)) = _
  rw [List.take_of_length_le (by rw [List.length_drop]; omega)]
theorem run_of {l : List Nat} {i j : Nat} (hi : i ≤ l.length) (h1 : ∀ c ∈ (l.drop i).take j, stops c = false) (hj : j ≤ (l.drop i).length) (h2 : ∀ c, (l.drop i)[j]? = some c → stops c = true) : runN l i = j := by
  unfold runN
  generalize l.drop i = x at h1 hj h2
  induction x generalizing j with
  | nil => simp at hj; rw [hj] <;> rfl
  | cons c x ih =>
    cases j with
    | zero =>
      have := h2 c rfl
      rw [List.takeWhile_cons_of_neg (by rw [this]; decide)] <;> rfl
    | succ j =>
      have := h1 c (by rw [List.take_succ_cons]; exact List.mem_cons_self ..)
      rw [List.takeWhile_cons_of_pos (by rw [this]; decide), List.length_cons]
      rw [ih (fun d hd => h1 d (by rw [List.take_succ_cons]; exact List.mem_cons_of_mem _ hd)) (by simpa using hj) (fun d hd => h2 d hd)]
section
variable {l : List Nat} {p : Addr} {M0 : Mem} {De : DE} {a i : Nat} {fs : List (List Nat)} {s5 : Sl}
theorem g6_ok (hl : l.length ≤ BL) (ha : a < l.length) (hs : sg l a ≠ 32) (hf : fs.length ≤ a) (hi : i ≤ a) (he : scanL l (l.length + 1 - i) a fs = scan l)
    (nx : ∀ Δ M, PS l p M0 (i + 1) (fgt [3, 4] Δ) M → De.nx Δ M) (ct : ∀ Δ M, PS l p M0 (i + 1) (fgt [3, 4] Δ) M → De.ct Δ M) (rt : ∀ (gs : List (List Nat)) k, (gs, k) = scan l → De.rt (.tup [.ref p, .int (k : Nat)]) (updM M0 p (.lst (WS gs)))) :
    g6 De [.d (W l), .d (.ref p), .d (.int (a : Nat)), .d (.int (i : Nat)), .d (.int (endN l a : Nat)), s5] (updM M0 p (.lst (WS fs))) := by
  have hz := st_sz hl
  obtain ⟨e1, e2⟩ := endN_le ha
  obtain ⟨k, hk⟩ : ∃ k, l.length + 1 - i = k + 1 := ⟨l.length - i, by omega⟩
  rw [hk] at he
  unfold scanL at he
  rw [if_neg (by omega), if_neg hs] at he
  have len' : (fs ++ [tokN l a]).length ≤ endN l a := by
    rw [List.length_append]
    show fs.length + 1 ≤ _
    omega
  have kk : l.length + 1 - (i + 1) = k := by omega
  have key : g7 De [.d (W l), .d (.ref p), .d (.int (a : Nat)), .d (.int (i : Nat)), .d (.int (endN l a : Nat)), s5] (updM M0 p (.lst (WS (fs ++ [tokN l a])))) := by
    have go : (tokN l a = [40] ∨ endN l a = l.length ∨ sg l (endN l a) = 41) → PS l p M0 (i + 1) [.d (W l), .d (.ref p), .d (.int (endN l a : Nat)), .un, .un, s5] (updM M0 p (.lst (WS (fs ++ [tokN l a])))) := fun c => by
      rw [if_pos c] at he
      exact ⟨endN l a, _, s5, rfl, rfl, e2, len', by omega, by rw [kk]; exact he⟩
    have lt : (fs ++ [tokN l a]).getLast? = some (tokN l a) := by simp
    refine ⟨_, updM_same, _, last_at lt, fun h => ct _ _ (go (.inl (eqT l_op h))), fun h1 => ⟨hz, fun h => ct _ _ (go (.inr (.inl ?_))), fun h2 => ?_⟩⟩
    · have h := of_decide_eq_true h
      rw [st_len] at h
      omega
    have n1 := eqF l_op h1
    have h2 := of_decide_eq_false h2
    rw [st_len] at h2
    have n2 : endN l a < l.length := by omega
    refine ⟨hz, _, ix_sg n2, fun h => ct _ _ (go (.inr (.inr (List.cons.inj (eqT l_cl h)).1))), fun h3 => ?_⟩
    have n3 : sg l (endN l a) ≠ 41 := fun z => eqF (u := [sg l (endN l a)]) l_cl h3 (by rw [z])
    rw [if_neg (by rintro (z | z | z); exact n1 z; omega; exact n3 z)] at he
    have bad : (sg l (endN l a) ≠ 32 ∨ endN l a + 1 = l.length ∨ sg l (endN l a + 1) = 32 ∨ sg l (endN l a + 1) = 41) → De.rt (.tup [.ref p, .int (((WS (fs ++ [tokN l a])).length : Nat) + 1)]) (updM M0 p (.lst (WS (fs ++ [tokN l a])))) := fun c => by
      rw [if_pos c] at he
      rw [WS_len]
      exact rt _ _ he
    refine ⟨hz, _, ix_sg n2, fun h => ⟨_, updM_same, bad (.inl fun z => ?_)⟩, fun h4 => ⟨hz, fun h => ⟨_, updM_same, bad (.inr (.inl ?_))⟩, fun h5 => ?_⟩⟩
    · have h : (!decide (st [sg l (endN l a)] = Str.ofString " ")) = true := h
      rw [z, l_sp] at h
      simp at h
    · have h := of_decide_eq_true h
      rw [st_len] at h
      omega
    have h5 := of_decide_eq_false h5
    rw [st_len] at h5
    have n5 : endN l a + 1 < l.length := by omega
    have n4 : sg l (endN l a) = 32 := by
      have h4 : (!decide (st [sg l (endN l a)] = Str.ofString " ")) = false := h4
      have h4' : decide (st [sg l (endN l a)] = Str.ofString " ") = true := by simpa using h4
      exact (List.cons.inj (eqT l_sp h4')).1
    refine ⟨hz, _, ix_sg (i := endN l a + 1) n5, _, rfl, fun h => ⟨_, updM_same, bad ?_⟩, fun h6 => ?_⟩
    · have c : sg l (endN l a + 1) ∈ [32, 41] := isin c_cl h
      rcases List.mem_cons.mp c with c | c
      · exact .inr (.inr (.inl c))
      · exact .inr (.inr (.inr (List.mem_singleton.mp c)))
    · have c : sg l (endN l a + 1) ∉ [32, 41] := isin' c_cl h6
      rw [if_neg (by
        rintro (z | z | z | z)
        · exact z n4
        · omega
        · exact c (by rw [z]; simp)
        · exact c (by rw [z]; simp))] at he
      exact nx _ _ ⟨endN l a + 1, _, s5, rfl, rfl, Nat.le_of_lt n5, by omega, by omega, by rw [kk]; exact he⟩
  refine ⟨⟨_, updM_same⟩, hz, ?_⟩
  rw [cut_st e2 (by omega)]
  refine ⟨_, updM_same, ?_, ?_⟩
  · rw [WS_len]
    have := BL_size
    omega
  · have em : updM (updM M0 p (.lst (WS fs))) p (.lst (WS fs ++ [D.str (st ((l.drop a).take (endN l a - a)))])) = updM M0 p (.lst (WS (fs ++ [tokN l a]))) := by
      rw [updM_updM, ← WS_snoc] <;> rfl
    rw [em]
    exact key
end
theorem red_law_scan (cs : Cs) : ∀ ds M Φ Ψ, S_law_scan cs ds M Φ Ψ → r_law_scan cs (ends Φ) (startD 6 ds) M := by
  rintro ds M Φ Ψ ⟨l, rfl, hl, q⟩
  have hz := st_sz hl
  have hl2 : l.length ≤ 2000000 := hl
  refine fun p hp => ?_
  have fin : ∀ (gs : List (List Nat)) k, (gs, k) = scan l → Φ (.tup [.ref p, .int (k : Nat)]) (updM M p (.lst (WS gs))) := fun gs k e => by
    have := q p hp
    rw [← e] at this
    exact this
  refine ⟨hz, ⟨by rw [st_len]; omega, by rw [st_len]; omega⟩, PS l p M, ⟨0, [], .un, rfl, rfl, Nat.zero_le _, Nat.le_refl _, Nat.le_refl _, scanL_eq l⟩, ?_, ?_⟩
  · rintro i d Δ1 M1 hi ⟨a, fs, s5, rfl, rfl, ha, hf, hia, he⟩
    obtain ⟨hi, rfl⟩ := rangeD_some hi
    have hw : (st l).length = l.length := st_len l
    have hlt : i < l.length + 1 := by omega
    have e0 : (0 : Int) + (i : Nat) = (i : Nat) := by omega
    rw [e0]
    obtain ⟨k, hk⟩ : ∃ k, l.length + 1 - i = k + 1 := ⟨l.length - i, by omega⟩
    refine ⟨hz, fun h => ?_, fun h => ?_⟩
    · have h := of_decide_eq_true h
      rw [st_len] at h
      refine fin fs 0 ?_
      rw [← he, hk]
      unfold scanL
      rw [if_pos (by omega)]
    · have h := of_decide_eq_false h
      rw [st_len] at h
      have hlt2 : a < l.length := by omega
      refine ⟨hz, _, ix_sg hlt2, fun h1 => ?_, fun h1 => ?_⟩
      · have c : sg l a = 32 := (List.cons.inj (eqT l_sp h1)).1
        refine ⟨_, updM_same, ?_⟩
        show Φ (.tup [.ref p, .int (((WS fs).length : Nat) + 1)]) _
        rw [WS_len]
        refine fin fs (fs.length + 1) ?_
        rw [← he, hk]
        unfold scanL
        rw [if_neg (by omega), if_pos c]
      · have c : sg l a ≠ 32 := fun z => eqF (u := [sg l a]) l_sp h1 (by rw [z])
        refine ⟨hz, _, ix_sg hlt2, _, rfl, fun h2 => ?_, fun h2 => ?_⟩
        · have c2 : sg l a ∉ [40, 41] := nin c_op h2
          have er : endN l a = a + 1 + runN l (a + 1) := by
            unfold endN
            rw [if_neg]
            rintro (z | z)
            · exact c2 (by rw [z]; simp)
            · exact c2 (by rw [z]; simp)
          refine ⟨hz, ?_⟩
          show dLoop 5 [5] (signsD (cutS (st l) (some ((a + 1 : Nat) : Int)) none)) (b_law_scan_10 cs) _ _ _
          rw [cut_from hlt2]
          have rest : ∀ s5, runN l (a + 1) = runN l (a + 1) → g6 _ [.d (W l), .d (.ref p), .d (.int (a : Nat)), .d (.int (i : Nat)), .d (.int (endN l a : Nat)), s5] (updM M p (.lst (WS fs))) := fun s5 _ =>
            g6_ok (De := { nx := fun Δ2 M2 => PS l p M (i + 1) (fgt [3, 4] Δ2) M2, ct := fun Δ2 M2 => PS l p M (i + 1) (fgt [3, 4] Δ2) M2, rt := Φ, bk := fun Δ2 M2 => r_law_scan_3 cs (ends Φ) Δ2 M2 }) hl hlt2 c hf hia he (fun _ _ h => h) (fun _ _ h => h) fin
          refine ⟨fun j Δ M' => M' = updM M p (.lst (WS fs)) ∧ Δ = [.d (W l), .d (.ref p), .d (.int (a : Nat)), .d (.int (i : Nat)), .d (.int ((a + 1 + j : Nat) : Int)), .un] ∧ ∀ x ∈ (l.drop (a + 1)).take j, stops x = false, ⟨rfl, rfl, fun x hx => by simp at hx⟩, ?_, ?_⟩
          · rintro j d Δ2 M2 hj ⟨rfl, rfl, hall⟩
            obtain ⟨x, hx, rfl⟩ := signs_get hj
            have hjl : j < (l.drop (a + 1)).length := (List.getElem?_eq_some_iff.mp hx).1
            refine ⟨_, rfl, fun h3 => ?_, fun h3 => ?_⟩
            · have cx : x ∈ [32, 40, 41] := isin c_sp h3
              have er2 : runN l (a + 1) = j := run_of hlt2 hall (by omega) fun y hy => by
                rw [hx] at hy
                cases hy
                exact stops_iff.mpr cx
              have r := rest (.d (W [x])) rfl
              rw [er, er2] at r
              exact r
            · have cx : x ∉ [32, 40, 41] := isin' c_sp h3
              refine ⟨rfl, rfl, ?_⟩
              rw [take_snoc hx]
              intro y hy
              rcases List.mem_append.mp hy with hy | hy
              · exact hall y hy
              · rw [List.mem_singleton.mp hy]
                cases z : stops x with
                | false => rfl
                | true => exact absurd (stops_iff.mp z) cx
          · rintro Δ2 M2 ⟨rfl, rfl, hall⟩
            rw [signs_len] at hall
            have er2 : runN l (a + 1) = (l.drop (a + 1)).length := run_of hlt2 hall (Nat.le_refl _) fun y hy => by
              rw [List.getElem?_eq_none_iff.mpr (Nat.le_refl _)] at hy
              cases hy
            have r := rest .un rfl
            rw [er, er2] at r
            rw [signs_len]
            exact r
        · have c2 : sg l a ∈ [40, 41] := nin' c_op h2
          have er : endN l a = a + 1 := by
            unfold endN
            rw [if_pos]
            rcases List.mem_cons.mp c2 with z | z
            · exact .inl z
            · exact .inr (List.mem_singleton.mp z)
          have r := g6_ok (De := { nx := fun Δ2 M2 => PS l p M (i + 1) (fgt [3, 4] Δ2) M2, ct := fun Δ2 M2 => PS l p M (i + 1) (fgt [3, 4] Δ2) M2, rt := Φ, bk := fun Δ2 M2 => r_law_scan_3 cs (ends Φ) Δ2 M2 }) (s5 := s5) hl hlt2 c hf hia he (fun _ _ h => h) (fun _ _ h => h) fin
          rw [er] at r
          exact r
  · rintro Δ1 M1 ⟨a, fs, s5, rfl, rfl, ha, hf, hia, he⟩
    rw [rangeD_len] at hia
    have hw : (st l).length = l.length := st_len l
    omega
theorem last_sg {l : List Nat} (h : l ≠ []) : ∃ k, atI l (-1) = some k := by
  have hp : 0 < l.length := List.length_pos_iff.mpr h
  unfold atI ixN
  rw [if_neg (by decide), if_pos (by omega)]
  show ∃ k, l[((-1 : Int) + (l.length : Int)).toNat]? = some k
  rw [List.getElem?_eq_getElem (by omega)]
  exact ⟨_, rfl⟩
theorem red_law_joined (cs : Cs) : ∀ ds M Φ Ψ, S_law_joined cs ds M Φ Ψ → r_law_joined cs (ends Φ) (startD 3 ds) M := by
  rintro ds M Φ Ψ ⟨p, ts, rfl, hp, h1, h2, q⟩
  refine ⟨_, hp, fun i Δ M' => M' = M ∧ i ≤ ts.length ∧ ∃ l : List Nat, Δ = [.d (.ref p), .d (W l), .un] ∧ l.length ≤ 1001 * i, ⟨rfl, Nat.zero_le _, [], ?_, Nat.le_refl _⟩, ?_, ?_, ?_⟩
  · show [Sl.d (.ref p), .d (.str (Str.ofString "")), .un] = _
    rw [l_no] <;> rfl
  · rintro i Δ2 M2 ⟨rfl, _, _⟩
    exact hp
  · rintro i d Δ2 M2 hd ⟨rfl, hi, l, rfl, hl⟩
    have hlt : i < ts.length := by
      have := (List.getElem?_eq_some_iff.mp hd).1
      rw [WS_len] at this
      exact this
    obtain ⟨t, ht, rfl⟩ : ∃ t, t ∈ ts ∧ d = W t := by
      unfold WS at hd
      rw [List.getElem?_map, List.getElem?_eq_getElem hlt] at hd
      exact ⟨_, List.getElem_mem hlt, (Option.some.inj hd).symm⟩
    have tl := h2 t ht
    have lb : l.length ≤ 1902000 := by omega
    have fin : ∀ l' : List Nat, l'.length ≤ l.length + 1 → dSet 1 (dOp dAdd (dVar 1) (dVar 2)) { nx := fun Δ3 M3 => (M3 = M2 ∧ i + 1 ≤ ts.length ∧ ∃ l : List Nat, fgt [2] Δ3 = [.d (.ref p), .d (W l), .un] ∧ l.length ≤ 1001 * (i + 1)), ct := fun Δ3 M3 => (M3 = M2 ∧ i + 1 ≤ ts.length ∧ ∃ l : List Nat, fgt [2] Δ3 = [.d (.ref p), .d (W l), .un] ∧ l.length ≤ 1001 * (i + 1)), rt := Φ, bk := fun Δ3 M3 => r_law_joined_2 cs (ends Φ) Δ3 M3 } [.d (.ref p), .d (W l'), .d (W t)] M2 := fun l' hl' => by
      refine ⟨?_, rfl, hlt, l' ++ t, ?_, ?_⟩
      · rw [st_len, st_len]
        have := BL_size
        have : (1990000 : Nat) ≤ BL := by decide
        omega
      · rw [st_app] <;> rfl
      · rw [List.length_append]
        omega
    have sp : dSet 1 (dOp dAdd (dVar 1) (dC (.str (Str.ofString " ")))) { nx := fun Δ3 M3 => dSet 1 (dOp dAdd (dVar 1) (dVar 2)) { nx := fun Δ3 M3 => (M3 = M2 ∧ i + 1 ≤ ts.length ∧ ∃ l : List Nat, fgt [2] Δ3 = [.d (.ref p), .d (W l), .un] ∧ l.length ≤ 1001 * (i + 1)), ct := fun Δ3 M3 => (M3 = M2 ∧ i + 1 ≤ ts.length ∧ ∃ l : List Nat, fgt [2] Δ3 = [.d (.ref p), .d (W l), .un] ∧ l.length ≤ 1001 * (i + 1)), rt := Φ, bk := fun Δ3 M3 => r_law_joined_2 cs (ends Φ) Δ3 M3 } Δ3 M3, ct := fun _ _ => False, rt := Φ, bk := fun _ _ => False } [.d (.ref p), .d (W l), .d (W t)] M2 := by
      refine ⟨?_, ?_⟩
      · rw [l_sp, st_len, st_len]
        have := BL_size
        have : (1990000 : Nat) ≤ BL := by decide
        show _ + 1 ≤ _
        omega
      · rw [l_sp, st_app]
        refine fin (l ++ [32]) ?_
        rw [List.length_append] <;> exact Nat.le_refl _
    refine ⟨fun h => ?_, fun h => fin l (Nat.le_succ _)⟩
    have hne : l ≠ [] := fun z => by
      have h : (!decide (st l = Str.ofString "")) = true := h
      rw [z, l_no] at h
      simp at h
    obtain ⟨k, hk⟩ := last_sg hne
    refine ⟨st_sz (show l.length ≤ 2000000 by omega), k, hk, fun h => ⟨fun h => sp, fun h => fin l (Nat.le_succ _)⟩, fun h => fin l (Nat.le_succ _)⟩
  · rintro Δ2 M2 ⟨rfl, hi, l, rfl, hl⟩
    rw [WS_len] at hl
    exact q l (show l.length ≤ 2000000 by omega)
/-! ### words of the menus -/
def codes (s : String) : List Nat := (Str.ofString s).cps.toList
def lits (ss : List String) : List D := ss.map fun s => .str (Str.ofString s)
theorem lits_at {ss : List String} (h : (ss.all fun s => decide ((codes s).length ≤ 10) && (codes s).all (· < 128)) = true) {i : Int} (h0 : 0 ≤ i) (h1 : i < ss.length) : ∃ w, atI (lits ss) i = some (W w) ∧ w.length ≤ 10 ∧ ∀ c ∈ w, c < 128 := by
  have hl : i.toNat < ss.length := by omega
  have e : ((i.toNat : Nat) : Int) = i := Int.toNat_of_nonneg h0
  have g := List.all_eq_true.mp h _ (List.getElem_mem hl)
  rw [Bool.and_eq_true, decide_eq_true_iff] at g
  refine ⟨codes ss[i.toNat], ?_, g.1, asc_all g.2⟩
  have a := atI_nat (xs := lits ss) (j := i.toNat) (v := .str (Str.ofString ss[i.toNat])) (by unfold lits; rw [List.getElem?_map, List.getElem?_eq_getElem hl] <;> rfl)
  rw [e] at a
  rw [a]
  exact congrArg some (congrArg D.str (str_of_toList rfl))
abbrev menuW : List String := ["(", ")", "(", ")", "0", "7", "12", "999", "1000", "007", "a", "let", "abcdef", "abcdefg", "A", "=", ":", "x1", "-1", "1/2"]
theorem menuW_ok : (menuW.all fun s => decide ((codes s).length ≤ 10) && (codes s).all (· < 128)) = true := by decide +kernel
theorem red_law_word (cs : Cs) : ∀ ds M Φ Ψ, S_law_word cs ds M Φ Ψ → r_law_word cs (ends Φ) (startD 2 ds) M := by
  rintro ds M Φ Ψ ⟨r, rfl, hr, q⟩
  obtain ⟨w, hw, h1, h2⟩ := lits_at menuW_ok (i := r % 20) (by omega) (show r % 20 < 20 by omega)
  exact ⟨.int r, rfl, (by show (0 : Int) < 20; decide), _, hw, q w h1 h2⟩
/-- a row of numbers -/
def Row (ns : List Int) (k : Nat) : Prop := ns.length = k ∧ ∀ r ∈ ns, 0 ≤ r ∧ r < 1000
def rowD (ns : List Int) : D := .lst (ns.map .int)
theorem row_at {ns : List Int} {k : Nat} (h : Row ns k) {i : Int} (h0 : 0 ≤ i) (h1 : i < k) : ∃ r, atI (ns.map D.int) i = some (.int r) ∧ 0 ≤ r ∧ r < 1000 := by
  have hl : i.toNat < ns.length := by rw [h.1]; omega
  have e : ((i.toNat : Nat) : Int) = i := Int.toNat_of_nonneg h0
  refine ⟨ns[i.toNat], ?_, h.2 _ (List.getElem_mem hl)⟩
  have g := atI_nat (xs := ns.map D.int) (j := i.toNat) (v := .int ns[i.toNat]) (by rw [List.getElem?_map, List.getElem?_eq_getElem hl] <;> rfl)
  rw [e] at g
  exact g
theorem row_law (ns : List Int) (k : Int) (n : Nat) : Row (lawRow ns k n) n := ⟨lawRow_len ns k n, lawRow_mem⟩
/-! ### lines -/
theorem cut_sub (l : List Nat) (lo hi : Option Int) : ∃ w, cutS (st l) lo hi = st w ∧ w.length ≤ l.length ∧ ∀ c ∈ w, c ∈ l := by
  refine ⟨_, rfl, ?_, fun c hc => List.mem_of_mem_drop (List.mem_of_mem_take hc)⟩
  rw [st_list, List.length_take, List.length_drop]
  omega
theorem row1 (ns : List Int) (k : Int) : ∃ r, (lawRow ns k 1).map D.int = [.int r] ∧ 0 ≤ r ∧ r < 1000 := by
  have h := lawRow_len ns k 1
  match hh : lawRow ns k 1, h with
  | [r], _ => exact ⟨r, rfl, lawRow_mem (k := k) (n := 1) (ns := ns) r (by rw [hh]; simp)⟩
def Asc (l : List Nat) : Prop := ∀ c ∈ l, c < 128
theorem Asc.app {u w : List Nat} (h : Asc u) (g : Asc w) : Asc (u ++ w) := fun c hc => by
  rcases List.mem_append.mp hc with hc | hc
  · exact h c hc
  · exact g c hc
theorem asc_sp : Asc [32] := fun c hc => by rw [List.mem_singleton.mp hc]; decide
def PL (ns : List Int) (M0 : Mem) (i : Nat) (Δ : List Sl) (M : Mem) : Prop := M = M0 ∧ ∃ l : List Nat, Δ = [.d (.scr ns), .d (W l), .un, .un, .un, .un] ∧ l.length ≤ 11 * i ∧ Asc l
abbrev menuS : List String := [" ", "(", ")", "b"]
theorem menuS_ok : (menuS.all fun s => decide ((codes s).length ≤ 10) && (codes s).all (· < 128)) = true := by decide +kernel
theorem small_sz {n : Nat} (h : n ≤ 100000) : n ≤ sizeLine := sz_bl h
theorem red_law_line (cs : Cs) : ∀ ds M Φ Ψ, S_law_line cs ds M Φ Ψ → r_law_line cs (ends Φ) (startD 6 ds) M := by
  rintro ds M Φ Ψ ⟨ns, rfl, q⟩
  obtain ⟨r0, h0, b0, b1⟩ := row1 ns 0
  refine ⟨ns, 0, 1, rfl, by decide, by decide, by decide, ?_⟩
  rw [h0]
  refine ⟨.int r0, rfl, (by show (0 : Int) < 10; decide), ⟨by omega, by omega⟩, PL ns M, ⟨rfl, [], ?_, Nat.le_refl _, fun c hc => by cases hc⟩, ?_, ?_⟩
  · show [Sl.d (.scr ns), .d (.str (Str.ofString "")), .un, .un, .un, .un] = _
    rw [l_no] <;> rfl
  · rintro i d Δ1 M1 hi ⟨rfl, l, rfl, hl, ha⟩
    obtain ⟨hi, rfl⟩ := rangeD_some hi
    have hi10 : i < 10 := by omega
    have lb : l.length ≤ 1000 := by omega
    obtain ⟨r, hr, c0, c1⟩ := row1 ns (1 + (0 + (i : Nat)))
    refine ⟨ns, 1 + (0 + (i : Nat)), 1, rfl, by omega, by omega, by decide, ?_⟩
    rw [hr]
    refine ⟨r, rfl, c0, fun w hw aw => ?_⟩
    have fin : ∀ l' : List Nat, l'.length ≤ l.length + 1 → Asc l' → dSet 1 (dOp dAdd (dVar 1) (dVar 3)) { nx := fun Δ3 M3 => PL ns M1 (i + 1) (fgt [2, 3] Δ3) M3, ct := fun Δ3 M3 => PL ns M1 (i + 1) (fgt [2, 3] Δ3) M3, rt := Φ, bk := fun Δ3 M3 => r_law_line_2 cs (ends Φ) Δ3 M3 } [.d (.scr ns), .d (W l'), .d (.int (0 + (i : Nat))), .d (W w), .un, .un] M1 := fun l' hl' al => by
      refine ⟨?_, rfl, l' ++ w, ?_, ?_, al.app aw⟩
      · rw [st_len, st_len]
        exact small_sz (by omega)
      · rw [st_app] <;> rfl
      · rw [List.length_append]
        omega
    have sp : (st l).length + (Str.ofString " ").length ≤ sizeLine ∧ dSet 1 (dOp dAdd (dVar 1) (dVar 3)) { nx := fun Δ3 M3 => PL ns M1 (i + 1) (fgt [2, 3] Δ3) M3, ct := fun Δ3 M3 => PL ns M1 (i + 1) (fgt [2, 3] Δ3) M3, rt := Φ, bk := fun Δ3 M3 => r_law_line_2 cs (ends Φ) Δ3 M3 } [.d (.scr ns), .d (.str (st l ++ Str.ofString " ")), .d (.int (0 + (i : Nat))), .d (W w), .un, .un] M1 := by
      rw [l_sp, st_len, st_len, st_app]
      refine ⟨small_sz ?_, fin (l ++ [32]) ?_ (ha.app asc_sp)⟩
      · show _ + 1 ≤ _
        omega
      · rw [List.length_append] <;> exact Nat.le_refl _
    refine ⟨fun h => ?_, fun h => fin l (Nat.le_succ _) ha⟩
    have hne : l ≠ [] := fun z => by
      have h : (!decide (st l = Str.ofString "")) = true := h
      rw [z, l_no] at h
      simp at h
    obtain ⟨k, hk⟩ := last_sg hne
    exact ⟨by rw [st_len]; exact small_sz (by omega), k, hk, fun h => ⟨fun h => sp, fun h => fin l (Nat.le_succ _) ha⟩, fun h => fin l (Nat.le_succ _) ha⟩
  · rintro Δ1 M1 ⟨rfl, l, rfl, hl, ha⟩
    rw [rangeD_len] at hl
    have lb : l.length ≤ 110 := by omega
    have hz : (st l).length ≤ sizeLine := by rw [st_len]; exact small_sz (by omega)
    have hR : Row (lawRow ns 11 4) 4 := row_law ns 11 4
    refine ⟨ns, 11, 4, rfl, by decide, by decide, by decide, ?_⟩
    obtain ⟨q0, a0, c0⟩ := row_at hR (i := 0) (by omega) (by omega)
    obtain ⟨q1, a1, c1⟩ := row_at hR (i := 1) (by omega) (by omega)
    obtain ⟨q2, a2, c2⟩ := row_at hR (i := 2) (by omega) (by omega)
    obtain ⟨q3, a3, c3⟩ := row_at hR (i := 3) (by omega) (by omega)
    refine ⟨_, a0, (by show (0 : Int) < 2; decide), fun h => ?_, fun h => q l (by omega) ha⟩
    refine ⟨_, a1, hz, (by show (0 : Int) < ((st l).length : Nat) + 1; omega), ?_⟩
    refine ⟨_, a2, (by show (0 : Int) < 3; decide), fun h => ?_, fun h => ?_⟩
    · obtain ⟨u, eu, lu, mu⟩ := cut_sub l none (some (q1 % (((st l).length : Nat) + 1)))
      obtain ⟨w, ew, lw, mw⟩ := cut_sub l (some (q1 % (((st l).length : Nat) + 1) + 1)) none
      refine ⟨hz, hz, ?_, ?_⟩
      · rw [eu, ew, st_len, st_len]
        exact small_sz (by omega)
      · rw [eu, ew, st_app]
        exact q (u ++ w) (by rw [List.length_append]; omega) (Asc.app (fun c hc => ha c (mu c hc)) (fun c hc => ha c (mw c hc)))
    · obtain ⟨u, eu, lu, mu⟩ := cut_sub l none (some (q1 % (((st l).length : Nat) + 1)))
      obtain ⟨w, ew, lw, mw⟩ := cut_sub l (some (q1 % (((st l).length : Nat) + 1))) none
      obtain ⟨x, hx, lx, ax⟩ := lits_at menuS_ok (i := q3 % 4) (by omega) (show q3 % 4 < 4 by omega)
      refine ⟨hz, _, a3, (by show (0 : Int) < 4; decide), _, hx, ?_, hz, ?_, ?_⟩
      · rw [eu, st_len, st_len]
        exact small_sz (by omega)
      · rw [eu, ew, st_app, st_len, st_len, List.length_append]
        exact small_sz (by omega)
      · rw [eu, ew, st_app, st_app]
        exact q (u ++ x ++ w) (by rw [List.length_append, List.length_append]; omega) (Asc.app (Asc.app (fun c hc => ha c (mu c hc)) ax) (fun c hc => ha c (mw c hc)))
/-! ### lists of words, compared -/
theorem scan_sub (l : List Nat) : ∀ (k i : Nat) (fs : List (List Nat)), (∀ t ∈ fs, ∀ c ∈ t, c ∈ l) → ∀ t ∈ (scanN l k i fs).1, ∀ c ∈ t, c ∈ l := by
  intro k
  induction k with
  | zero => intro i fs h; exact h
  | succ k ih =>
    intro i fs h
    unfold scanN
    by_cases hi : i < l.length
    · rw [if_pos hi]
      cases hb : begN l i (opens fs) with
      | none => exact h
      | some b =>
        dsimp only
        refine ih _ _ fun t ht => ?_
        rcases List.mem_append.mp ht with ht | ht
        · exact h t ht
        · rw [List.mem_singleton.mp ht]
          exact fun c hc => List.mem_of_mem_drop (List.mem_of_mem_take hc)
    · rw [if_neg hi]
      exact h
theorem ws_pure : ∀ ts : List (List Nat), pures (WS ts) = true
  | [] => rfl
  | _ :: ts => by
    show (true && pures (WS ts)) = true
    rw [ws_pure ts] <;> rfl
theorem ws_lay : ∀ ts : List (List Nat), (∀ t ∈ ts, Asc t) → PyData.canLayAll0 (pys (WS ts)) = true
  | [], _ => rfl
  | t :: ts, h => by
    show (PyData.strOk (st t) && PyData.canLayAll0 (pys (WS ts))) = true
    rw [ws_lay ts fun u hu => h u (List.mem_cons_of_mem _ hu), Bool.and_true]
    unfold PyData.strOk st
    have g := h t (List.mem_cons_self ..)
    simp only [List.all_toArray, List.all_eq_true, decide_eq_true_eq]
    intro c hc
    have := g c hc
    omega
theorem ws_dep : ∀ ts : List (List Nat), PyData.depthAll (pys (WS ts)) = 0
  | [] => rfl
  | _ :: ts => by
    show max 0 (PyData.depthAll (pys (WS ts))) = 0
    rw [ws_dep ts] <;> rfl
theorem ws_shaped {ts : List (List Nat)} (h : ∀ t ∈ ts, Asc t) : SeqAt.shaped (D.lst (WS ts)).py = true := by
  unfold SeqAt.shaped
  show (PyData.canLayAll0 (pys (WS ts)) && decide (PyData.depthAll (pys (WS ts)) + 1 ≤ 64)) = true
  rw [ws_lay ts h, ws_dep] <;> rfl
theorem ws_eqvAll : ∀ ts : List (List Nat), PyData.eqvAll (pys (WS ts)) (pys (WS ts)) = true
  | [] => rfl
  | t :: ts => by
    show (PyData.eqv (.str (st t)) (.str (st t)) && PyData.eqvAll (pys (WS ts)) (pys (WS ts))) = true
    rw [ws_eqvAll ts, Bool.and_true]
    simp [PyData.eqv]
theorem ws_eqv (ts : List (List Nat)) : PyData.eqv (D.lst (WS ts)).py (D.lst (WS ts)).py = true := by
  show PyData.eqv (.list (pys (WS ts))) (.list (pys (WS ts))) = true
  have := ws_eqvAll ts
  unfold PyData.eqv
  exact this
theorem kl_l : kitB "list" "list" = some true := by decide +kernel
theorem er_l {k : Nat} {n : Int} : (errD k n).lookup ("line" : Str) = some (.int n) := by rfl
theorem er_t {k : Nat} {n : Int} : (errD k n).lookup ("token" : Str) = some (.int (k : Nat)) := by rfl
theorem tt {P : Prop} {a b : Int} (e : a = b) (h : decide (a = b) = false) : P := absurd e (of_decide_eq_false h)
theorem red_law_lines (cs : Cs) : ∀ ds M Φ Ψ, S_law_lines cs ds M Φ Ψ → r_law_lines cs (ends Φ) (startD 7 ds) M := by
  rintro ds M Φ Ψ ⟨ns, rfl, q⟩
  refine ⟨ns, rfl, fun l hl ha => ?_⟩
  have hb : l.length ≤ BL := Nat.le_trans hl (by decide)
  obtain ⟨r, hr, b0, b1⟩ := row1 ns 12
  refine ⟨ns, 12, 1, rfl, by decide, by decide, by decide, ?_⟩
  rw [hr]
  refine ⟨.int r, rfl, (by show (0 : Int) < 50; decide), ?_⟩
  refine ⟨l, rfl, hb, fun p hp => ⟨rfl, ?_⟩⟩
  refine ⟨l, 1 + r % 50, rfl, hb, fun h0 p2 hp2 => ?_, fun h0 M' => ?_⟩
  · have ne : p ≠ p2 := fun z => by rw [← z, updM_same] at hp2; cases hp2
    have e0 : ((scan l).2 : Int) = 0 := by omega
    refine ⟨fun _ => ?_, tt e0⟩
    refine ⟨_, _, updM_same, kl_l, fun _ => ?_, tf⟩
    have sub : ∀ t ∈ (scan l).1, Asc t := fun t ht c hc => ha c (scan_sub l _ _ _ (fun t ht => by cases ht) t ht c hc)
    refine ⟨_, _, ⟨_, updM_same, rfl⟩, ⟨_, by rw [updM_ne ne]; exact updM_same, rfl⟩, ws_pure _, ws_pure _, ws_shaped sub, ws_shaped sub, ?_⟩
    show Φ (.bl (PyData.eqv (D.lst (WS (scan l).1)).py (D.lst (WS (scan l).1)).py)) _
    rw [ws_eqv]
    exact q _
  · refine ⟨true, List.mem_singleton.mpr rfl, fun _ a => ?_, tf⟩
    have pos : (0 : Int) < ((scan l).2 : Nat) := by omega
    refine ⟨fun _ => ?_, fun h => absurd pos (of_decide_eq_false h)⟩
    refine ⟨rfl, _, er_l, fun _ => ?_, tt rfl⟩
    exact ⟨rfl, _, er_t, fun _ => ⟨rfl, q M'⟩, tt rfl⟩
/-! ### words -/
abbrev signsS : String := "0123456789abcdefxyzABZ_-+.:="
theorem signs_n : (codes signsS).length = 28 := by decide +kernel
theorem c_lw : (Str.ofString "abcdefghijklmnopqrstuvwxyz").cps.toList = (List.range 26).map (97 + ·) := by decide +kernel
theorem lw_mem {c : Nat} : c ∈ (List.range 26).map (97 + ·) ↔ (decide (97 ≤ c) && decide (c ≤ 122)) = true := by
  rw [Bool.and_eq_true, decide_eq_true_iff, decide_eq_true_iff, List.mem_map]
  constructor
  · rintro ⟨a, ha, rfl⟩
    have := List.mem_range.mp ha
    omega
  · rintro ⟨h1, h2⟩
    exact ⟨c - 97, List.mem_range.mpr (by omega), by omega⟩
theorem four (j : Int) (h0 : 0 ≤ j) (h1 : j < 4) : ∃ m : Int, atI [D.int 28, .int 10, .int 16, .int 26] j = some (.int m) ∧ 0 < m ∧ m ≤ 28 := by
  have : j = 0 ∨ j = 1 ∨ j = 2 ∨ j = 3 := by omega
  rcases this with rfl | rfl | rfl | rfl
  · exact ⟨28, rfl, by decide, by decide⟩
  · exact ⟨10, rfl, by decide, by decide⟩
  · exact ⟨16, rfl, by decide, by decide⟩
  · exact ⟨26, rfl, by decide, by decide⟩
theorem ix_int {l : List Nat} {i : Int} (h0 : 0 ≤ i) (h1 : i < l.length) : ∃ k, atI l i = some k := by
  have e : ((i.toNat : Nat) : Int) = i := Int.toNat_of_nonneg h0
  have := ix_sg (l := l) (i := i.toNat) (by omega)
  rw [e] at this
  exact ⟨_, this⟩
theorem red_law_words (cs : Cs) : ∀ ds M Φ Ψ, S_law_words cs ds M Φ Ψ → r_law_words cs (ends Φ) (startD 9 ds) M := by
  rintro ds M Φ Ψ ⟨ns, rfl, q⟩
  have hR : Row (lawRow ns 13 9) 9 := row_law ns 13 9
  obtain ⟨r0, a0, c0⟩ := row_at hR (i := 0) (by omega) (by omega)
  refine ⟨ns, 13, 9, rfl, by decide, by decide, by decide, ?_⟩
  let S : Sl := .d (.str (Str.ofString signsS))
  let R : Sl := .d (rowD (lawRow ns 13 9))
  have main : ∀ t : List Nat, t.length ≤ 8 → r_law_words_4 cs (ends Φ) [.d (.scr ns), S, R, .d (W t), .un, .un, .un, .un, .un] M := by
    intro t ht
    have hb : t.length ≤ BL := Nat.le_trans ht (by decide)
    have hz := st_sz hb
    refine ⟨t, rfl, hb, ?_⟩
    refine ⟨numI t, rfl, fun _ => ?_, tf⟩
    refine ⟨t, rfl, hb, fun h => ?_, fun _ => ?_⟩
    · have h : (!decide (numI t = numI t)) = true := h
      simp at h
    have after : ∀ due0 : Bool, due0 = (decide (1 ≤ t.length) && decide (t.length ≤ 6)) → r_law_words_7 cs (ends Φ) [.d (.scr ns), S, R, .d (W t), .un, .d (.int (numI t)), .d (.bl due0), .un, .un] M := by
      intro due0 hd
      refine ⟨fun j Δ M' => M' = M ∧ Δ = [.d (.scr ns), S, R, .d (W t), .un, .d (.int (numI t)), .d (.bl (due0 && (t.take j).all fun c => decide (97 ≤ c) && decide (c ≤ 122))), .un, .un], ⟨rfl, ?_⟩, ?_, ?_⟩
      · show [Sl.d (.scr ns), S, R, .d (W t), .un, .d (.int (numI t)), .d (.bl due0), .un, .un] = _
        rw [List.take_zero, List.all_nil, Bool.and_true]
      · rintro j d Δ1 M1 hj ⟨rfl, rfl⟩
        obtain ⟨x, hx, rfl⟩ := signs_get hj
        refine ⟨_, rfl, fun h => ⟨rfl, ?_⟩, fun h => ⟨rfl, ?_⟩⟩
        · have n : x ∉ (List.range 26).map (97 + ·) := nin c_lw h
          have e : (decide (97 ≤ x) && decide (x ≤ 122)) = false := by
            rw [Bool.eq_false_iff]
            exact fun z => n (lw_mem.mpr z)
          rw [take_snoc hx, List.all_append]
          show [Sl.d (.scr ns), S, R, .d (W t), .un, .d (.int (numI t)), .d (.bl false), .un, .un] = _
          have e2 : ([x].all fun c => decide (97 ≤ c) && decide (c ≤ 122)) = false := by
            show ((decide (97 ≤ x) && decide (x ≤ 122)) && true) = false
            rw [e] <;> rfl
          rw [e2, Bool.and_false, Bool.and_false]
        · have n : x ∈ (List.range 26).map (97 + ·) := nin' c_lw h
          rw [take_snoc hx, List.all_append]
          have e2 : ([x].all fun c => decide (97 ≤ c) && decide (c ≤ 122)) = true := by
            show ((decide (97 ≤ x) && decide (x ≤ 122)) && true) = true
            rw [lw_mem.mp n] <;> rfl
          rw [e2, Bool.and_true]
          rfl
      · rintro Δ1 M1 ⟨rfl, rfl⟩
        rw [signs_len, List.take_length]
        have en : (due0 && t.all fun c => decide (97 ≤ c) && decide (c ≤ 122)) = nameOk t := by
          rw [hd] <;> rfl
        rw [en]
        refine ⟨t, rfl, hb, fun h => ?_, fun h => ?_⟩
        · show Φ (.bl (decide (nameOk t = true))) M1
          rw [h]
          exact q M1
        · show Φ (.bl (decide (nameOk t = false))) M1
          rw [h]
          exact q M1
    refine ⟨hz, fun h => ⟨hz, ?_⟩, fun h => ?_⟩
    · have h := of_decide_eq_true h
      rw [st_len] at h
      refine after _ ?_
      rw [decide_eq_true (show 1 ≤ t.length by omega), Bool.true_and, decide_eq_decide, st_len]
      omega
    · have h := of_decide_eq_false h
      rw [st_len] at h
      refine after false ?_
      rw [decide_eq_false (show ¬ 1 ≤ t.length by omega), Bool.false_and]
  refine ⟨_, a0, (by show (0 : Int) < 8; decide), ⟨by omega, by omega⟩, fun i Δ M' => M' = M ∧ ∃ t : List Nat, Δ = [.d (.scr ns), S, R, .d (W t), .un, .un, .un, .un, .un] ∧ t.length ≤ i, ⟨rfl, [], ?_, Nat.le_refl _⟩, ?_, ?_⟩
  · show [Sl.d (.scr ns), S, R, .d (.str (Str.ofString "")), .un, .un, .un, .un, .un] = _
    rw [l_no] <;> rfl
  · rintro i d Δ1 M1 hi ⟨rfl, t, rfl, ht⟩
    obtain ⟨hi, rfl⟩ := rangeD_some hi
    have hi8 : i < 8 := by omega
    obtain ⟨q1, a1, c1⟩ := row_at hR (i := 1 + (0 + (i : Nat))) (by omega) (by omega)
    obtain ⟨m, hm, m0, m1⟩ := four (r0 / 8 % 4) (by omega) (by omega)
    have g0 := Int.emod_nonneg q1 (show m ≠ 0 by omega)
    have g1 := Int.emod_lt_of_pos q1 m0
    obtain ⟨k, hk⟩ := ix_int (l := codes signsS) (i := q1 % m) g0 (by rw [signs_n]; omega)
    refine ⟨_, a1, _, a0, ⟨by decide, .inl (by decide)⟩, (by show (0 : Int) < 4; decide), _, hm, m0, ?_, k, hk, ?_, rfl, t ++ [k], ?_, ?_⟩
    · show (codes signsS).length ≤ sizeLine
      rw [signs_n]
      exact sz_bl (by decide)
    · rw [st_len]
      show t.length + 1 ≤ _
      exact sz_bl (by omega)
    · show fgt [4] ([Sl.d (.scr ns), S, R, .d (.str (st t ++ st [k])), _, _, _, _, _]) = _
      rw [st_app] <;> rfl
    · rw [List.length_append]
      show t.length + 1 ≤ _
      omega
  · rintro Δ1 M1 ⟨rfl, t, rfl, ht⟩
    rw [rangeD_len] at ht
    exact main t (by omega)
/-! ### a drawn value -/
def IT (t : T) : D := .tup [t.D, .int (t.dep : Nat)]
def PI (pl : List T) : List D := pl.map IT
theorem at_1 {xs : List D} {x : D} : atI (xs ++ [x]) (-1) = some x := by
  unfold atI ixN
  rw [List.length_append, if_neg (by decide), if_pos (by show -((xs.length + 1 : Nat) : Int) ≤ -1; omega)]
  show (xs ++ [x])[((-1 : Int) + ((xs.length + 1 : Nat) : Int)).toNat]? = _
  rw [show ((-1 : Int) + ((xs.length + 1 : Nat) : Int)).toNat = xs.length by omega]
  simp
theorem at_2 {xs : List D} {x y : D} : atI (xs ++ [x, y]) (-2) = some x := by
  unfold atI ixN
  rw [List.length_append, if_neg (by decide), if_pos (by show -((xs.length + 2 : Nat) : Int) ≤ -2; omega)]
  show (xs ++ [x, y])[((-2 : Int) + ((xs.length + 2 : Nat) : Int)).toNat]? = _
  rw [show ((-2 : Int) + ((xs.length + 2 : Nat) : Int)).toNat = xs.length by omega]
  simp
theorem cut_2 {xs : List D} {x y : D} : cutD (xs ++ [x, y]) none (some (-2)) = xs := by
  unfold DL.cutD
  rw [HT.sIx_none, List.length_append]
  have e : HT.sIx (xs.length + [x, y].length) (xs.length + [x, y].length) (some (-2)) = xs.length := by
    unfold HT.sIx
    dsimp only
    rw [if_pos (show (-2 : Int) < 0 by decide)]
    show ((-2 : Int) + ((xs.length + 2 : Nat) : Int)).toNat = xs.length
    omega
  rw [e]
  simp
def PV (ns : List Int) (k : Int) (Rw : D) (i : Nat) (Δ : List Sl) (M : Mem) : Prop := ∃ (pl : List T) (g : Bool) (s7 s8 : Sl) (c : Addr), Δ = [.d (.scr ns), .d (.int k), .d Rw, .d (.ref c), .d (.bl g), .un, .un, s7, s8] ∧ M c = some (.lst (PI pl)) ∧ (0 < i → pl ≠ []) ∧ pl.length ≤ i ∧ ∀ t ∈ pl, t.dep ≤ 5 ∧ Below 2000 t ∧ (g = false → Below 1000 t)
theorem two_last {pl : List T} (h : 1 < pl.length) : ∃ u a b, pl = u ++ [a, b] := by
  obtain ⟨v, b, rfl⟩ : ∃ v b, pl = v ++ [b] := ⟨pl.dropLast, pl.getLast (by intro z; rw [z] at h; simp at h), (List.dropLast_concat_getLast _).symm⟩
  rw [List.length_append] at h
  have hv : v ≠ [] := fun z => by rw [z] at h; simp at h
  refine ⟨v.dropLast, v.getLast hv, b, ?_⟩
  have := (List.dropLast_concat_getLast hv).symm
  calc v ++ [b] = (v.dropLast ++ [v.getLast hv]) ++ [b] := by rw [← this]
    _ = _ := by simp
theorem one_last {pl : List T} (h : pl ≠ []) : ∃ u b, pl = u ++ [b] := ⟨pl.dropLast, pl.getLast h, (List.dropLast_concat_getLast _).symm⟩
theorem PI_app {u v : List T} : PI (u ++ v) = PI u ++ PI v := by
  unfold PI
  rw [List.map_append]
theorem red_law_value (cs : Cs) : ∀ ds M Φ Ψ, S_law_value cs ds M Φ Ψ → r_law_value cs (ends Φ) (startD 9 ds) M := by
  rintro ds M Φ Ψ ⟨ns, k, rfl, hk0, hk1, q⟩
  obtain ⟨r0, h0, b0, b1⟩ := row1 ns k
  refine ⟨ns, k, 1, rfl, hk0, by omega, by decide, ?_⟩
  rw [h0]
  refine fun c0 hc0 => ?_
  refine ⟨.int r0, rfl, (by show (0 : Int) < 9; decide), ⟨by omega, by omega⟩, PV ns k (.lst [.int r0]), ⟨[], false, .un, .un, c0, rfl, updM_same, fun z => absurd z (by decide), Nat.le_refl _, fun t ht => by cases ht⟩, ?_, ?_⟩
  · rintro i d Δ1 M1 hi ⟨pl, g, s7, s8, c, rfl, hc, hne, hlen, hall⟩
    obtain ⟨hi, rfl⟩ := rangeD_some hi
    have hi9 : i < 9 := by omega
    have hR : Row (lawRow ns (k + 1 + (0 + (i : Nat))) 2) 2 := row_law _ _ _
    obtain ⟨o0, a0, d0⟩ := row_at hR (i := 0) (by omega) (by omega)
    obtain ⟨o1, a1, d1⟩ := row_at hR (i := 1) (by omega) (by omega)
    refine ⟨ns, k + 1 + (0 + (i : Nat)), 2, rfl, by omega, by omega, by decide, ?_⟩
    have plen : (PI pl).length = pl.length := by unfold PI; rw [List.length_map]
    have sz : pl.length + 2 ≤ sizeLine := small_sz (by omega)
    have push : ∀ (v : Int) (g' : Bool) (s8 : Sl), 0 ≤ v → v < 2000 → (g' = false → g = false ∧ v < 1000) → PV ns k (.lst [.int r0]) (i + 1) [.d (.scr ns), .d (.int k), .d (.lst [.int r0]), .d (.ref c), .d (.bl g'), .un, .un, s7, s8] (updM M1 c (.lst (PI pl ++ [.tup [.int v, .int 0]]))) := by
      intro v g' s8 v0 v1 vg
      refine ⟨pl ++ [.n v], g', s7, s8, c, rfl, ?_, fun _ z => by simp at z, by rw [List.length_append]; show pl.length + 1 ≤ _; omega, ?_⟩
      · rw [updM_same, PI_app] <;> rfl
      · intro t ht
        rcases List.mem_append.mp ht with ht | ht
        · obtain ⟨e1, e2, e3⟩ := hall t ht
          exact ⟨e1, e2, fun z => e3 (vg z).1⟩
        · rw [List.mem_singleton.mp ht]
          exact ⟨Nat.zero_le _, ⟨v0, v1⟩, fun z => ⟨v0, (vg z).2⟩⟩
    have B : ∀ (De : DE) (s5 s6 : D), (∀ Δ M, PV ns k (.lst [.int r0]) (i + 1) (fgt [5, 6] Δ) M → De.nx Δ M) → dSeq (dSet 8 (dCB dInt (dCons (dOp dIx (dVar 6) (dC (.int 1))) dNil))) (dSeq (dIfS (dTest (dOp dEqA (dOp (dIC (fun _ j => 0 < j) fun i j => .int (i % j)) (dOp dIx (dVar 6) (dC (.int 0))) (dC (.int 11))) (dC (.int 0)))) (dSeq (dSet 8 (dOp dAdd (dC (.int 1000)) (dOp (dIC (fun _ j => 0 < j) fun i j => .int (i % j)) (dCB dInt (dCons (dOp dIx (dVar 6) (dC (.int 1))) dNil)) (dC (.int 100))))) (dSet 4 (dC (.bl true)))) dNext) (dAppM (dVar 3) (dTup (dCons (dVar 8) (dCons (dC (.int 0)) dNil))))) De
        [.d (.scr ns), .d (.int k), .d (.lst [.int r0]), .d (.ref c), .d (.bl g), .d s5, .d (rowD (lawRow ns (k + 1 + (0 + (i : Nat))) 2)), s7, s8] M1 := by
      intro De s5 s6 nx
      refine ⟨_, a1, _, a0, (by show (0 : Int) < 11; decide), fun _ => ?_, fun _ => ?_⟩
      · refine ⟨_, a1, (by show (0 : Int) < 100; decide), ⟨_, hc⟩, _, hc, by rw [plen]; omega, nx _ _ ?_⟩
        exact push (1000 + o1 % 100) true _ (by omega) (by omega) (fun z => by cases z)
      · refine ⟨⟨_, hc⟩, _, hc, by rw [plen]; omega, nx _ _ ?_⟩
        exact push o1 g _ (by omega) (by omega) (fun z => ⟨z, by omega⟩)
    refine ⟨_, a0, (by show (0 : Int) < 3; decide), fun _ => ⟨_, hc, fun h2 => ?_, fun _ => B _ (.int (0 + (i : Nat))) .non fun _ _ h => h⟩, fun _ => B _ (.int (0 + (i : Nat))) .non fun _ _ h => h⟩
    have h2 := of_decide_eq_true h2
    rw [plen] at h2
    obtain ⟨u, a, b, rfl⟩ := two_last (pl := pl) (by omega)
    have ep : PI (u ++ [a, b]) = PI u ++ [IT a, IT b] := PI_app
    have ep1 : PI (u ++ [a, b]) = (PI u ++ [IT a]) ++ [IT b] := by rw [ep]; simp
    have x1 : atI (PI (u ++ [a, b])) (-1) = some (IT b) := by rw [ep1]; exact at_1
    have x2 : atI (PI (u ++ [a, b])) (-2) = some (IT a) := by rw [ep]; exact at_2
    have y0 : ∀ t : T, atI [t.D, D.int (t.dep : Nat)] (0 : Int) = some t.D := fun _ => rfl
    have y1 : ∀ t : T, atI [t.D, D.int (t.dep : Nat)] (1 : Int) = some (.int (t.dep : Nat)) := fun _ => rfl
    obtain ⟨ha1, ha2, ha3⟩ := hall a (by simp)
    obtain ⟨hb1, hb2, hb3⟩ := hall b (by simp)
    refine ⟨_, hc, _, x1, _, y1 b, _, hc, _, x2, _, y1 a, fun h3 => ?_, fun _ => B _ (.int (0 + (i : Nat))) .non fun _ _ h => h⟩
    have h3 := of_decide_eq_true h3
    refine ⟨_, hc, _, x2, _, y0 a, _, hc, _, x1, _, y0 b, _, hc, _, x1, _, y1 b, _, hc, _, x2, _, y1 a, ?_⟩
    refine ⟨_, hc, _, _, rfl, rfl, ?_, fun c2 hc2 => ?_⟩
    · rw [ep, cut_2]
      have : (PI u).length = u.length := by unfold PI; rw [List.length_map]
      show _ + 1 ≤ _
      rw [List.length_append] at sz
      omega
    · have hd : (if ((a.dep : Nat) : Int) > ((b.dep : Nat) : Int) then ((a.dep : Nat) : Int) else ((b.dep : Nat) : Int)) = ((max a.dep b.dep : Nat) : Int) := by
        split <;> omega
      have hd5 : max a.dep b.dep < 5 := by
        have h3 : (if ((a.dep : Nat) : Int) > ((b.dep : Nat) : Int) then ((a.dep : Nat) : Int) else ((b.dep : Nat) : Int)) < 5 := h3
        rw [hd] at h3
        omega
      refine ⟨u ++ [.p a b], g, _, s8, c2, rfl, ?_, fun _ z => by simp at z, ?_, ?_⟩
      · rw [updM_same, ep, cut_2, PI_app]
        show some (OD.lst (PI u ++ [.tup [.tup [a.D, b.D], .int (1 + if ((a.dep : Nat) : Int) > ((b.dep : Nat) : Int) then ((a.dep : Nat) : Int) else ((b.dep : Nat) : Int))]])) = some (OD.lst (PI u ++ [.tup [.tup [a.D, b.D], .int ((1 + max a.dep b.dep : Nat) : Int)]]))
        rw [hd, show (1 : Int) + ((max a.dep b.dep : Nat) : Int) = ((1 + max a.dep b.dep : Nat) : Int) by omega]
      · rw [List.length_append] at hlen ⊢
        have : u.length + 2 ≤ i := hlen
        show u.length + 1 ≤ i + 1
        omega
      · intro t ht
        rcases List.mem_append.mp ht with ht | ht
        · exact hall t (List.mem_append.mpr (.inl ht))
        · rw [List.mem_singleton.mp ht]
          refine ⟨?_, ⟨ha2, hb2⟩, fun z => ⟨ha3 z, hb3 z⟩⟩
          show 1 + max a.dep b.dep ≤ 5
          omega
  · rintro Δ1 M1 ⟨pl, g, s7, s8, c, rfl, hc, hne, hlen, hall⟩
    rw [rangeD_len] at hne hlen
    obtain ⟨u, b, rfl⟩ := one_last (hne (by omega))
    obtain ⟨hb1, hb2, hb3⟩ := hall b (by simp)
    have x1 : atI (PI (u ++ [b])) (-1) = some (IT b) := by rw [PI_app]; exact at_1
    refine ⟨_, hc, _, x1, _, rfl, _, hc, _, x1, _, rfl, fun h => ?_, fun h => ?_⟩
    · have h := of_decide_eq_true h
      refine q b (!g) M1 hb1 hb2 fun z => ⟨hb3 (by simpa using z), by omega⟩
    · exact q b false M1 hb1 hb2 fun z => by cases z
/-! ### values -/
theorem cut_WS (ts : List (List Nat)) (lo hi : Option Int) : ∃ u, DL.cutD (WS ts) lo hi = WS u ∧ u.length ≤ ts.length ∧ ∀ t ∈ u, t ∈ ts := by
  refine ⟨(ts.drop (HT.sIx ts.length 0 lo)).take (HT.sIx ts.length ts.length hi - HT.sIx ts.length 0 lo), ?_, ?_, fun t ht => List.mem_of_mem_drop (List.mem_of_mem_take ht)⟩
  · unfold DL.cutD
    rw [WS_len]
    unfold WS
    rw [List.map_take, List.map_drop]
  · rw [List.length_take, List.length_drop]
    omega
theorem WS_app {u v : List (List Nat)} : WS u ++ WS v = WS (u ++ v) := by
  unfold WS
  rw [List.map_append]
theorem WS_set {ts : List (List Nat)} {j : Nat} {w : List Nat} : (WS ts).set j (W w) = WS (ts.set j w) := by
  unfold WS
  rw [List.map_set]
def Sm (m : Nat) (ts : List (List Nat)) : Prop := ∀ t ∈ ts, t.length ≤ m
abbrev menu6 : List String := ["(", ")", "5", "007", "a", "1000"]
theorem menu6_ok : (menu6.all fun s => decide ((codes s).length ≤ 10) && (codes s).all (· < 128)) = true := by decide +kernel
abbrev menu5 : List String := ["(", ")", "0", "-1", "="]
theorem menu5_ok : (menu5.all fun s => decide ((codes s).length ≤ 10) && (codes s).all (· < 128)) = true := by decide +kernel
theorem red_law_values (cs : Cs) : ∀ ds M Φ Ψ, S_law_values cs ds M Φ Ψ → r_law_values cs (ends Φ) (startD 13 ds) M := by
  rintro ds M Φ Ψ ⟨ns, rfl, q⟩
  refine ⟨ns, 14, rfl, by decide, by decide, fun t g M1 hd hB hg => ⟨rfl, ?_⟩⟩
  have hB4 : Below 10000 t := hB.mono (by decide)
  have tl : (textT t).length ≤ 509 := by
    have h := text_len hB4
    have p : 2 ^ t.dep ≤ 2 ^ 5 := Nat.pow_le_pow_right (by decide) hd
    omega
  have tb : (textT t).length ≤ BL := Nat.le_trans tl (by decide)
  refine ⟨t, rfl, by omega, by decide, by omega, hB4, ?_⟩
  -- the last steps, for any line
  have fin : ∀ (l : List Nat) (A B C E G : D) (F : Nat) M', l.length ≤ BL → (∀ v, readL l = .inl v → F = 0) → (∀ k, readL l = .inr k → F = k ∧ 0 < k) →
      r_law_values_13 cs (ends Φ) [.d (.scr ns), .d t.D, .d (.bl g), .d (W (textT t)), .d A, .d B, .d C, .d (W l), .d E, .d G, .d (.int (F : Nat)), .un, .un] M' := by
    intro l A B C E G F M' hl f1 f2
    have r14 : ∀ M'', r_law_values_14 cs (ends Φ) [.d (.scr ns), .d t.D, .d (.bl g), .d (W (textT t)), .d A, .d B, .d C, .d (W l), .d E, .d G, .d (.int (F : Nat)), .un, .un] M'' := by
      intro M''
      refine ⟨l, rfl, hl, fun v hv M5 => ?_, fun k hk M5 => ?_⟩
      · have hF := f1 v hv
        have e0 : ((F : Nat) : Int) = 0 := by omega
        have h0 : (scan l).2 = 0 := by
          unfold readL at hv
          split at hv
          · assumption
          · cases hv
        have hr : readT (scan l).1 = .inl v := by
          unfold readL at hv
          rw [if_pos h0] at hv
          exact hv
        obtain ⟨v1, v2, v3⟩ := read_text h0 hr
        have v4 : Below 10000 v := v2.mono (by decide)
        have last : ∀ M6, S_value_text cs 7 [v.D] M6 (fun x M7 => dEqA x (W l) fun z => Φ z M7) noX := fun M6 => by
          refine ⟨v, rfl, by omega, by decide, by omega, v4, ?_⟩
          show Φ (.bl (decide (st (textT v) = st l))) M6
          rw [v1, decide_eq_true rfl]
          exact q M6
        refine ⟨fun _ => ⟨fun h => ⟨fun _ => last M5, tf⟩, fun h => ?_⟩, tt e0⟩
        have h : (!decide (st l = st (textT t))) = false := h
        have h' : decide (st l = st (textT t)) = true := by simpa using h
        have e : l = textT t := st_inj (of_decide_eq_true h')
        have evt : v = t := text_inj (v2.mono (by decide)) (hB.mono (by decide)) (v1.trans e)
        refine ⟨t, by rw [evt], by omega, by decide, fun _ => last M5, tf⟩
      · refine ⟨true, List.mem_singleton.mpr rfl, fun _ a => ?_, tf⟩
        obtain ⟨k1, k2⟩ := f2 k hk
        have pos : (0 : Int) < (F : Nat) := by omega
        refine ⟨fun _ => ⟨rfl, _, er_l, fun _ => ⟨rfl, _, er_t, ?_⟩, tt rfl⟩, fun h => absurd pos (of_decide_eq_false h)⟩
        show Φ (.bl (decide (((k : Nat) : Int) = ((F : Nat) : Int)))) M5
        rw [decide_eq_true (by omega)]
        exact q M5
    cases hrl : readL l with
    | inl v =>
      have hF := f1 v hrl
      have e0 : ((F : Nat) : Int) = 0 := by omega
      refine ⟨fun _ => ⟨l, rfl, hl, fun _ _ M4 => ⟨ff, fun _ => ⟨fun h => absurd (of_decide_eq_true h) (by omega), fun _ => r14 M4⟩⟩, fun k hk => (by rw [hrl] at hk; cases hk)⟩, tt e0⟩
    | inr k =>
      obtain ⟨k1, k2⟩ := f2 k hrl
      have pos : (0 : Int) < (F : Nat) := by omega
      refine ⟨fun h => absurd (of_decide_eq_true h) (by omega), fun _ => ⟨fun _ => ⟨l, rfl, hl, fun v hv => (by rw [hrl] at hv; cases hv), fun _ _ M4 => ⟨ff, fun _ => r14 M4⟩⟩, fun h => absurd pos (of_decide_eq_false h)⟩⟩
  have s9 : ∀ (p' : Addr) (ts' : List (List Nat)) (B C : D) M', M' p' = some (.lst (WS ts')) → ts'.length ≤ 1900 → Sm 1000 ts' →
      r_law_values_9 cs (ends Φ) [.d (.scr ns), .d t.D, .d (.bl g), .d (W (textT t)), .d (.ref p'), .d B, .d C, .un, .un, .un, .un, .un, .un] M' := by
    intro p' ts' B C M' hM h1 h2
    refine ⟨p', ts', rfl, hM, h1, h2, fun l hl => ?_⟩
    refine ⟨l, rfl, hl, fun p2 hp2 => ⟨rfl, fun h => ?_, fun h => ?_⟩⟩
    · have h := of_decide_eq_true h
      have h0 : (scan l).2 = 0 := by omega
      refine ⟨p2, (scan l).1, rfl, updM_same, scan_tok hl, fun M3 => ?_⟩
      refine fin l _ _ _ _ _ _ M3 hl (fun v hv => ?_) (fun k hk => ?_)
      · unfold readL at hv
        rw [if_pos h0] at hv
        rw [fault_read, hv]
      · unfold readL at hk
        rw [if_pos h0] at hk
        exact ⟨by rw [fault_read, hk], read_pos _ hk⟩
    · have h := of_decide_eq_false h
      have h0 : (scan l).2 ≠ 0 := by omega
      refine fin l _ _ _ _ _ _ _ hl (fun v hv => ?_) (fun k hk => ?_)
      · unfold readL at hv
        rw [if_neg h0] at hv
        cases hv
      · unfold readL at hk
        rw [if_neg h0] at hk
        cases hk
        exact ⟨rfl, by omega⟩
  have next : r_law_values_3 cs (ends Φ) [.d (.scr ns), .d t.D, .d (.bl g), .d (W (textT t)), .un, .un, .un, .un, .un, .un, .un, .un, .un] M1 := by
    refine ⟨textT t, rfl, tb, fun p hp => ⟨_, rfl, ?_⟩⟩
    obtain ⟨z1, z2⟩ := scan_ok tb ((textT t).length + 1) 0 [] (Nat.zero_le _) (Nat.le_refl _) (fun _ z => by cases z)
    have z1 : (scan (textT t)).1.length ≤ (textT t).length := z1
    have z2 : ∀ x ∈ (scan (textT t)).1, x.length ≤ (textT t).length := z2
    have hR : Row (lawRow ns 24 3) 3 := row_law _ _ _
    obtain ⟨q0, a0, c0⟩ := row_at hR (i := 0) (by omega) (by omega)
    obtain ⟨q1, a1, c1⟩ := row_at hR (i := 1) (by omega) (by omega)
    obtain ⟨q2, a2, c2⟩ := row_at hR (i := 2) (by omega) (by omega)
    refine ⟨ns, 24, 3, rfl, by decide, by decide, by decide, ?_⟩
    have hpos : (0 : Int) < ((WS (scan (textT t)).1).length : Nat) + 1 := by omega
    have c60 : (0 : Int) < 6 := by decide
    suffices main : ∀ pl : Int, 0 ≤ pl → r_law_values_6 cs (ends Φ) [.d (.scr ns), .d t.D, .d (.bl g), .d (W (textT t)), .d (.ref p), .d (rowD (lawRow ns 24 3)), .d (.int pl), .un, .un, .un, .un, .un, .un] (updM M1 p (.lst (WS (scan (textT t)).1))) from
      ⟨_, a1, _, updM_same, hpos, main (q1 % (((WS (scan (textT t)).1).length : Nat) + 1)) (Int.emod_nonneg _ (by omega))⟩
    intro pl pl0
    have s8 : ∀ (p' : Addr) (ts' : List (List Nat)) M', M' p' = some (.lst (WS ts')) → ts'.length ≤ 1900 → Sm 1000 ts' →
        r_law_values_8 cs (ends Φ) [.d (.scr ns), .d t.D, .d (.bl g), .d (W (textT t)), .d (.ref p'), .d (rowD (lawRow ns 24 3)), .d (.int pl), .un, .un, .un, .un, .un, .un] M' := by
      intro p' ts' M' hM h1 h2
      refine ⟨_, a0, c60, fun _ => ⟨_, hM, fun h => ?_, fun _ => s9 p' ts' _ _ M' hM h1 h2⟩, fun _ => s9 p' ts' _ _ M' hM h1 h2⟩
      have h := of_decide_eq_true h
      obtain ⟨w, hw, lw, _⟩ := lits_at menu5_ok (i := q2 % 5) (by omega) (show q2 % 5 < 5 by omega)
      have hix : ixN (WS ts').length pl = some pl.toNat := by
        unfold ixN
        rw [if_pos pl0, if_pos h]
      refine ⟨_, a2, (by show (0 : Int) < 5; decide), _, hw, _, _, hM, hix, ?_⟩
      rw [WS_set]
      refine s9 p' _ _ _ _ updM_same (by rw [List.length_set]; exact h1) fun x hx => ?_
      rcases List.mem_or_eq_of_mem_set hx with hx | hx
      · exact h2 x hx
      · rw [hx]; omega
    have s7 : ∀ (p' : Addr) (ts' : List (List Nat)) M', M' p' = some (.lst (WS ts')) → ts'.length ≤ 1100 → (q0 % 6 = 1 → ts'.length ≤ 600) → Sm 1000 ts' →
        r_law_values_7 cs (ends Φ) [.d (.scr ns), .d t.D, .d (.bl g), .d (W (textT t)), .d (.ref p'), .d (rowD (lawRow ns 24 3)), .d (.int pl), .un, .un, .un, .un, .un, .un] M' := by
      intro p' ts' M' hM h1 h1' h2
      refine ⟨_, a0, c60, fun h => ?_, fun _ => s8 p' ts' M' hM (by omega) h2⟩
      have h6 := h1' (of_decide_eq_true h)
      obtain ⟨u, eu, lu, mu⟩ := cut_WS ts' none (some pl)
      obtain ⟨v, ev, lv, mv⟩ := cut_WS ts' (some pl) none
      obtain ⟨w, hw, lw, _⟩ := lits_at menu6_ok (i := q2 % 6) (by omega) (show q2 % 6 < 6 by omega)
      have e1 : WS u ++ [W w] = WS (u ++ [w]) := WS_snoc
      refine ⟨_, hM, _, a2, c60, _, hw, ?_, _, hM, _, _, rfl, rfl, ?_, fun p3 hp3 => ?_⟩
      · rw [eu, WS_len]
        exact small_sz (by show u.length + 1 ≤ _; omega)
      · rw [eu, ev, e1, WS_len, WS_len, List.length_append]
        exact small_sz (by show u.length + 1 + _ ≤ _; omega)
      · rw [eu, ev, e1, WS_app]
        refine s8 p3 _ _ updM_same ?_ fun x hx => ?_
        · rw [List.length_append, List.length_append]
          show u.length + 1 + v.length ≤ _
          omega
        · rcases List.mem_append.mp hx with hx | hx
          · rcases List.mem_append.mp hx with hx | hx
            · exact h2 x (mu x hx)
            · rw [List.mem_singleton.mp hx]; omega
          · exact h2 x (mv x hx)
    have sm : Sm 1000 (scan (textT t)).1 := fun x hx => by have := z2 x hx; omega
    refine ⟨_, a0, c60, fun h => ?_, fun _ => s7 p _ _ updM_same (by omega) (fun _ => by omega) sm⟩
    have h := of_decide_eq_true h
    obtain ⟨u, eu, lu, mu⟩ := cut_WS (scan (textT t)).1 none (some pl)
    obtain ⟨v, ev, lv, mv⟩ := cut_WS (scan (textT t)).1 (some (pl + 1)) none
    refine ⟨_, updM_same, _, updM_same, _, _, rfl, rfl, ?_, fun p3 hp3 => ?_⟩
    · rw [eu, ev, WS_len, WS_len]
      exact small_sz (by omega)
    · rw [eu, ev, WS_app]
      refine s7 p3 _ _ updM_same (by rw [List.length_append]; omega) (fun z => by omega) fun x hx => ?_
      rcases List.mem_append.mp hx with hx | hx
      · exact sm x (mu x hx)
      · exact sm x (mv x hx)
  refine ⟨fun _ => ?_, fun _ => next⟩
  refine ⟨t, rfl, by omega, by decide, by omega, hB4, fun h => ?_, fun _ => next⟩
  have h : (!decide (st (textT t) = st (textT t))) = true := h
  simp at h
end My

set_option Elab.async false
set_option linter.all false
set_option maxRecDepth 100000
set_option maxHeartbeats 4000000
namespace My
open PySem PySem.Spec PyProof.Rows L2 DL
open Evl (Ex)
def topS (i : Nat) : Stmt := PySem.Challenge.pw_besideandthrough_k89_tokens_and_values.main.body.getD i (.Pass ⟨0, 0, 0, 0⟩)
abbrev s_wall : Stmt := topS 0
theorem sc_wall : FnScope ["k"] ["k"] (defScope s_wall) := ⟨rfl, rfl, rfl, by decide +kernel, rfl, by decide +kernel, by decide +kernel⟩

abbrev s_TextError_init : Stmt := inClass (topS 3) 0
theorem sc_TextError_init : FnScope ["self", "line", "token"] ["self", "line", "token"] (defScope s_TextError_init) := ⟨rfl, rfl, rfl, by decide +kernel, rfl, by decide +kernel, by decide +kernel⟩

abbrev s_token_begin : Stmt := topS 6
theorem sc_token_begin : FnScope ["line", "place", "found", "mark"] ["line", "place", "found"] (defScope s_token_begin) := ⟨rfl, rfl, rfl, by decide +kernel, rfl, by decide +kernel, by decide +kernel⟩

abbrev s_token_end : Stmt := topS 7
theorem sc_token_end : FnScope ["line", "begin", "end"] ["line", "begin"] (defScope s_token_end) := ⟨rfl, rfl, rfl, by decide +kernel, rfl, by decide +kernel, by decide +kernel⟩

abbrev s_tokens_of : Stmt := topS 5
theorem sc_tokens_of : FnScope ["line", "number", "found", "place", "begin"] ["line", "number"] (defScope s_tokens_of) := ⟨rfl, rfl, rfl, by decide +kernel, rfl, by decide +kernel, by decide +kernel⟩

abbrev s_is_digits : Stmt := topS 8
theorem sc_is_digits : FnScope ["token"] ["token"] (defScope s_is_digits) := ⟨rfl, rfl, rfl, by decide +kernel, rfl, by decide +kernel, by decide +kernel⟩

abbrev s_whole_in : Stmt := topS 9
theorem sc_whole_in : FnScope ["token", "most"] ["token", "most"] (defScope s_whole_in) := ⟨rfl, rfl, rfl, by decide +kernel, rfl, by decide +kernel, by decide +kernel⟩

abbrev s_number_in : Stmt := topS 10
theorem sc_number_in : FnScope ["token"] ["token"] (defScope s_number_in) := ⟨rfl, rfl, rfl, by decide +kernel, rfl, by decide +kernel, by decide +kernel⟩

abbrev s_is_name : Stmt := topS 11
theorem sc_is_name : FnScope ["token"] ["token"] (defScope s_is_name) := ⟨rfl, rfl, rfl, by decide +kernel, rfl, by decide +kernel, by decide +kernel⟩

abbrev s_Line_init : Stmt := inClass (topS 13) 0
theorem sc_Line_init : FnScope ["self", "text", "number"] ["self", "text", "number"] (defScope s_Line_init) := ⟨rfl, rfl, rfl, by decide +kernel, rfl, by decide +kernel, by decide +kernel⟩

abbrev s_Line_here : Stmt := inClass (topS 13) 1
theorem sc_Line_here : FnScope ["self"] ["self"] (defScope s_Line_here) := ⟨rfl, rfl, rfl, by decide +kernel, rfl, by decide +kernel, by decide +kernel⟩

abbrev s_Line_need : Stmt := inClass (topS 13) 2
theorem sc_Line_need : FnScope ["self", "good"] ["self", "good"] (defScope s_Line_need) := ⟨rfl, rfl, rfl, by decide +kernel, rfl, by decide +kernel, by decide +kernel⟩

abbrev s_Line_take : Stmt := inClass (topS 13) 3
theorem sc_Line_take : FnScope ["self", "good", "token"] ["self", "good"] (defScope s_Line_take) := ⟨rfl, rfl, rfl, by decide +kernel, rfl, by decide +kernel, by decide +kernel⟩

abbrev s_Line_mark : Stmt := inClass (topS 13) 4
theorem sc_Line_mark : FnScope ["self", "sign"] ["self", "sign"] (defScope s_Line_mark) := ⟨rfl, rfl, rfl, by decide +kernel, rfl, by decide +kernel, by decide +kernel⟩

abbrev s_Line_whole : Stmt := inClass (topS 13) 5
theorem sc_Line_whole : FnScope ["self", "most", "number"] ["self", "most"] (defScope s_Line_whole) := ⟨rfl, rfl, rfl, by decide +kernel, rfl, by decide +kernel, by decide +kernel⟩

abbrev s_Line_below : Stmt := inClass (topS 13) 6
theorem sc_Line_below : FnScope ["self", "most", "many"] ["self", "most", "many"] (defScope s_Line_below) := ⟨rfl, rfl, rfl, by decide +kernel, rfl, by decide +kernel, by decide +kernel⟩

abbrev s_Line_name : Stmt := inClass (topS 13) 7
theorem sc_Line_name : FnScope ["self"] ["self"] (defScope s_Line_name) := ⟨rfl, rfl, rfl, by decide +kernel, rfl, by decide +kernel, by decide +kernel⟩

abbrev s_Line_finish : Stmt := inClass (topS 13) 8
theorem sc_Line_finish : FnScope ["self"] ["self"] (defScope s_Line_finish) := ⟨rfl, rfl, rfl, by decide +kernel, rfl, by decide +kernel, by decide +kernel⟩

abbrev s_value_text : Stmt := topS 16
theorem sc_value_text : FnScope ["value"] ["value"] (defScope s_value_text) := ⟨rfl, rfl, rfl, by decide +kernel, rfl, by decide +kernel, by decide +kernel⟩

abbrev s_value_in : Stmt := topS 17
theorem sc_value_in : FnScope ["line", "depth", "left", "right"] ["line", "depth"] (defScope s_value_in) := ⟨rfl, rfl, rfl, by decide +kernel, rfl, by decide +kernel, by decide +kernel⟩

abbrev s_last_value_in : Stmt := topS 18
theorem sc_last_value_in : FnScope ["line", "value"] ["line"] (defScope s_last_value_in) := ⟨rfl, rfl, rfl, by decide +kernel, rfl, by decide +kernel, by decide +kernel⟩

abbrev s_read_value : Stmt := topS 19
theorem sc_read_value : FnScope ["text"] ["text"] (defScope s_read_value) := ⟨rfl, rfl, rfl, by decide +kernel, rfl, by decide +kernel, by decide +kernel⟩

abbrev s_is_value_text : Stmt := topS 20
theorem sc_is_value_text : FnScope ["text"] ["text"] (defScope s_is_value_text) := ⟨rfl, rfl, rfl, by decide +kernel, rfl, by decide +kernel, by decide +kernel⟩

abbrev s_law_row : Stmt := topS 22
theorem sc_law_row : FnScope ["_law_script", "_law_k", "_law_count", "_law_cell", "_law_row_here", "_law_at", "_law_seed"] ["_law_script", "_law_k", "_law_count"] (defScope s_law_row) := ⟨rfl, rfl, rfl, by decide +kernel, rfl, by decide +kernel, by decide +kernel⟩

abbrev s_law_is_integer : Stmt := topS 23
theorem sc_law_is_integer : FnScope ["_law_actual"] ["_law_actual"] (defScope s_law_is_integer) := ⟨rfl, rfl, rfl, by decide +kernel, rfl, by decide +kernel, by decide +kernel⟩

abbrev s_law_scan : Stmt := topS 24
theorem sc_law_scan : FnScope ["_law_line_here", "_law_found", "_law_at", "_law_turn", "_law_end", "_law_sign"] ["_law_line_here"] (defScope s_law_scan) := ⟨rfl, rfl, rfl, by decide +kernel, rfl, by decide +kernel, by decide +kernel⟩

abbrev s_law_word : Stmt := topS 25
theorem sc_law_word : FnScope ["_law_row_here", "_law_words_here"] ["_law_row_here"] (defScope s_law_word) := ⟨rfl, rfl, rfl, by decide +kernel, rfl, by decide +kernel, by decide +kernel⟩

abbrev s_law_line : Stmt := topS 26
theorem sc_law_line : FnScope ["_law_script", "_law_line_here", "_law_at", "_law_word_here", "_law_row_here", "_law_place"] ["_law_script"] (defScope s_law_line) := ⟨rfl, rfl, rfl, by decide +kernel, rfl, by decide +kernel, by decide +kernel⟩

abbrev s_law_lines : Stmt := topS 27
theorem sc_law_lines : FnScope ["_law_script", "_law_line_here", "_law_number_here", "_law_tokens", "_law_fault_here", "_law_told", "e"] ["_law_script"] (defScope s_law_lines) := ⟨rfl, rfl, rfl, by decide +kernel, rfl, by decide +kernel, by decide +kernel⟩

abbrev s_law_number : Stmt := topS 28
theorem sc_law_number : FnScope ["_law_token", "_law_sign"] ["_law_token"] (defScope s_law_number) := ⟨rfl, rfl, rfl, by decide +kernel, rfl, by decide +kernel, by decide +kernel⟩

abbrev s_law_words : Stmt := topS 29
theorem sc_law_words : FnScope ["_law_script", "_law_signs", "_law_row_here", "_law_token", "_law_at", "_law_number_here", "_law_due", "_law_sign", "_law_told"] ["_law_script"] (defScope s_law_words) := ⟨rfl, rfl, rfl, by decide +kernel, rfl, by decide +kernel, by decide +kernel⟩

abbrev s_law_value : Stmt := topS 30
theorem sc_law_value : FnScope ["_law_script", "_law_k", "_law_row_here", "_law_pile", "_law_large", "_law_at", "_law_one", "_law_pair", "_law_number_here"] ["_law_script", "_law_k"] (defScope s_law_value) := ⟨rfl, rfl, rfl, by decide +kernel, rfl, by decide +kernel, by decide +kernel⟩

abbrev s_law_text : Stmt := topS 31
theorem sc_law_text : FnScope ["_law_value_here"] ["_law_value_here"] (defScope s_law_text) := ⟨rfl, rfl, rfl, by decide +kernel, rfl, by decide +kernel, by decide +kernel⟩

abbrev s_law_equal : Stmt := topS 32
theorem sc_law_equal : FnScope ["_law_told", "_law_due"] ["_law_told", "_law_due"] (defScope s_law_equal) := ⟨rfl, rfl, rfl, by decide +kernel, rfl, by decide +kernel, by decide +kernel⟩

abbrev s_law_fault : Stmt := topS 33
theorem sc_law_fault : FnScope ["_law_tokens", "_law_counts", "_law_done", "_law_at", "_law_token", "_law_room", "_law_closed"] ["_law_tokens"] (defScope s_law_fault) := ⟨rfl, rfl, rfl, by decide +kernel, rfl, by decide +kernel, by decide +kernel⟩

abbrev s_law_joined : Stmt := topS 34
theorem sc_law_joined : FnScope ["_law_tokens", "_law_line_here", "_law_token"] ["_law_tokens"] (defScope s_law_joined) := ⟨rfl, rfl, rfl, by decide +kernel, rfl, by decide +kernel, by decide +kernel⟩

abbrev s_law_values : Stmt := topS 35
theorem sc_law_values : FnScope ["_law_script", "_law_value_here", "_law_good", "_law_text_here", "_law_tokens", "_law_row_here", "_law_place", "_law_line_here", "_law_scanned", "_law_spacing", "_law_fault_here", "_law_told", "e"] ["_law_script"] (defScope s_law_values) := ⟨rfl, rfl, rfl, by decide +kernel, rfl, by decide +kernel, by decide +kernel⟩

abbrev s_law : Stmt := topS 36
theorem sc_law : FnScope ["_law_script"] ["_law_script"] (defScope s_law) := ⟨rfl, rfl, rfl, by decide +kernel, rfl, by decide +kernel, by decide +kernel⟩

structure Txt (K : PySem.W.Frag) (mg : Str → Option Value) (cs : Cs) where
  f_wall : Addr
  d_wall : FuncData
  F_wall : Fun K "_wall" "_wall" s_wall f_wall d_wall
  b_wall : Binds K d_wall ["k"] []
  m_wall : mg "_wall" = some (.ref f_wall)
  f_TextError_init : Addr
  d_TextError_init : FuncData
  F_TextError_init : Fun K "__init__" "TextError.__init__" s_TextError_init f_TextError_init d_TextError_init
  b_TextError_init : Binds K d_TextError_init ["self", "line", "token"] []
  ti_TextError_init : PySem.W.typeIn K (.ref f_TextError_init) = some (.type "function")
  f_token_begin : Addr
  d_token_begin : FuncData
  F_token_begin : Fun K "_token_begin" "_token_begin" s_token_begin f_token_begin d_token_begin
  b_token_begin : Binds K d_token_begin ["line", "place", "found"] []
  m_token_begin : mg "_token_begin" = some (.ref f_token_begin)
  f_token_end : Addr
  d_token_end : FuncData
  F_token_end : Fun K "_token_end" "_token_end" s_token_end f_token_end d_token_end
  b_token_end : Binds K d_token_end ["line", "begin"] []
  m_token_end : mg "_token_end" = some (.ref f_token_end)
  f_tokens_of : Addr
  d_tokens_of : FuncData
  F_tokens_of : Fun K "tokens_of" "tokens_of" s_tokens_of f_tokens_of d_tokens_of
  b_tokens_of : Binds K d_tokens_of ["line", "number"] []
  m_tokens_of : mg "tokens_of" = some (.ref f_tokens_of)
  f_is_digits : Addr
  d_is_digits : FuncData
  F_is_digits : Fun K "is_digits" "is_digits" s_is_digits f_is_digits d_is_digits
  b_is_digits : Binds K d_is_digits ["token"] []
  m_is_digits : mg "is_digits" = some (.ref f_is_digits)
  f_whole_in : Addr
  d_whole_in : FuncData
  F_whole_in : Fun K "whole_in" "whole_in" s_whole_in f_whole_in d_whole_in
  b_whole_in : Binds K d_whole_in ["token", "most"] []
  m_whole_in : mg "whole_in" = some (.ref f_whole_in)
  f_number_in : Addr
  d_number_in : FuncData
  F_number_in : Fun K "number_in" "number_in" s_number_in f_number_in d_number_in
  b_number_in : Binds K d_number_in ["token"] []
  m_number_in : mg "number_in" = some (.ref f_number_in)
  f_is_name : Addr
  d_is_name : FuncData
  F_is_name : Fun K "is_name" "is_name" s_is_name f_is_name d_is_name
  b_is_name : Binds K d_is_name ["token"] []
  m_is_name : mg "is_name" = some (.ref f_is_name)
  f_Line_init : Addr
  d_Line_init : FuncData
  F_Line_init : Fun K "__init__" "Line.__init__" s_Line_init f_Line_init d_Line_init
  b_Line_init : Binds K d_Line_init ["self", "text", "number"] []
  mk_Line : Mk K cs.Line f_Line_init
  f_Line_here : Addr
  d_Line_here : FuncData
  F_Line_here : Fun K "here" "Line.here" s_Line_here f_Line_here d_Line_here
  b_Line_here : Binds K d_Line_here ["self"] []
  mm_Line_here : Meth K cs.Line "here" f_Line_here
  f_Line_need : Addr
  d_Line_need : FuncData
  F_Line_need : Fun K "need" "Line.need" s_Line_need f_Line_need d_Line_need
  b_Line_need : Binds K d_Line_need ["self", "good"] []
  mm_Line_need : Meth K cs.Line "need" f_Line_need
  f_Line_take : Addr
  d_Line_take : FuncData
  F_Line_take : Fun K "take" "Line.take" s_Line_take f_Line_take d_Line_take
  b_Line_take : Binds K d_Line_take ["self", "good"] []
  mm_Line_take : Meth K cs.Line "take" f_Line_take
  f_Line_mark : Addr
  d_Line_mark : FuncData
  F_Line_mark : Fun K "mark" "Line.mark" s_Line_mark f_Line_mark d_Line_mark
  b_Line_mark : Binds K d_Line_mark ["self", "sign"] []
  mm_Line_mark : Meth K cs.Line "mark" f_Line_mark
  f_Line_whole : Addr
  d_Line_whole : FuncData
  F_Line_whole : Fun K "whole" "Line.whole" s_Line_whole f_Line_whole d_Line_whole
  b_Line_whole : Binds K d_Line_whole ["self", "most"] []
  mm_Line_whole : Meth K cs.Line "whole" f_Line_whole
  f_Line_below : Addr
  d_Line_below : FuncData
  F_Line_below : Fun K "below" "Line.below" s_Line_below f_Line_below d_Line_below
  b_Line_below : Binds K d_Line_below ["self", "most", "many"] []
  mm_Line_below : Meth K cs.Line "below" f_Line_below
  f_Line_name : Addr
  d_Line_name : FuncData
  F_Line_name : Fun K "name" "Line.name" s_Line_name f_Line_name d_Line_name
  b_Line_name : Binds K d_Line_name ["self"] []
  mm_Line_name : Meth K cs.Line "name" f_Line_name
  f_Line_finish : Addr
  d_Line_finish : FuncData
  F_Line_finish : Fun K "finish" "Line.finish" s_Line_finish f_Line_finish d_Line_finish
  b_Line_finish : Binds K d_Line_finish ["self"] []
  mm_Line_finish : Meth K cs.Line "finish" f_Line_finish
  f_value_text : Addr
  d_value_text : FuncData
  F_value_text : Fun K "value_text" "value_text" s_value_text f_value_text d_value_text
  b_value_text : Binds K d_value_text ["value"] []
  m_value_text : mg "value_text" = some (.ref f_value_text)
  f_value_in : Addr
  d_value_in : FuncData
  F_value_in : Fun K "value_in" "value_in" s_value_in f_value_in d_value_in
  b_value_in : Binds K d_value_in ["line", "depth"] []
  m_value_in : mg "value_in" = some (.ref f_value_in)
  f_last_value_in : Addr
  d_last_value_in : FuncData
  F_last_value_in : Fun K "last_value_in" "last_value_in" s_last_value_in f_last_value_in d_last_value_in
  b_last_value_in : Binds K d_last_value_in ["line"] []
  m_last_value_in : mg "last_value_in" = some (.ref f_last_value_in)
  f_read_value : Addr
  d_read_value : FuncData
  F_read_value : Fun K "read_value" "read_value" s_read_value f_read_value d_read_value
  b_read_value : Binds K d_read_value ["text"] []
  m_read_value : mg "read_value" = some (.ref f_read_value)
  f_is_value_text : Addr
  d_is_value_text : FuncData
  F_is_value_text : Fun K "is_value_text" "is_value_text" s_is_value_text f_is_value_text d_is_value_text
  b_is_value_text : Binds K d_is_value_text ["text"] []
  m_is_value_text : mg "is_value_text" = some (.ref f_is_value_text)
  f_law_row : Addr
  d_law_row : FuncData
  F_law_row : Fun K "_law_row" "_law_row" s_law_row f_law_row d_law_row
  b_law_row : Binds K d_law_row ["_law_script", "_law_k", "_law_count"] []
  m_law_row : mg "_law_row" = some (.ref f_law_row)
  f_law_is_integer : Addr
  d_law_is_integer : FuncData
  F_law_is_integer : Fun K "_law_is_integer" "_law_is_integer" s_law_is_integer f_law_is_integer d_law_is_integer
  b_law_is_integer : Binds K d_law_is_integer ["_law_actual"] []
  m_law_is_integer : mg "_law_is_integer" = some (.ref f_law_is_integer)
  f_law_scan : Addr
  d_law_scan : FuncData
  F_law_scan : Fun K "_law_scan" "_law_scan" s_law_scan f_law_scan d_law_scan
  b_law_scan : Binds K d_law_scan ["_law_line_here"] []
  m_law_scan : mg "_law_scan" = some (.ref f_law_scan)
  f_law_word : Addr
  d_law_word : FuncData
  F_law_word : Fun K "_law_word" "_law_word" s_law_word f_law_word d_law_word
  b_law_word : Binds K d_law_word ["_law_row_here"] []
  m_law_word : mg "_law_word" = some (.ref f_law_word)
  f_law_line : Addr
  d_law_line : FuncData
  F_law_line : Fun K "_law_line" "_law_line" s_law_line f_law_line d_law_line
  b_law_line : Binds K d_law_line ["_law_script"] []
  m_law_line : mg "_law_line" = some (.ref f_law_line)
  f_law_lines : Addr
  d_law_lines : FuncData
  F_law_lines : Fun K "_law_lines" "_law_lines" s_law_lines f_law_lines d_law_lines
  b_law_lines : Binds K d_law_lines ["_law_script"] []
  m_law_lines : mg "_law_lines" = some (.ref f_law_lines)
  f_law_number : Addr
  d_law_number : FuncData
  F_law_number : Fun K "_law_number" "_law_number" s_law_number f_law_number d_law_number
  b_law_number : Binds K d_law_number ["_law_token"] []
  m_law_number : mg "_law_number" = some (.ref f_law_number)
  f_law_words : Addr
  d_law_words : FuncData
  F_law_words : Fun K "_law_words" "_law_words" s_law_words f_law_words d_law_words
  b_law_words : Binds K d_law_words ["_law_script"] []
  m_law_words : mg "_law_words" = some (.ref f_law_words)
  f_law_value : Addr
  d_law_value : FuncData
  F_law_value : Fun K "_law_value" "_law_value" s_law_value f_law_value d_law_value
  b_law_value : Binds K d_law_value ["_law_script", "_law_k"] []
  m_law_value : mg "_law_value" = some (.ref f_law_value)
  f_law_text : Addr
  d_law_text : FuncData
  F_law_text : Fun K "_law_text" "_law_text" s_law_text f_law_text d_law_text
  b_law_text : Binds K d_law_text ["_law_value_here"] []
  m_law_text : mg "_law_text" = some (.ref f_law_text)
  f_law_equal : Addr
  d_law_equal : FuncData
  F_law_equal : Fun K "_law_equal" "_law_equal" s_law_equal f_law_equal d_law_equal
  b_law_equal : Binds K d_law_equal ["_law_told", "_law_due"] []
  m_law_equal : mg "_law_equal" = some (.ref f_law_equal)
  f_law_fault : Addr
  d_law_fault : FuncData
  F_law_fault : Fun K "_law_fault" "_law_fault" s_law_fault f_law_fault d_law_fault
  b_law_fault : Binds K d_law_fault ["_law_tokens"] []
  m_law_fault : mg "_law_fault" = some (.ref f_law_fault)
  f_law_joined : Addr
  d_law_joined : FuncData
  F_law_joined : Fun K "_law_joined" "_law_joined" s_law_joined f_law_joined d_law_joined
  b_law_joined : Binds K d_law_joined ["_law_tokens"] []
  m_law_joined : mg "_law_joined" = some (.ref f_law_joined)
  f_law_values : Addr
  d_law_values : FuncData
  F_law_values : Fun K "_law_values" "_law_values" s_law_values f_law_values d_law_values
  b_law_values : Binds K d_law_values ["_law_script"] []
  m_law_values : mg "_law_values" = some (.ref f_law_values)
  f_law : Addr
  d_law : FuncData
  F_law : Fun K "law" "law" s_law f_law d_law
  b_law : Binds K d_law ["_law_script"] []
  m_law : mg "law" = some (.ref f_law)
  m_DeedsError : mg "DeedsError" = some (.ref cs.DeedsError)
  m_TextError : mg "TextError" = some (.ref cs.TextError)
  o_TextError : OexC K cs.TextError
  ii_TextError : PySem.W.findIn K (.ref cs.TextError) "__init__" = some (some (.ref f_TextError_init))
  x_TextError : XfC K cs.TextError
  n_TextError_line : PySem.W.findIn K (.ref cs.TextError) "line" = some none
  n_TextError_token : PySem.W.findIn K (.ref cs.TextError) "token" = some none
  m_Line : mg "Line" = some (.ref cs.Line)
  cl_Line : Cls K cs.Line
  n_Line_number : NoAttr K cs.Line "number"
  n_Line_place : NoAttr K cs.Line "place"
  n_Line_tokens : NoAttr K cs.Line "tokens"
  cat_TextError : ∀ C b, (C, b) ∈ [(cs.TextError, true)] → PySem.W.exmOne K (.ref C) (.ref cs.TextError) = some b
  xi_TextError : ExcC K cs.TextError
  ki_TextError_DeedsError : PySem.W.kitOne K (.ref cs.TextError) (.ref cs.DeedsError) = some true
  z_bool : mg "bool" = none
  z_int : mg "int" = none
  z_isinstance : mg "isinstance" = none
  z_len : mg "len" = none
  z_list : mg "list" = none
  z_max : mg "max" = none
  z_range : mg "range" = none
  z_str : mg "str" = none
  z_tuple : mg "tuple" = none
  g_DEEPEST : ∃ t, mg "DEEPEST" = some (.int 4 t)
section
variable {P : Program} {w : World} {K : PySem.W.Frag} {mg : Str → Option Value} {base : Heap} {cs : Cs}
theorem ok_wall (T : Txt K mg cs) : FnOk P w K mg base CX0 1 T.f_wall T.d_wall ["k"] (spOf K (S_wall cs)) := by
  refine fn_ok T.F_wall sc_wall (ar_wall cs) fun cdv A outer s H E Z hr => ⟨r_wall cs, ?_, (red_wall cs)⟩
  exact (qss_one (qs_while (js := []) PassesOwn.never (qt_truth qe_bl) (qss_one qs_pass)))

theorem okx_TextError (T : Txt K mg cs) : FnOk P w K mg base CX0 1 T.f_TextError_init T.d_TextError_init ["self", "line", "token"] (spInit cs.TextError ["line", "token"]) := by
  refine T.F_TextError_init.ok sc_TextError_init (spInit_len rfl) fun cdv A outer s H vs Q E hr h => ⟨_, pss_cons (ps_ost (pe_var (i := 0) rfl (Or.inl rfl) (by decide) (by decide)) (pe_var (i := 1) rfl (Or.inl rfl) (by decide) (by decide))) (pss_one (ps_ost (pe_var (i := 0) rfl (Or.inl rfl) (by decide) (by decide)) (pe_var (i := 2) rfl (Or.inl rfl) (by decide) (by decide)))), ?_⟩
  exact init2 T.o_TextError T.n_TextError_line T.n_TextError_token h

theorem ok_token_begin (T : Txt K mg cs) : FnOk P w K mg base CX0 1 T.f_token_begin T.d_token_begin ["line", "place", "found"] (spOf K (S_token_begin cs)) := by
  refine fn_ok T.F_token_begin sc_token_begin (ar_token_begin cs) fun cdv A outer s H E Z hr => ⟨r_token_begin cs, ?_, (red_token_begin cs)⟩
  exact (qss_cons (qs_set (i := 3) sc_token_begin.nd (qe_ix (qe_var 0) (qe_var 1)))
      (qss_cons (qs_if (qw_or (qt_not (qt_truthR (qe_var 2))) (qw_or1 (qt_cmp (op_eqA hr.units) od_eqA (qe_ixM (qe_var 2) (qe_neg qe_int)) qe_str))).qt (qss_one (qs_ret (qe_if (qt_cmp (op_eqA hr.units) od_eqA (qe_var 3) qe_str) (qe_neg qe_int) (qe_var 1)))) qss_nil)
      (qss_cons (qs_if (qt_cmp (op_eqA hr.units) od_eqA (qe_var 3) qe_str) (qss_one (qs_ret (qe_var 1))) qss_nil)
      (qss_cons (qs_if (qw_and (qt_cmp (op_eqA hr.units) od_eqA (qe_var 3) qe_str) (qw_and (qt_cmp op_lt od_lt (qe_add (qe_var 1) qe_int) (qe_len (by rfl) T.z_len (qa_cons (qe_var 0) qa_nil))) (qw_and1 (qt_cmp op_ninA od_inA (qe_ix (qe_var 0) (qe_add (qe_var 1) qe_int)) qe_str)))).qt (qss_one (qs_ret (qe_add (qe_var 1) qe_int))) qss_nil)
      (qss_one (qs_ret (qe_neg qe_int)))))))

theorem ok_token_end (T : Txt K mg cs) : FnOk P w K mg base CX0 1 T.f_token_end T.d_token_end ["line", "begin"] (spOf K (S_token_end cs)) := by
  refine fn_ok T.F_token_end sc_token_end (ar_token_end cs) fun cdv A outer s H E Z hr => ⟨r_token_end cs, ?_, (red_token_end cs)⟩
  exact (qss_cons (qs_set (i := 2) sc_token_end.nd (qe_add (qe_var 1) qe_int))
      (qss_cons (qs_if (qt_cmp op_inA od_inA (qe_ix (qe_var 0) (qe_var 1)) qe_str) (qss_one (qs_ret (qe_var 2))) qss_nil)
      (qss_cons (qs_while (js := []) PassesOwn.never (qw_and (qt_cmp op_lt od_lt (qe_var 2) (qe_len (by rfl) T.z_len (qa_cons (qe_var 0) qa_nil))) (qw_and1 (qt_cmp op_ninA od_inA (qe_ix (qe_var 0) (qe_var 2)) qe_str))).qt (qss_one (qs_inc (i := 2) sc_token_end.nd qe_int)))
      (qss_one (qs_ret (qe_var 2))))))

theorem ok_tokens_of (T : Txt K mg cs) : FnOk P w K mg base (L2.CX P w) 3 T.f_tokens_of T.d_tokens_of ["line", "number"] (spOf K (S_tokens_of cs)) := by
  refine fn_okX T.F_tokens_of sc_tokens_of (ar_tokens_of cs) fun cdv A outer s H E Z Ψ hr tk po xo => ⟨r_tokens_of cs Ψ, ?_, fun ds M Φ => (red_tokens_of cs) ds M Φ Ψ⟩
  exact (qss_cons (qs_setM (i := 2) sc_tokens_of.nd (ql_lst qa_nil))
      (qss_cons (qs_set (i := 3) sc_tokens_of.nd qe_int)
      (qss_cons (qs_while (js := [4]) po (qt_cmp op_lt od_lt (qe_var 3) (qe_len (by rfl) T.z_len (qa_cons (qe_var 0) qa_nil))) (qss_cons (qs_set (i := 4) sc_tokens_of.nd (qe_call (ok_token_begin T) (hr.mono (by first | decide | omega | exact Nat.le_refl _ | exact Nat.le_trans (by decide) (Nat.le_add_right _ _))) (by rfl) T.m_token_begin T.F_token_begin.kp T.b_token_begin (qa_cons (qe_var 0) (qa_cons (qe_var 3) (qa_cons (qe_var 2) qa_nil)))))
    (qss_cons (qs_if (qt_cmp op_lt od_lt (qe_var 4) qe_int) (qss_one (qs_raise (names := ["line", "token"]) (by rfl) tk xo T.o_TextError T.ii_TextError T.ti_TextError_init (okx_TextError T) (hr.mono (by first | decide | omega | exact Nat.le_refl _ | exact Nat.le_trans (by decide) (Nat.le_add_right _ _))) T.b_TextError_init (by rfl) T.m_TextError (qa_cons (qe_var 1) (qa_cons (qe_add (qe_lenM (by rfl) T.z_len (qe_var 2)) qe_int) qa_nil)))) qss_nil)
    (qss_cons (qs_set (i := 3) sc_tokens_of.nd (qe_call (ok_token_end T) (hr.mono (by first | decide | omega | exact Nat.le_refl _ | exact Nat.le_trans (by decide) (Nat.le_add_right _ _))) (by rfl) T.m_token_end T.F_token_end.kp T.b_token_end (qa_cons (qe_var 0) (qa_cons (qe_var 4) qa_nil))))
    (qss_one (qs_appM (qe_var 2) (qe_sl (qe_var 0) (qo_some (qe_var 4)) (qo_some (qe_var 3)))))))))
      (qss_one (qs_ret (qe_var 2))))))

theorem ok_is_digits (T : Txt K mg cs) : FnOk P w K mg base CX0 1 T.f_is_digits T.d_is_digits ["token"] (spOf K (S_is_digits cs)) := by
  refine fn_ok T.F_is_digits sc_is_digits (ar_is_digits cs) fun cdv A outer s H E Z hr => ⟨r_is_digits cs, ?_, (red_is_digits cs)⟩
  exact (qss_one (qs_ret (qe_and (qe_m0 PySem.F.slot_str_isascii PySem.F.type_str_isascii mt_isascii (qe_var 0)) (qe_one (qe_m0 PySem.F.slot_str_isdigit PySem.F.type_str_isdigit mt_isdigit (qe_var 0))))))

theorem ok_whole_in (T : Txt K mg cs) : FnOk P w K mg base CX0 2 T.f_whole_in T.d_whole_in ["token", "most"] (spOf K (S_whole_in cs)) := by
  refine fn_ok T.F_whole_in sc_whole_in (ar_whole_in cs) fun cdv A outer s H E Z hr => ⟨r_whole_in cs, ?_, (red_whole_in cs)⟩
  exact (qss_cons (qs_if (qw_or (qt_not (qt_truth (qe_call (ok_is_digits T) (hr.mono (by first | decide | omega | exact Nat.le_refl _ | exact Nat.le_trans (by decide) (Nat.le_add_right _ _))) (by rfl) T.m_is_digits T.F_is_digits.kp T.b_is_digits (qa_cons (qe_var 0) qa_nil)))) (qw_or1 (qt_cmp op_gt od_gt (qe_len (by rfl) T.z_len (qa_cons (qe_var 0) qa_nil)) (qe_var 1)))).qt (qss_one (qs_ret (qe_neg qe_int))) qss_nil)
      (qss_cons (qs_if (qw_and (qt_cmp (op_eqA hr.units) od_eqA (qe_ix (qe_var 0) qe_int) qe_str) (qw_and1 (qt_cmp (op_neA hr.units) od_neA (qe_var 0) qe_str))).qt (qss_one (qs_ret (qe_neg qe_int))) qss_nil)
      (qss_one (qs_ret (qe_intA (by rfl) T.z_int (qa_cons (qe_var 0) qa_nil))))))

theorem ok_number_in (T : Txt K mg cs) : FnOk P w K mg base CX0 3 T.f_number_in T.d_number_in ["token"] (spOf K (S_number_in cs)) := by
  refine fn_ok T.F_number_in sc_number_in (ar_number_in cs) fun cdv A outer s H E Z hr => ⟨r_number_in cs, ?_, (red_number_in cs)⟩
  exact (qss_one (qs_ret (qe_call (ok_whole_in T) (hr.mono (by first | decide | omega | exact Nat.le_refl _ | exact Nat.le_trans (by decide) (Nat.le_add_right _ _))) (by rfl) T.m_whole_in T.F_whole_in.kp T.b_whole_in (qa_cons (qe_var 0) (qa_cons qe_int qa_nil)))))

theorem ok_is_name (T : Txt K mg cs) : FnOk P w K mg base CX0 1 T.f_is_name T.d_is_name ["token"] (spOf K (S_is_name cs)) := by
  refine fn_ok T.F_is_name sc_is_name (ar_is_name cs) fun cdv A outer s H E Z hr => ⟨r_is_name cs, ?_, (red_is_name cs)⟩
  exact (qss_one (qs_ret (qe_and (qe_cmp op_le od_le (qe_len (by rfl) T.z_len (qa_cons (qe_var 0) qa_nil)) qe_int) (qe_and (qe_m0 PySem.F.slot_str_isascii PySem.F.type_str_isascii mt_isascii (qe_var 0)) (qe_and (qe_m0 PySem.F.slot_str_isalpha PySem.F.type_str_isalpha mt_isalpha (qe_var 0)) (qe_one (qe_m0 PySem.F.slot_str_islower PySem.F.type_str_islower mt_islower (qe_var 0))))))))

theorem ok_Line_init (T : Txt K mg cs) : FnOk P w K mg base (L2.CX P w) 4 T.f_Line_init T.d_Line_init ["self", "text", "number"] (spOf K (S_Line_init cs)) := by
  refine fn_okX T.F_Line_init sc_Line_init (ar_Line_init cs) fun cdv A outer s H E Z Ψ hr tk po xo => ⟨r_Line_init cs Ψ, ?_, fun ds M Φ => (red_Line_init cs) ds M Φ Ψ⟩
  exact (qss_cons (qs_fld T.cl_Line T.n_Line_tokens (qe_var 0) (qe_callX (ok_tokens_of T) (hr.mono (by first | decide | omega | exact Nat.le_refl _ | exact Nat.le_trans (by decide) (Nat.le_add_right _ _))) tk xo (by rfl) T.m_tokens_of T.F_tokens_of.kp T.b_tokens_of (qa_cons (qe_var 1) (qa_cons (qe_var 2) qa_nil))))
      (qss_cons (qs_fld T.cl_Line T.n_Line_number (qe_var 0) (qe_var 2))
      (qss_one (qs_fld T.cl_Line T.n_Line_place (qe_var 0) qe_int))))

theorem ok_Line_here (T : Txt K mg cs) : FnOk P w K mg base CX0 1 T.f_Line_here T.d_Line_here ["self"] (spOf K (S_Line_here cs)) := by
  refine fn_ok T.F_Line_here sc_Line_here (ar_Line_here cs) fun cdv A outer s H E Z hr => ⟨r_Line_here cs, ?_, (red_Line_here cs)⟩
  exact (qss_cons (qs_if (qt_cmp op_lt od_lt (qe_fld T.cl_Line T.n_Line_place (qe_var 0)) (qe_lenR (by rfl) T.z_len (qe_fld T.cl_Line T.n_Line_tokens (qe_var 0)))) (qss_one (qs_ret (qe_ixR (qe_fld T.cl_Line T.n_Line_tokens (qe_var 0)) (qe_fld T.cl_Line T.n_Line_place (qe_var 0))))) qss_nil)
      (qss_one (qs_ret qe_str)))

theorem ok_Line_need (T : Txt K mg cs) : FnOk P w K mg base (L2.CX P w) 3 T.f_Line_need T.d_Line_need ["self", "good"] (spOf K (S_Line_need cs)) := by
  refine fn_okX T.F_Line_need sc_Line_need (ar_Line_need cs) fun cdv A outer s H E Z Ψ hr tk po xo => ⟨r_Line_need cs Ψ, ?_, fun ds M Φ => (red_Line_need cs) ds M Φ Ψ⟩
  exact (qss_one (qs_if (qt_not (qt_truth (qe_var 1))) (qss_one (qs_raise (names := ["line", "token"]) (by rfl) tk xo T.o_TextError T.ii_TextError T.ti_TextError_init (okx_TextError T) (hr.mono (by first | decide | omega | exact Nat.le_refl _ | exact Nat.le_trans (by decide) (Nat.le_add_right _ _))) T.b_TextError_init (by rfl) T.m_TextError (qa_cons (qe_fld T.cl_Line T.n_Line_number (qe_var 0)) (qa_cons (qe_add (qe_fld T.cl_Line T.n_Line_place (qe_var 0)) qe_int) qa_nil)))) qss_nil))

theorem ok_Line_take (T : Txt K mg cs) : FnOk P w K mg base (L2.CX P w) 4 T.f_Line_take T.d_Line_take ["self", "good"] (spOf K (S_Line_take cs)) := by
  refine fn_okX T.F_Line_take sc_Line_take (ar_Line_take cs) fun cdv A outer s H E Z Ψ hr tk po xo => ⟨r_Line_take cs Ψ, ?_, fun ds M Φ => (red_Line_take cs) ds M Φ Ψ⟩
  exact (qss_cons (qs_set (i := 2) sc_Line_take.nd (qe_meth0 T.cl_Line T.mm_Line_here (ok_Line_here T) (hr.mono (by first | decide | omega | exact Nat.le_refl _ | exact Nat.le_trans (by decide) (Nat.le_add_right _ _))) T.b_Line_here (qe_var 0)))
      (qss_cons (qs_expr (qe_methX tk xo T.cl_Line T.mm_Line_need (ok_Line_need T) (hr.mono (by first | decide | omega | exact Nat.le_refl _ | exact Nat.le_trans (by decide) (Nat.le_add_right _ _))) T.b_Line_need (qe_var 0) (qa_cons (qe_var 1) qa_nil)))
      (qss_cons (qs_augF T.cl_Line T.n_Line_place inop_add od_plus (qe_var 0) qe_int)
      (qss_one (qs_ret (qe_var 2))))))

theorem ok_Line_mark (T : Txt K mg cs) : FnOk P w K mg base (L2.CX P w) 5 T.f_Line_mark T.d_Line_mark ["self", "sign"] (spOf K (S_Line_mark cs)) := by
  refine fn_okX T.F_Line_mark sc_Line_mark (ar_Line_mark cs) fun cdv A outer s H E Z Ψ hr tk po xo => ⟨r_Line_mark cs Ψ, ?_, fun ds M Φ => (red_Line_mark cs) ds M Φ Ψ⟩
  exact (qss_one (qs_expr (qe_methX tk xo T.cl_Line T.mm_Line_take (ok_Line_take T) (hr.mono (by first | decide | omega | exact Nat.le_refl _ | exact Nat.le_trans (by decide) (Nat.le_add_right _ _))) T.b_Line_take (qe_var 0) (qa_cons (qe_cmp (op_eqA hr.units) od_eqA (qe_meth0 T.cl_Line T.mm_Line_here (ok_Line_here T) (hr.mono (by first | decide | omega | exact Nat.le_refl _ | exact Nat.le_trans (by decide) (Nat.le_add_right _ _))) T.b_Line_here (qe_var 0)) (qe_var 1)) qa_nil))))

theorem ok_Line_whole (T : Txt K mg cs) : FnOk P w K mg base (L2.CX P w) 5 T.f_Line_whole T.d_Line_whole ["self", "most"] (spOf K (S_Line_whole cs)) := by
  refine fn_okX T.F_Line_whole sc_Line_whole (ar_Line_whole cs) fun cdv A outer s H E Z Ψ hr tk po xo => ⟨r_Line_whole cs Ψ, ?_, fun ds M Φ => (red_Line_whole cs) ds M Φ Ψ⟩
  exact (qss_cons (qs_set (i := 2) sc_Line_whole.nd (qe_call (ok_whole_in T) (hr.mono (by first | decide | omega | exact Nat.le_refl _ | exact Nat.le_trans (by decide) (Nat.le_add_right _ _))) (by rfl) T.m_whole_in T.F_whole_in.kp T.b_whole_in (qa_cons (qe_meth0 T.cl_Line T.mm_Line_here (ok_Line_here T) (hr.mono (by first | decide | omega | exact Nat.le_refl _ | exact Nat.le_trans (by decide) (Nat.le_add_right _ _))) T.b_Line_here (qe_var 0)) (qa_cons (qe_var 1) qa_nil))))
      (qss_cons (qs_expr (qe_methX tk xo T.cl_Line T.mm_Line_take (ok_Line_take T) (hr.mono (by first | decide | omega | exact Nat.le_refl _ | exact Nat.le_trans (by decide) (Nat.le_add_right _ _))) T.b_Line_take (qe_var 0) (qa_cons (qe_cmp op_ge od_ge (qe_var 2) qe_int) qa_nil)))
      (qss_one (qs_ret (qe_var 2)))))

theorem ok_Line_below (T : Txt K mg cs) : FnOk P w K mg base CX0 2 T.f_Line_below T.d_Line_below ["self", "most", "many"] (spOf K (S_Line_below cs)) := by
  refine fn_ok T.F_Line_below sc_Line_below (ar_Line_below cs) fun cdv A outer s H E Z hr => ⟨r_Line_below cs, ?_, (red_Line_below cs)⟩
  exact (qss_one (qs_expr (qe_call (ok_wall T) (hr.mono (by first | decide | omega | exact Nat.le_refl _ | exact Nat.le_trans (by decide) (Nat.le_add_right _ _))) (by rfl) T.m_wall T.F_wall.kp T.b_wall (qa_cons qe_int qa_nil))))

theorem ok_Line_name (T : Txt K mg cs) : FnOk P w K mg base (L2.CX P w) 5 T.f_Line_name T.d_Line_name ["self"] (spOf K (S_Line_name cs)) := by
  refine fn_okX T.F_Line_name sc_Line_name (ar_Line_name cs) fun cdv A outer s H E Z Ψ hr tk po xo => ⟨r_Line_name cs Ψ, ?_, fun ds M Φ => (red_Line_name cs) ds M Φ Ψ⟩
  exact (qss_one (qs_ret (qe_methX tk xo T.cl_Line T.mm_Line_take (ok_Line_take T) (hr.mono (by first | decide | omega | exact Nat.le_refl _ | exact Nat.le_trans (by decide) (Nat.le_add_right _ _))) T.b_Line_take (qe_var 0) (qa_cons (qe_call (ok_is_name T) (hr.mono (by first | decide | omega | exact Nat.le_refl _ | exact Nat.le_trans (by decide) (Nat.le_add_right _ _))) (by rfl) T.m_is_name T.F_is_name.kp T.b_is_name (qa_cons (qe_meth0 T.cl_Line T.mm_Line_here (ok_Line_here T) (hr.mono (by first | decide | omega | exact Nat.le_refl _ | exact Nat.le_trans (by decide) (Nat.le_add_right _ _))) T.b_Line_here (qe_var 0)) qa_nil)) qa_nil))))

theorem ok_Line_finish (T : Txt K mg cs) : FnOk P w K mg base (L2.CX P w) 4 T.f_Line_finish T.d_Line_finish ["self"] (spOf K (S_Line_finish cs)) := by
  refine fn_okX T.F_Line_finish sc_Line_finish (ar_Line_finish cs) fun cdv A outer s H E Z Ψ hr tk po xo => ⟨r_Line_finish cs Ψ, ?_, fun ds M Φ => (red_Line_finish cs) ds M Φ Ψ⟩
  exact (qss_one (qs_expr (qe_methX tk xo T.cl_Line T.mm_Line_need (ok_Line_need T) (hr.mono (by first | decide | omega | exact Nat.le_refl _ | exact Nat.le_trans (by decide) (Nat.le_add_right _ _))) T.b_Line_need (qe_var 0) (qa_cons (qe_cmp (op_eqA hr.units) od_eqA (qe_fld T.cl_Line T.n_Line_place (qe_var 0)) (qe_lenR (by rfl) T.z_len (qe_fld T.cl_Line T.n_Line_tokens (qe_var 0)))) qa_nil))))

theorem ok_value_text (T : Txt K mg cs) : ∀ n, FnOk P w K mg base CX0 (0 + n) T.f_value_text T.d_value_text ["value"] (spOf K (S_value_text cs n))
  | 0 => fn_never (nv_value_text cs)
  | n + 1 => by
    have ih := ok_value_text T n
    refine fn_ok T.F_value_text sc_value_text (ar_value_text cs (n + 1)) fun cdv A outer s H E Z hr => ⟨r_value_text cs n, ?_, (red_value_text cs n)⟩
    exact (qss_cons (qs_if (qt_truth (qe_isi (qe_var 0) (by rfl) T.z_isinstance (by rfl) T.z_tuple (by decide +kernel))) (qss_one (qs_ret (qe_join (qj_cons qe_str (qj_cons (qe_fmt (qe_call ih hr (by rfl) T.m_value_text T.F_value_text.kp T.b_value_text (qa_cons (qe_ix (qe_var 0) qe_int) qa_nil))) (qj_cons qe_str (qj_cons (qe_fmt (qe_call ih hr (by rfl) T.m_value_text T.F_value_text.kp T.b_value_text (qa_cons (qe_ix (qe_var 0) qe_int) qa_nil))) (qj_cons qe_str qj_nil)))))))) qss_nil)
      (qss_one (qs_ret (qe_strA (by rfl) T.z_str (qa_cons (qe_var 0) qa_nil)))))

theorem ok_value_in (T : Txt K mg cs) : ∀ n, FnOk P w K mg base (L2.CX P w) (5 + n) T.f_value_in T.d_value_in ["line", "depth"] (spOf K (S_value_in cs n))
  | 0 => fn_never (nv_value_in cs)
  | n + 1 => by
    have ih := ok_value_in T n
    refine fn_okX T.F_value_in sc_value_in (ar_value_in cs (n + 1)) fun cdv A outer s H E Z Ψ hr tk po xo => ⟨r_value_in cs n Ψ, ?_, fun ds M Φ => (red_value_in cs n) ds M Φ Ψ⟩
    exact (qss_cons (qs_if (qw_and (qt_cmp op_gt od_gt (qe_var 1) qe_int) (qw_and1 (qt_cmp (op_eqA hr.units) od_eqA (qe_meth0 T.cl_Line T.mm_Line_here (ok_Line_here T) (hr.mono (by first | decide | omega | exact Nat.le_refl _ | exact Nat.le_trans (by decide) (Nat.le_add_right _ _))) T.b_Line_here (qe_var 0)) qe_str))).qt (qss_cons (qs_expr (qe_methX tk xo T.cl_Line T.mm_Line_mark (ok_Line_mark T) (hr.mono (by first | decide | omega | exact Nat.le_refl _ | exact Nat.le_trans (by decide) (Nat.le_add_right _ _))) T.b_Line_mark (qe_var 0) (qa_cons qe_str qa_nil)))
    (qss_cons (qs_set (i := 2) sc_value_in.nd (qe_callX ih hr tk xo (by rfl) T.m_value_in T.F_value_in.kp T.b_value_in (qa_cons (qe_var 0) (qa_cons (qe_sub (qe_var 1) qe_int) qa_nil))))
    (qss_cons (qs_set (i := 3) sc_value_in.nd (qe_callX ih hr tk xo (by rfl) T.m_value_in T.F_value_in.kp T.b_value_in (qa_cons (qe_var 0) (qa_cons (qe_sub (qe_var 1) qe_int) qa_nil))))
    (qss_cons (qs_expr (qe_methX tk xo T.cl_Line T.mm_Line_mark (ok_Line_mark T) (hr.mono (by first | decide | omega | exact Nat.le_refl _ | exact Nat.le_trans (by decide) (Nat.le_add_right _ _))) T.b_Line_mark (qe_var 0) (qa_cons qe_str qa_nil)))
    (qss_one (qs_ret (qe_tup (qa_cons (qe_var 2) (qa_cons (qe_var 3) qa_nil))))))))) qss_nil)
      (qss_one (qs_ret (qe_methX tk xo T.cl_Line T.mm_Line_whole (ok_Line_whole T) (hr.mono (by first | decide | omega | exact Nat.le_refl _ | exact Nat.le_trans (by decide) (Nat.le_add_right _ _))) T.b_Line_whole (qe_var 0) (qa_cons qe_int qa_nil)))))

theorem ok_last_value_in (T : Txt K mg cs) : FnOk P w K mg base (L2.CX P w) 12 T.f_last_value_in T.d_last_value_in ["line"] (spOf K (S_last_value_in cs)) := by
  refine fn_okX T.F_last_value_in sc_last_value_in (ar_last_value_in cs) fun cdv A outer s H E Z Ψ hr tk po xo => ⟨r_last_value_in cs Ψ, ?_, fun ds M Φ => (red_last_value_in cs) ds M Φ Ψ⟩
  exact (qss_cons (qs_set (i := 1) sc_last_value_in.nd (qe_callX (ok_value_in T 6) (hr.mono (by first | decide | omega | exact Nat.le_refl _ | exact Nat.le_trans (by decide) (Nat.le_add_right _ _))) tk xo (by rfl) T.m_value_in T.F_value_in.kp T.b_value_in (qa_cons (qe_var 0) (qa_cons (qe_globI (by rfl) T.g_DEEPEST) qa_nil))))
      (qss_cons (qs_expr (qe_methX0 tk xo T.cl_Line T.mm_Line_finish (ok_Line_finish T) (hr.mono (by first | decide | omega | exact Nat.le_refl _ | exact Nat.le_trans (by decide) (Nat.le_add_right _ _))) T.b_Line_finish (qe_var 0)))
      (qss_one (qs_ret (qe_var 1)))))

theorem ok_read_value (T : Txt K mg cs) : FnOk P w K mg base (L2.CX P w) 13 T.f_read_value T.d_read_value ["text"] (spOf K (S_read_value cs)) := by
  refine fn_okX T.F_read_value sc_read_value (ar_read_value cs) fun cdv A outer s H E Z Ψ hr tk po xo => ⟨r_read_value cs Ψ, ?_, fun ds M Φ => (red_read_value cs) ds M Φ Ψ⟩
  exact (qss_one (qs_ret (qe_callX (ok_last_value_in T) (hr.mono (by first | decide | omega | exact Nat.le_refl _ | exact Nat.le_trans (by decide) (Nat.le_add_right _ _))) tk xo (by rfl) T.m_last_value_in T.F_last_value_in.kp T.b_last_value_in (qa_cons (qe_makeX tk xo T.mk_Line (ok_Line_init T) (hr.mono (by first | decide | omega | exact Nat.le_refl _ | exact Nat.le_trans (by decide) (Nat.le_add_right _ _))) (by rfl) T.m_Line T.b_Line_init (qa_cons (qe_var 0) (qa_cons qe_int qa_nil))) qa_nil))))

theorem ok_is_value_text (T : Txt K mg cs) : FnOk P w K mg base CX0 14 T.f_is_value_text T.d_is_value_text ["text"] (spOf K (S_is_value_text cs)) := by
  refine fn_ok T.F_is_value_text sc_is_value_text (ar_is_value_text cs) fun cdv A outer s H E Z hr => ⟨r_is_value_text cs, ?_, (red_is_value_text cs)⟩
  exact (qss_cons (qs_try_only rfl rfl ⟨by rfl, by decide, .inl T.m_TextError⟩ (T.cat_TextError) takes0 xok_none (fun W1 pn1 xe1 Z Ψ1 tk1 po1 xo1 => (qss_one (qs_expr (qe_callX (ok_read_value T) (hr.mono (by first | decide | omega | exact Nat.le_refl _ | exact Nat.le_trans (by decide) (Nat.le_add_right _ _))) tk1 xo1 (by rfl) T.m_read_value T.F_read_value.kp T.b_read_value (qa_cons (qe_var 0) qa_nil))))) (fun a oe C d fs pn Z hC hz hf xr => (qss_one (qs_ret qe_bl))))
      (qss_one (qs_ret qe_bl)))

theorem ok_law_row (T : Txt K mg cs) : FnOk P w K mg base CX0 1 T.f_law_row T.d_law_row ["_law_script", "_law_k", "_law_count"] (spOf K S_law_row) := by
  refine fn_ok T.F_law_row sc_law_row (ar_law_row) fun cdv A outer s H E Z hr => ⟨r_law_row, ?_, (red_law_row)⟩
  exact (qss_cons (qs_set (i := 3) sc_law_row.nd qe_int)
      (qss_cons (qs_if (qt_cmp op_lt od_lt (qe_var 1) (qe_len (by rfl) T.z_len (qa_cons (qe_var 0) qa_nil))) (qss_one (qs_set (i := 3) sc_law_row.nd (qe_int1 (by rfl) T.z_int (qa_cons (qe_ix (qe_var 0) (qe_var 1)) qa_nil)))) qss_nil)
      (qss_cons (qs_setO (i := 4) sc_law_row.nd (ql_lst qa_nil))
      (qss_cons (qs_if (qt_cmp op_ge od_ge (qe_var 3) (qe_pow qe_int qe_int)) (qss_cons (qs_forR (j := 5) (js := [5]) PassesOwn.never (by rfl) sc_law_row.nd (by rfl) T.z_range (qe_var 2) (qss_cons (qs_app (j := 4) (qe_mod (qe_int1 (by rfl) T.z_int (qa_cons (qe_var 3) qa_nil)) qe_int))
    (qss_one (qs_set (i := 3) sc_law_row.nd (qe_fdivA (qe_var 3) qe_int)))))
    (qss_one (qs_ret (qe_var 4)))) qss_nil)
      (qss_cons (qs_set (i := 6) sc_law_row.nd (qe_mod (qe_int1 (by rfl) T.z_int (qa_cons (qe_add (qe_add (qe_mulA (qe_var 3) qe_int) (qe_mulA (qe_var 1) qe_int)) qe_int) qa_nil)) qe_int))
      (qss_cons (qs_forR (j := 5) (js := [5]) PassesOwn.never (by rfl) sc_law_row.nd (by rfl) T.z_range (qe_var 2) (qss_cons (qs_set (i := 6) sc_law_row.nd (qe_mod (qe_int1 (by rfl) T.z_int (qa_cons (qe_add (qe_add (qe_mulA (qe_var 6) qe_int) (qe_mulA (qe_var 5) qe_int)) qe_int) qa_nil)) qe_int))
    (qss_one (qs_app (j := 4) (qe_mod (qe_fdivA (qe_var 6) qe_int) qe_int)))))
      (qss_one (qs_ret (qe_var 4)))))))))

theorem ok_law_is_integer (T : Txt K mg cs) : FnOk P w K mg base CX0 1 T.f_law_is_integer T.d_law_is_integer ["_law_actual"] (spOf K (S_law_is_integer cs)) := by
  refine fn_ok T.F_law_is_integer sc_law_is_integer (ar_law_is_integer cs) fun cdv A outer s H E Z hr => ⟨r_law_is_integer cs, ?_, (red_law_is_integer cs)⟩
  exact (qss_one (qs_ret (qe_and (qe_isi (qe_var 0) (by rfl) T.z_isinstance (by rfl) T.z_int (by decide +kernel)) (qe_one (qe_not (qe_isi (qe_var 0) (by rfl) T.z_isinstance (by rfl) T.z_bool (by decide +kernel)))))))

theorem ok_law_scan (T : Txt K mg cs) : FnOk P w K mg base CX0 1 T.f_law_scan T.d_law_scan ["_law_line_here"] (spOf K (S_law_scan cs)) := by
  refine fn_ok T.F_law_scan sc_law_scan (ar_law_scan cs) fun cdv A outer s H E Z hr => ⟨r_law_scan cs, ?_, (red_law_scan cs)⟩
  exact (qss_cons (qs_setM (i := 1) sc_law_scan.nd (ql_lst qa_nil))
      (qss_cons (qs_set (i := 2) sc_law_scan.nd qe_int)
      (qss_cons (qs_forR (j := 3) (js := [3, 4]) PassesOwn.never (by rfl) sc_law_scan.nd (by rfl) T.z_range (qe_add (qe_len (by rfl) T.z_len (qa_cons (qe_var 0) qa_nil)) qe_int) (qss_cons (qs_if (qt_cmp (op_eqA hr.units) od_eqA (qe_var 2) (qe_len (by rfl) T.z_len (qa_cons (qe_var 0) qa_nil))) (qss_one (qs_ret (qe_tup (qa_cons (qe_var 1) (qa_cons qe_int qa_nil))))) qss_nil)
    (qss_cons (qs_if (qt_cmp (op_eqA hr.units) od_eqA (qe_ix (qe_var 0) (qe_var 2)) qe_str) (qss_one (qs_ret (qe_tup (qa_cons (qe_var 1) (qa_cons (qe_add (qe_lenM (by rfl) T.z_len (qe_var 1)) qe_int) qa_nil))))) qss_nil)
    (qss_cons (qs_set (i := 4) sc_law_scan.nd (qe_add (qe_var 2) qe_int))
    (qss_cons (qs_if (qt_cmp op_ninA od_inA (qe_ix (qe_var 0) (qe_var 2)) qe_str) (qss_one (qs_forS (j := 5) (js := [5]) PassesOwn.never (by rfl) sc_law_scan.nd (qe_sl (qe_var 0) (qo_some (qe_add (qe_var 2) qe_int)) qo_none) (qss_cons (qs_if (qt_cmp op_inA od_inA (qe_var 5) qe_str) (qss_one qs_brk) qss_nil)
    (qss_one (qs_set (i := 4) sc_law_scan.nd (qe_add (qe_var 4) qe_int)))))) qss_nil)
    (qss_cons (qs_appM (qe_var 1) (qe_sl (qe_var 0) (qo_some (qe_var 2)) (qo_some (qe_var 4))))
    (qss_cons (qs_set (i := 2) sc_law_scan.nd (qe_var 4))
    (qss_cons (qs_if (qw_or (qt_cmp (op_eqA hr.units) od_eqA (qe_ixM (qe_var 1) (qe_neg qe_int)) qe_str) (qw_or (qt_cmp (op_eqA hr.units) od_eqA (qe_var 2) (qe_len (by rfl) T.z_len (qa_cons (qe_var 0) qa_nil))) (qw_or1 (qt_cmp (op_eqA hr.units) od_eqA (qe_ix (qe_var 0) (qe_var 2)) qe_str)))).qt (qss_one qs_ct) qss_nil)
    (qss_cons (qs_if (qw_or (qt_cmp (op_neA hr.units) od_neA (qe_ix (qe_var 0) (qe_var 2)) qe_str) (qw_or (qt_cmp (op_eqA hr.units) od_eqA (qe_add (qe_var 2) qe_int) (qe_len (by rfl) T.z_len (qa_cons (qe_var 0) qa_nil))) (qw_or1 (qt_cmp op_inA od_inA (qe_ix (qe_var 0) (qe_add (qe_var 2) qe_int)) qe_str)))).qt (qss_one (qs_ret (qe_tup (qa_cons (qe_var 1) (qa_cons (qe_add (qe_lenM (by rfl) T.z_len (qe_var 1)) qe_int) qa_nil))))) qss_nil)
    (qss_one (qs_set (i := 2) sc_law_scan.nd (qe_add (qe_var 2) qe_int))))))))))))
      (qss_one (qs_ret (qe_tup (qa_cons (qe_var 1) (qa_cons qe_int qa_nil))))))))

theorem ok_law_word (T : Txt K mg cs) : FnOk P w K mg base CX0 1 T.f_law_word T.d_law_word ["_law_row_here"] (spOf K (S_law_word cs)) := by
  refine fn_ok T.F_law_word sc_law_word (ar_law_word cs) fun cdv A outer s H E Z hr => ⟨r_law_word cs, ?_, (red_law_word cs)⟩
  exact (qss_cons (qs_set (i := 1) sc_law_word.nd (qe_lst (qa_cons qe_str (qa_cons qe_str (qa_cons qe_str (qa_cons qe_str (qa_cons qe_str (qa_cons qe_str (qa_cons qe_str (qa_cons qe_str (qa_cons qe_str (qa_cons qe_str (qa_cons qe_str (qa_cons qe_str (qa_cons qe_str (qa_cons qe_str (qa_cons qe_str (qa_cons qe_str (qa_cons qe_str (qa_cons qe_str (qa_cons qe_str (qa_cons qe_str qa_nil))))))))))))))))))))))
      (qss_one (qs_ret (qe_ix (qe_var 1) (qe_mod (qe_int1 (by rfl) T.z_int (qa_cons (qe_ix (qe_var 0) qe_int) qa_nil)) qe_int)))))

theorem ok_law_line (T : Txt K mg cs) : FnOk P w K mg base CX0 2 T.f_law_line T.d_law_line ["_law_script"] (spOf K (S_law_line cs)) := by
  refine fn_ok T.F_law_line sc_law_line (ar_law_line cs) fun cdv A outer s H E Z hr => ⟨r_law_line cs, ?_, (red_law_line cs)⟩
  exact (qss_cons (qs_set (i := 1) sc_law_line.nd qe_str)
      (qss_cons (qs_forR (j := 2) (js := [2, 3]) PassesOwn.never (by rfl) sc_law_line.nd (by rfl) T.z_range (qe_mod (qe_ix (qe_call (ok_law_row T) (hr.mono (by first | decide | omega | exact Nat.le_refl _ | exact Nat.le_trans (by decide) (Nat.le_add_right _ _))) (by rfl) T.m_law_row T.F_law_row.kp T.b_law_row (qa_cons (qe_var 0) (qa_cons qe_int (qa_cons qe_int qa_nil)))) qe_int) qe_int) (qss_cons (qs_set (i := 3) sc_law_line.nd (qe_call (ok_law_word T) (hr.mono (by first | decide | omega | exact Nat.le_refl _ | exact Nat.le_trans (by decide) (Nat.le_add_right _ _))) (by rfl) T.m_law_word T.F_law_word.kp T.b_law_word (qa_cons (qe_call (ok_law_row T) (hr.mono (by first | decide | omega | exact Nat.le_refl _ | exact Nat.le_trans (by decide) (Nat.le_add_right _ _))) (by rfl) T.m_law_row T.F_law_row.kp T.b_law_row (qa_cons (qe_var 0) (qa_cons (qe_add qe_int (qe_var 2)) (qa_cons qe_int qa_nil)))) qa_nil)))
    (qss_cons (qs_if (qw_and (qt_cmp (op_neA hr.units) od_neA (qe_var 1) qe_str) (qw_and (qt_cmp (op_neA hr.units) od_neA (qe_ix (qe_var 1) (qe_neg qe_int)) qe_str) (qw_and1 (qt_cmp (op_neA hr.units) od_neA (qe_var 3) qe_str)))).qt (qss_one (qs_set (i := 1) sc_law_line.nd (qe_add (qe_var 1) qe_str))) qss_nil)
    (qss_one (qs_set (i := 1) sc_law_line.nd (qe_add (qe_var 1) (qe_var 3)))))))
      (qss_cons (qs_set (i := 4) sc_law_line.nd (qe_call (ok_law_row T) (hr.mono (by first | decide | omega | exact Nat.le_refl _ | exact Nat.le_trans (by decide) (Nat.le_add_right _ _))) (by rfl) T.m_law_row T.F_law_row.kp T.b_law_row (qa_cons (qe_var 0) (qa_cons qe_int (qa_cons qe_int qa_nil)))))
      (qss_cons (qs_if (qt_cmp (op_eqA hr.units) od_eqA (qe_mod (qe_ix (qe_var 4) qe_int) qe_int) qe_int) (qss_cons (qs_set (i := 5) sc_law_line.nd (qe_mod (qe_int1 (by rfl) T.z_int (qa_cons (qe_ix (qe_var 4) qe_int) qa_nil)) (qe_add (qe_len (by rfl) T.z_len (qa_cons (qe_var 1) qa_nil)) qe_int)))
    (qss_cons (qs_if (qt_cmp (op_eqA hr.units) od_eqA (qe_mod (qe_ix (qe_var 4) qe_int) qe_int) qe_int) (qss_one (qs_ret (qe_add (qe_sl (qe_var 1) qo_none (qo_some (qe_var 5))) (qe_sl (qe_var 1) (qo_some (qe_add (qe_var 5) qe_int)) qo_none)))) qss_nil)
    (qss_one (qs_ret (qe_add (qe_add (qe_sl (qe_var 1) qo_none (qo_some (qe_var 5))) (qe_ix (qe_lst (qa_cons qe_str (qa_cons qe_str (qa_cons qe_str (qa_cons qe_str qa_nil))))) (qe_mod (qe_int1 (by rfl) T.z_int (qa_cons (qe_ix (qe_var 4) qe_int) qa_nil)) qe_int))) (qe_sl (qe_var 1) (qo_some (qe_var 5)) qo_none)))))) qss_nil)
      (qss_one (qs_ret (qe_var 1)))))))

theorem ok_law_lines (T : Txt K mg cs) : FnOk P w K mg base CX0 4 T.f_law_lines T.d_law_lines ["_law_script"] (spOf K (S_law_lines cs)) := by
  refine fn_ok T.F_law_lines sc_law_lines (ar_law_lines cs) fun cdv A outer s H E Z hr => ⟨r_law_lines cs, ?_, (red_law_lines cs)⟩
  exact (qss_cons (qs_set (i := 1) sc_law_lines.nd (qe_call (ok_law_line T) (hr.mono (by first | decide | omega | exact Nat.le_refl _ | exact Nat.le_trans (by decide) (Nat.le_add_right _ _))) (by rfl) T.m_law_line T.F_law_line.kp T.b_law_line (qa_cons (qe_var 0) qa_nil)))
      (qss_cons (qs_set (i := 2) sc_law_lines.nd (qe_add qe_int (qe_mod (qe_ix (qe_call (ok_law_row T) (hr.mono (by first | decide | omega | exact Nat.le_refl _ | exact Nat.le_trans (by decide) (Nat.le_add_right _ _))) (by rfl) T.m_law_row T.F_law_row.kp T.b_law_row (qa_cons (qe_var 0) (qa_cons qe_int (qa_cons qe_int qa_nil)))) qe_int) qe_int)))
      (qss_cons (qs_unp (is := [3, 4]) rfl (qe_call (ok_law_scan T) (hr.mono (by first | decide | omega | exact Nat.le_refl _ | exact Nat.le_trans (by decide) (Nat.le_add_right _ _))) (by rfl) T.m_law_scan T.F_law_scan.kp T.b_law_scan (qa_cons (qe_var 1) qa_nil)) (pgs_cons (pg_name (i := 3) sc_law_lines.nd rfl (Or.inl rfl)) (pgs_cons (pg_name (i := 4) sc_law_lines.nd rfl (Or.inl rfl)) pgs_nil)))
      (qss_cons (qs_try_as (i := 6) rfl rfl sc_law_lines.nd rfl rfl ⟨by rfl, by decide, .inl T.m_TextError⟩ (T.cat_TextError) takes0 xok_none (fun W1 pn1 xe1 Z Ψ1 tk1 po1 xo1 => (qss_one (qs_set (i := 5) sc_law_lines.nd (qe_callX (ok_tokens_of T) (hr.mono (by first | decide | omega | exact Nat.le_refl _ | exact Nat.le_trans (by decide) (Nat.le_add_right _ _))) tk1 xo1 (by rfl) T.m_tokens_of T.F_tokens_of.kp T.b_tokens_of (qa_cons (qe_var 1) (qa_cons (qe_var 2) qa_nil)))))) (fun a oe C d fs pn Z hC hz hf xr => (by cases cat_one hC; exact (qss_one (qs_ret (qe_and (qe_cmp op_gt od_gt (qe_var 4) qe_int) (qe_and (qe_cmp (op_eqA hr.units) od_eqA (qe_xf T.x_TextError T.n_TextError_line hz hf xr (qe_var 6)) (qe_var 2)) (qe_and (qe_cmp (op_eqA hr.units) od_eqA (qe_xf T.x_TextError T.n_TextError_token hz hf xr (qe_var 6)) (qe_var 4)) (qe_one (qe_isX T.xi_TextError T.ki_TextError_DeedsError hz hf xr (qe_var 6) (by rfl) T.z_isinstance (by rfl) T.m_DeedsError))))))))))
      (qss_one (qs_ret (qe_and (qe_cmp (op_eqA hr.units) od_eqA (qe_var 4) qe_int) (qe_and (qe_isiR (qe_var 5) (by rfl) T.z_isinstance (by rfl) T.z_list (by decide +kernel)) (qe_one (qe_eqR hr.units (qe_var 5) (qe_var 3)))))))))))

theorem ok_law_number (T : Txt K mg cs) : FnOk P w K mg base CX0 1 T.f_law_number T.d_law_number ["_law_token"] (spOf K (S_law_number cs)) := by
  refine fn_ok T.F_law_number sc_law_number (ar_law_number cs) fun cdv A outer s H E Z hr => ⟨r_law_number cs, ?_, (red_law_number cs)⟩
  exact (qss_cons (qs_if (qw_or (qt_cmp (op_eqA hr.units) od_eqA (qe_var 0) qe_str) (qw_or (qt_cmp op_gt od_gt (qe_len (by rfl) T.z_len (qa_cons (qe_var 0) qa_nil)) qe_int) (qw_or1 (qw_and (qt_cmp (op_eqA hr.units) od_eqA (qe_ix (qe_var 0) qe_int) qe_str) (qw_and1 (qt_cmp op_gt od_gt (qe_len (by rfl) T.z_len (qa_cons (qe_var 0) qa_nil)) qe_int))).qt))).qt (qss_one (qs_ret (qe_neg qe_int))) qss_nil)
      (qss_cons (qs_forS (j := 1) (js := [1]) PassesOwn.never (by rfl) sc_law_number.nd (qe_var 0) (qss_one (qs_if (qt_cmp op_ninA od_inA (qe_var 1) qe_str) (qss_one (qs_ret (qe_neg qe_int))) qss_nil)))
      (qss_one (qs_ret (qe_intA (by rfl) T.z_int (qa_cons (qe_var 0) qa_nil))))))

theorem ok_law_words (T : Txt K mg cs) : FnOk P w K mg base CX0 4 T.f_law_words T.d_law_words ["_law_script"] (spOf K (S_law_words cs)) := by
  refine fn_ok T.F_law_words sc_law_words (ar_law_words cs) fun cdv A outer s H E Z hr => ⟨r_law_words cs, ?_, (red_law_words cs)⟩
  exact (qss_cons (qs_set (i := 1) sc_law_words.nd qe_str)
      (qss_cons (qs_set (i := 2) sc_law_words.nd (qe_call (ok_law_row T) (hr.mono (by first | decide | omega | exact Nat.le_refl _ | exact Nat.le_trans (by decide) (Nat.le_add_right _ _))) (by rfl) T.m_law_row T.F_law_row.kp T.b_law_row (qa_cons (qe_var 0) (qa_cons qe_int (qa_cons qe_int qa_nil)))))
      (qss_cons (qs_set (i := 3) sc_law_words.nd qe_str)
      (qss_cons (qs_forR (j := 4) (js := [4]) PassesOwn.never (by rfl) sc_law_words.nd (by rfl) T.z_range (qe_add qe_int (qe_mod (qe_int1 (by rfl) T.z_int (qa_cons (qe_ix (qe_var 2) qe_int) qa_nil)) qe_int)) (qss_one (qs_set (i := 3) sc_law_words.nd (qe_add (qe_var 3) (qe_ix (qe_var 1) (qe_mod (qe_int1 (by rfl) T.z_int (qa_cons (qe_ix (qe_var 2) (qe_add qe_int (qe_var 4))) qa_nil)) (qe_ix (qe_lst (qa_cons qe_int (qa_cons qe_int (qa_cons qe_int (qa_cons qe_int qa_nil))))) (qe_mod (qe_fdivA (qe_int1 (by rfl) T.z_int (qa_cons (qe_ix (qe_var 2) qe_int) qa_nil)) qe_int) qe_int))))))))
      (qss_cons (qs_set (i := 5) sc_law_words.nd (qe_call (ok_number_in T) (hr.mono (by first | decide | omega | exact Nat.le_refl _ | exact Nat.le_trans (by decide) (Nat.le_add_right _ _))) (by rfl) T.m_number_in T.F_number_in.kp T.b_number_in (qa_cons (qe_var 3) qa_nil)))
      (qss_cons (qs_if (qw_or (qt_not (qt_truth (qe_call (ok_law_is_integer T) (hr.mono (by first | decide | omega | exact Nat.le_refl _ | exact Nat.le_trans (by decide) (Nat.le_add_right _ _))) (by rfl) T.m_law_is_integer T.F_law_is_integer.kp T.b_law_is_integer (qa_cons (qe_var 5) qa_nil)))) (qw_or1 (qt_cmp (op_neA hr.units) od_neA (qe_var 5) (qe_call (ok_law_number T) (hr.mono (by first | decide | omega | exact Nat.le_refl _ | exact Nat.le_trans (by decide) (Nat.le_add_right _ _))) (by rfl) T.m_law_number T.F_law_number.kp T.b_law_number (qa_cons (qe_var 3) qa_nil))))).qt (qss_one (qs_ret qe_bl)) qss_nil)
      (qss_cons (qs_set (i := 6) sc_law_words.nd (qe_and (qe_cmp op_le od_le qe_int (qe_len (by rfl) T.z_len (qa_cons (qe_var 3) qa_nil))) (qe_one (qe_cmp op_le od_le (qe_len (by rfl) T.z_len (qa_cons (qe_var 3) qa_nil)) qe_int))))
      (qss_cons (qs_forS (j := 7) (js := [7]) PassesOwn.never (by rfl) sc_law_words.nd (qe_var 3) (qss_one (qs_if (qt_cmp op_ninA od_inA (qe_var 7) qe_str) (qss_one (qs_set (i := 6) sc_law_words.nd qe_bl)) qss_nil)))
      (qss_cons (qs_set (i := 8) sc_law_words.nd (qe_call (ok_is_name T) (hr.mono (by first | decide | omega | exact Nat.le_refl _ | exact Nat.le_trans (by decide) (Nat.le_add_right _ _))) (by rfl) T.m_is_name T.F_is_name.kp T.b_is_name (qa_cons (qe_var 3) qa_nil)))
      (qss_one (qs_ret (qe_if (qt_truth (qe_var 6)) (qe_cmp op_isBl od_isB (qe_var 8) qe_bl) (qe_cmp op_isBl od_isB (qe_var 8) qe_bl)))))))))))))

theorem ok_law_value (T : Txt K mg cs) : FnOk P w K mg base CX0 2 T.f_law_value T.d_law_value ["_law_script", "_law_k"] (spOf K (S_law_value cs)) := by
  refine fn_ok T.F_law_value sc_law_value (ar_law_value cs) fun cdv A outer s H E Z hr => ⟨r_law_value cs, ?_, (red_law_value cs)⟩
  exact (qss_cons (qs_set (i := 2) sc_law_value.nd (qe_call (ok_law_row T) (hr.mono (by first | decide | omega | exact Nat.le_refl _ | exact Nat.le_trans (by decide) (Nat.le_add_right _ _))) (by rfl) T.m_law_row T.F_law_row.kp T.b_law_row (qa_cons (qe_var 0) (qa_cons (qe_var 1) (qa_cons qe_int qa_nil)))))
      (qss_cons (qs_setM (i := 3) sc_law_value.nd (ql_lst qa_nil))
      (qss_cons (qs_set (i := 4) sc_law_value.nd qe_bl)
      (qss_cons (qs_forR (j := 5) (js := [5, 6]) PassesOwn.never (by rfl) sc_law_value.nd (by rfl) T.z_range (qe_add qe_int (qe_mod (qe_int1 (by rfl) T.z_int (qa_cons (qe_ix (qe_var 2) qe_int) qa_nil)) qe_int)) (qss_cons (qs_set (i := 6) sc_law_value.nd (qe_call (ok_law_row T) (hr.mono (by first | decide | omega | exact Nat.le_refl _ | exact Nat.le_trans (by decide) (Nat.le_add_right _ _))) (by rfl) T.m_law_row T.F_law_row.kp T.b_law_row (qa_cons (qe_var 0) (qa_cons (qe_add (qe_add (qe_var 1) qe_int) (qe_var 5)) (qa_cons qe_int qa_nil)))))
    (qss_one (qs_if (qw_and (qt_cmp op_gt od_gt (qe_mod (qe_ix (qe_var 6) qe_int) qe_int) qe_int) (qw_and (qt_cmp op_gt od_gt (qe_lenM (by rfl) T.z_len (qe_var 3)) qe_int) (qw_and1 (qt_cmp op_lt od_lt (qe_max2 (by rfl) (by rfl) T.z_max (qa_cons (qe_ix (qe_ixM (qe_var 3) (qe_neg qe_int)) qe_int) (qa_cons (qe_ix (qe_ixM (qe_var 3) (qe_neg qe_int)) qe_int) qa_nil))) qe_int)))).qt (qss_cons (qs_set (i := 7) sc_law_value.nd (qe_tup (qa_cons (qe_tup (qa_cons (qe_ix (qe_ixM (qe_var 3) (qe_neg qe_int)) qe_int) (qa_cons (qe_ix (qe_ixM (qe_var 3) (qe_neg qe_int)) qe_int) qa_nil))) (qa_cons (qe_add qe_int (qe_max2 (by rfl) (by rfl) T.z_max (qa_cons (qe_ix (qe_ixM (qe_var 3) (qe_neg qe_int)) qe_int) (qa_cons (qe_ix (qe_ixM (qe_var 3) (qe_neg qe_int)) qe_int) qa_nil)))) qa_nil))))
      (qss_one (qs_setM (i := 3) sc_law_value.nd (ql_catR (qe_sl (qe_var 3) qo_none (qo_some (qe_neg qe_int))) (qe_lst (qa_cons (qe_var 7) qa_nil)))))) (qss_cons (qs_set (i := 8) sc_law_value.nd (qe_int1 (by rfl) T.z_int (qa_cons (qe_ix (qe_var 6) qe_int) qa_nil)))
      (qss_cons (qs_if (qt_cmp (op_eqA hr.units) od_eqA (qe_mod (qe_ix (qe_var 6) qe_int) qe_int) qe_int) (qss_cons (qs_set (i := 8) sc_law_value.nd (qe_add qe_int (qe_mod (qe_int1 (by rfl) T.z_int (qa_cons (qe_ix (qe_var 6) qe_int) qa_nil)) qe_int)))
        (qss_one (qs_set (i := 4) sc_law_value.nd qe_bl))) qss_nil)
      (qss_one (qs_appM (qe_var 3) (qe_tup (qa_cons (qe_var 8) (qa_cons qe_int qa_nil)))))))))))
      (qss_one (qs_ret (qe_tup (qa_cons (qe_ix (qe_ixM (qe_var 3) (qe_neg qe_int)) qe_int) (qa_cons (qe_and (qe_cmp op_le od_le (qe_ix (qe_ixM (qe_var 3) (qe_neg qe_int)) qe_int) qe_int) (qe_one (qe_not (qe_var 4)))) qa_nil)))))))))

theorem ok_law_text (T : Txt K mg cs) : ∀ n, FnOk P w K mg base CX0 (0 + n) T.f_law_text T.d_law_text ["_law_value_here"] (spOf K (S_law_text cs n))
  | 0 => fn_never (nv_law_text cs)
  | n + 1 => by
    have ih := ok_law_text T n
    refine fn_ok T.F_law_text sc_law_text (ar_law_text cs (n + 1)) fun cdv A outer s H E Z hr => ⟨r_law_text cs n, ?_, (red_law_text cs n)⟩
    exact (qss_cons (qs_if (qt_truth (qe_isi (qe_var 0) (by rfl) T.z_isinstance (by rfl) T.z_tuple (by decide +kernel))) (qss_one (qs_ret (qe_add (qe_add (qe_add (qe_add qe_str (qe_call ih hr (by rfl) T.m_law_text T.F_law_text.kp T.b_law_text (qa_cons (qe_ix (qe_var 0) qe_int) qa_nil))) qe_str) (qe_call ih hr (by rfl) T.m_law_text T.F_law_text.kp T.b_law_text (qa_cons (qe_ix (qe_var 0) qe_int) qa_nil))) qe_str))) qss_nil)
      (qss_one (qs_ret (qe_strA (by rfl) T.z_str (qa_cons (qe_var 0) qa_nil)))))

theorem ok_law_equal (T : Txt K mg cs) : ∀ n, FnOk P w K mg base CX0 (1 + n) T.f_law_equal T.d_law_equal ["_law_told", "_law_due"] (spOf K (S_law_equal cs n))
  | 0 => fn_never (nv_law_equal cs)
  | n + 1 => by
    have ih := ok_law_equal T n
    refine fn_ok T.F_law_equal sc_law_equal (ar_law_equal cs (n + 1)) fun cdv A outer s H E Z hr => ⟨r_law_equal cs n, ?_, (red_law_equal cs n)⟩
    exact (qss_cons (qs_if (qt_truth (qe_isi (qe_var 1) (by rfl) T.z_isinstance (by rfl) T.z_tuple (by decide +kernel))) (qss_cons (qs_if (qw_or (qt_not (qt_truth (qe_isi (qe_var 0) (by rfl) T.z_isinstance (by rfl) T.z_tuple (by decide +kernel)))) (qw_or1 (qt_cmp (op_neA hr.units) od_neA (qe_len (by rfl) T.z_len (qa_cons (qe_var 0) qa_nil)) qe_int))).qt (qss_one (qs_ret qe_bl)) qss_nil)
    (qss_one (qs_ret (qe_and (qe_call ih hr (by rfl) T.m_law_equal T.F_law_equal.kp T.b_law_equal (qa_cons (qe_ix (qe_var 0) qe_int) (qa_cons (qe_ix (qe_var 1) qe_int) qa_nil))) (qe_one (qe_call ih hr (by rfl) T.m_law_equal T.F_law_equal.kp T.b_law_equal (qa_cons (qe_ix (qe_var 0) qe_int) (qa_cons (qe_ix (qe_var 1) qe_int) qa_nil)))))))) qss_nil)
      (qss_one (qs_ret (qe_and (qe_call (ok_law_is_integer T) (hr.mono (by first | decide | omega | exact Nat.le_refl _ | exact Nat.le_trans (by decide) (Nat.le_add_right _ _))) (by rfl) T.m_law_is_integer T.F_law_is_integer.kp T.b_law_is_integer (qa_cons (qe_var 0) qa_nil)) (qe_one (qe_cmp (op_eqA hr.units) od_eqA (qe_var 0) (qe_var 1)))))))

theorem ok_law_fault (T : Txt K mg cs) : FnOk P w K mg base CX0 2 T.f_law_fault T.d_law_fault ["_law_tokens"] (spOf K (S_law_fault cs)) := by
  refine fn_ok T.F_law_fault sc_law_fault (ar_law_fault cs) fun cdv A outer s H E Z hr => ⟨r_law_fault cs, ?_, (red_law_fault cs)⟩
  exact (qss_cons (qs_setM (i := 1) sc_law_fault.nd (ql_lst qa_nil))
      (qss_cons (qs_set (i := 2) sc_law_fault.nd qe_bl)
      (qss_cons (qs_forR (j := 3) (js := [3, 4, 5, 6]) PassesOwn.never (by rfl) sc_law_fault.nd (by rfl) T.z_range (qe_lenM (by rfl) T.z_len (qe_var 0)) (qss_cons (qs_set (i := 4) sc_law_fault.nd (qe_ixM (qe_var 0) (qe_var 3)))
    (qss_cons (qs_set (i := 5) sc_law_fault.nd (qe_and (qe_not (qe_var 2)) (qe_one (qe_or (qe_eqR hr.units (qe_var 1) (qe_lst qa_nil)) (qe_one (qe_cmp op_lt od_lt (qe_ixM (qe_var 1) (qe_neg qe_int)) qe_int))))))
    (qss_cons (qs_set (i := 6) sc_law_fault.nd qe_bl)
    (qss_cons (qs_if (qw_and (qt_cmp (op_eqA hr.units) od_eqA (qe_var 4) qe_str) (qw_and (qt_truth (qe_var 5)) (qw_and1 (qt_cmp op_lt od_lt (qe_lenM (by rfl) T.z_len (qe_var 1)) qe_int)))).qt (qss_one (qs_appM (qe_var 1) qe_int)) (qss_one (qs_if (qw_and (qt_cmp (op_eqA hr.units) od_eqA (qe_var 4) qe_str) (qw_and (qt_not (qt_truth (qe_var 2))) (qw_and (qt_neR hr.units (qe_var 1) (qe_lst qa_nil)) (qw_and1 (qt_cmp (op_eqA hr.units) od_eqA (qe_ixM (qe_var 1) (qe_neg qe_int)) qe_int))))).qt (qss_cons (qs_expr (qe_popM (qe_var 1)))
        (qss_one (qs_set (i := 6) sc_law_fault.nd qe_bl))) (qss_one (qs_if (qw_and (qt_cmp op_ge od_ge (qe_call (ok_law_number T) (hr.mono (by first | decide | omega | exact Nat.le_refl _ | exact Nat.le_trans (by decide) (Nat.le_add_right _ _))) (by rfl) T.m_law_number T.F_law_number.kp T.b_law_number (qa_cons (qe_var 4) qa_nil)) qe_int) (qw_and1 (qt_truth (qe_var 5)))).qt (qss_one (qs_set (i := 6) sc_law_fault.nd qe_bl)) (qss_one (qs_ret (qe_add (qe_var 3) qe_int))))))))
    (qss_one (qs_if (qw_and (qt_truth (qe_var 6)) (qw_and1 (qt_eqR hr.units (qe_var 1) (qe_lst qa_nil)))).qt (qss_one (qs_set (i := 2) sc_law_fault.nd qe_bl)) (qss_one (qs_if (qt_truth (qe_var 6)) (qss_one (qs_stoM (qe_add (qe_ixM (qe_var 1) (qe_neg qe_int)) qe_int) (qe_var 1) (qe_neg qe_int))) qss_nil)))))))))
      (qss_one (qs_ret (qe_if (qt_truth (qe_var 2)) qe_int (qe_add (qe_lenM (by rfl) T.z_len (qe_var 0)) qe_int)))))))

theorem ok_law_joined (T : Txt K mg cs) : FnOk P w K mg base CX0 1 T.f_law_joined T.d_law_joined ["_law_tokens"] (spOf K (S_law_joined cs)) := by
  refine fn_ok T.F_law_joined sc_law_joined (ar_law_joined cs) fun cdv A outer s H E Z hr => ⟨r_law_joined cs, ?_, (red_law_joined cs)⟩
  exact (qss_cons (qs_set (i := 1) sc_law_joined.nd qe_str)
      (qss_cons (qs_forM (j := 2) (js := [2]) PassesOwn.never (by rfl) sc_law_joined.nd (qe_var 0) (qss_cons (qs_if (qw_and (qt_cmp (op_neA hr.units) od_neA (qe_var 1) qe_str) (qw_and (qt_cmp (op_neA hr.units) od_neA (qe_ix (qe_var 1) (qe_neg qe_int)) qe_str) (qw_and1 (qt_cmp (op_neA hr.units) od_neA (qe_var 2) qe_str)))).qt (qss_one (qs_set (i := 1) sc_law_joined.nd (qe_add (qe_var 1) qe_str))) qss_nil)
    (qss_one (qs_set (i := 1) sc_law_joined.nd (qe_add (qe_var 1) (qe_var 2))))))
      (qss_one (qs_ret (qe_var 1)))))

theorem ok_law_values (T : Txt K mg cs) : FnOk P w K mg base CX0 15 T.f_law_values T.d_law_values ["_law_script"] (spOf K (S_law_values cs)) := by
  refine fn_ok T.F_law_values sc_law_values (ar_law_values cs) fun cdv A outer s H E Z hr => ⟨r_law_values cs, ?_, (red_law_values cs)⟩
  exact (qss_cons (qs_unp (is := [1, 2]) rfl (qe_call (ok_law_value T) (hr.mono (by first | decide | omega | exact Nat.le_refl _ | exact Nat.le_trans (by decide) (Nat.le_add_right _ _))) (by rfl) T.m_law_value T.F_law_value.kp T.b_law_value (qa_cons (qe_var 0) (qa_cons qe_int qa_nil))) (pgs_cons (pg_name (i := 1) sc_law_values.nd rfl (Or.inl rfl)) (pgs_cons (pg_name (i := 2) sc_law_values.nd rfl (Or.inl rfl)) pgs_nil)))
      (qss_cons (qs_set (i := 3) sc_law_values.nd (qe_call (ok_law_text T 7) (hr.mono (by first | decide | omega | exact Nat.le_refl _ | exact Nat.le_trans (by decide) (Nat.le_add_right _ _))) (by rfl) T.m_law_text T.F_law_text.kp T.b_law_text (qa_cons (qe_var 1) qa_nil)))
      (qss_cons (qs_if (qw_and (qt_truth (qe_var 2)) (qw_and1 (qt_cmp (op_neA hr.units) od_neA (qe_call (ok_value_text T 7) (hr.mono (by first | decide | omega | exact Nat.le_refl _ | exact Nat.le_trans (by decide) (Nat.le_add_right _ _))) (by rfl) T.m_value_text T.F_value_text.kp T.b_value_text (qa_cons (qe_var 1) qa_nil)) (qe_var 3)))).qt (qss_one (qs_ret qe_bl)) qss_nil)
      (qss_cons (qs_set (i := 4) sc_law_values.nd (qe_ix (qe_call (ok_law_scan T) (hr.mono (by first | decide | omega | exact Nat.le_refl _ | exact Nat.le_trans (by decide) (Nat.le_add_right _ _))) (by rfl) T.m_law_scan T.F_law_scan.kp T.b_law_scan (qa_cons (qe_var 3) qa_nil)) qe_int))
      (qss_cons (qs_set (i := 5) sc_law_values.nd (qe_call (ok_law_row T) (hr.mono (by first | decide | omega | exact Nat.le_refl _ | exact Nat.le_trans (by decide) (Nat.le_add_right _ _))) (by rfl) T.m_law_row T.F_law_row.kp T.b_law_row (qa_cons (qe_var 0) (qa_cons qe_int (qa_cons qe_int qa_nil)))))
      (qss_cons (qs_set (i := 6) sc_law_values.nd (qe_mod (qe_int1 (by rfl) T.z_int (qa_cons (qe_ix (qe_var 5) qe_int) qa_nil)) (qe_add (qe_lenM (by rfl) T.z_len (qe_var 4)) qe_int)))
      (qss_cons (qs_if (qt_cmp (op_eqA hr.units) od_eqA (qe_mod (qe_ix (qe_var 5) qe_int) qe_int) qe_int) (qss_one (qs_setM (i := 4) sc_law_values.nd (ql_catR (qe_sl (qe_var 4) qo_none (qo_some (qe_var 6))) (qe_sl (qe_var 4) (qo_some (qe_add (qe_var 6) qe_int)) qo_none)))) qss_nil)
      (qss_cons (qs_if (qt_cmp (op_eqA hr.units) od_eqA (qe_mod (qe_ix (qe_var 5) qe_int) qe_int) qe_int) (qss_one (qs_setM (i := 4) sc_law_values.nd (ql_catR (qe_add (qe_sl (qe_var 4) qo_none (qo_some (qe_var 6))) (qe_lst (qa_cons (qe_ix (qe_lst (qa_cons qe_str (qa_cons qe_str (qa_cons qe_str (qa_cons qe_str (qa_cons qe_str (qa_cons qe_str qa_nil))))))) (qe_mod (qe_int1 (by rfl) T.z_int (qa_cons (qe_ix (qe_var 5) qe_int) qa_nil)) qe_int)) qa_nil))) (qe_sl (qe_var 4) (qo_some (qe_var 6)) qo_none)))) qss_nil)
      (qss_cons (qs_if (qw_and (qt_cmp (op_eqA hr.units) od_eqA (qe_mod (qe_ix (qe_var 5) qe_int) qe_int) qe_int) (qw_and1 (qt_cmp op_lt od_lt (qe_var 6) (qe_lenM (by rfl) T.z_len (qe_var 4))))).qt (qss_one (qs_stoM (qe_ix (qe_lst (qa_cons qe_str (qa_cons qe_str (qa_cons qe_str (qa_cons qe_str (qa_cons qe_str qa_nil)))))) (qe_mod (qe_int1 (by rfl) T.z_int (qa_cons (qe_ix (qe_var 5) qe_int) qa_nil)) qe_int)) (qe_var 4) (qe_var 6))) qss_nil)
      (qss_cons (qs_set (i := 7) sc_law_values.nd (qe_call (ok_law_joined T) (hr.mono (by first | decide | omega | exact Nat.le_refl _ | exact Nat.le_trans (by decide) (Nat.le_add_right _ _))) (by rfl) T.m_law_joined T.F_law_joined.kp T.b_law_joined (qa_cons (qe_var 4) qa_nil)))
      (qss_cons (qs_unp (is := [8, 9]) rfl (qe_call (ok_law_scan T) (hr.mono (by first | decide | omega | exact Nat.le_refl _ | exact Nat.le_trans (by decide) (Nat.le_add_right _ _))) (by rfl) T.m_law_scan T.F_law_scan.kp T.b_law_scan (qa_cons (qe_var 7) qa_nil)) (pgs_cons (pg_name (i := 8) sc_law_values.nd rfl (Or.inl rfl)) (pgs_cons (pg_name (i := 9) sc_law_values.nd rfl (Or.inl rfl)) pgs_nil)))
      (qss_cons (qs_set (i := 10) sc_law_values.nd (qe_var 9))
      (qss_cons (qs_if (qt_cmp (op_eqA hr.units) od_eqA (qe_var 10) qe_int) (qss_one (qs_set (i := 10) sc_law_values.nd (qe_call (ok_law_fault T) (hr.mono (by first | decide | omega | exact Nat.le_refl _ | exact Nat.le_trans (by decide) (Nat.le_add_right _ _))) (by rfl) T.m_law_fault T.F_law_fault.kp T.b_law_fault (qa_cons (qe_var 8) qa_nil)))) qss_nil)
      (qss_cons (qs_if (qw_or (qw_and (qt_cmp (op_eqA hr.units) od_eqA (qe_var 10) qe_int) (qw_and1 (qt_cmp op_notBl od_notB (qe_call (ok_is_value_text T) (hr.mono (by first | decide | omega | exact Nat.le_refl _ | exact Nat.le_trans (by decide) (Nat.le_add_right _ _))) (by rfl) T.m_is_value_text T.F_is_value_text.kp T.b_is_value_text (qa_cons (qe_var 7) qa_nil)) qe_bl))).qt (qw_or1 (qw_and (qt_cmp op_gt od_gt (qe_var 10) qe_int) (qw_and1 (qt_cmp op_notBl od_notB (qe_call (ok_is_value_text T) (hr.mono (by first | decide | omega | exact Nat.le_refl _ | exact Nat.le_trans (by decide) (Nat.le_add_right _ _))) (by rfl) T.m_is_value_text T.F_is_value_text.kp T.b_is_value_text (qa_cons (qe_var 7) qa_nil)) qe_bl))).qt)).qt (qss_one (qs_ret qe_bl)) qss_nil)
      (qss_cons (qs_try_as (i := 12) rfl rfl sc_law_values.nd rfl rfl ⟨by rfl, by decide, .inl T.m_TextError⟩ (T.cat_TextError) takes0 xok_none (fun W1 pn1 xe1 Z Ψ1 tk1 po1 xo1 => (qss_one (qs_set (i := 11) sc_law_values.nd (qe_callX (ok_read_value T) (hr.mono (by first | decide | omega | exact Nat.le_refl _ | exact Nat.le_trans (by decide) (Nat.le_add_right _ _))) tk1 xo1 (by rfl) T.m_read_value T.F_read_value.kp T.b_read_value (qa_cons (qe_var 7) qa_nil))))) (fun a oe C d fs pn Z hC hz hf xr => (by cases cat_one hC; exact (qss_one (qs_ret (qe_and (qe_cmp op_gt od_gt (qe_var 10) qe_int) (qe_and (qe_cmp (op_eqA hr.units) od_eqA (qe_xf T.x_TextError T.n_TextError_line hz hf xr (qe_var 12)) qe_int) (qe_one (qe_cmp (op_eqA hr.units) od_eqA (qe_xf T.x_TextError T.n_TextError_token hz hf xr (qe_var 12)) (qe_var 10))))))))))
      (qss_one (qs_ret (qe_and (qe_cmp (op_eqA hr.units) od_eqA (qe_var 10) qe_int) (qe_and (qe_or (qe_cmp (op_neA hr.units) od_neA (qe_var 7) (qe_var 3)) (qe_one (qe_call (ok_law_equal T 7) (hr.mono (by first | decide | omega | exact Nat.le_refl _ | exact Nat.le_trans (by decide) (Nat.le_add_right _ _))) (by rfl) T.m_law_equal T.F_law_equal.kp T.b_law_equal (qa_cons (qe_var 11) (qa_cons (qe_var 1) qa_nil))))) (qe_one (qe_cmp (op_eqA hr.units) od_eqA (qe_call (ok_value_text T 7) (hr.mono (by first | decide | omega | exact Nat.le_refl _ | exact Nat.le_trans (by decide) (Nat.le_add_right _ _))) (by rfl) T.m_value_text T.F_value_text.kp T.b_value_text (qa_cons (qe_var 11) qa_nil)) (qe_var 7))))))))))))))))))))))

theorem ok_law (T : Txt K mg cs) : FnOk P w K mg base CX0 16 T.f_law T.d_law ["_law_script"] (spOf K (S_law cs)) := by
  refine fn_ok T.F_law sc_law (ar_law cs) fun cdv A outer s H E Z hr => ⟨r_law cs, ?_, (red_law cs)⟩
  exact (qss_one (qs_ret (qe_and (qe_call (ok_law_lines T) (hr.mono (by first | decide | omega | exact Nat.le_refl _ | exact Nat.le_trans (by decide) (Nat.le_add_right _ _))) (by rfl) T.m_law_lines T.F_law_lines.kp T.b_law_lines (qa_cons (qe_var 0) qa_nil)) (qe_and (qe_call (ok_law_words T) (hr.mono (by first | decide | omega | exact Nat.le_refl _ | exact Nat.le_trans (by decide) (Nat.le_add_right _ _))) (by rfl) T.m_law_words T.F_law_words.kp T.b_law_words (qa_cons (qe_var 0) qa_nil)) (qe_one (qe_call (ok_law_values T) (hr.mono (by first | decide | omega | exact Nat.le_refl _ | exact Nat.le_trans (by decide) (Nat.le_add_right _ _))) (by rfl) T.m_law_values T.F_law_values.kp T.b_law_values (qa_cons (qe_var 0) qa_nil)))))))

end
theorem all_mk {l : PySem.W.OpenLaw} {w : World} {K : PySem.W.Frag} {h : Heap} {mg : Str → Option Value} {fa f0 f1 f2 f3 f4 f5 f6 f7 f8 f9 f10 f11 f12 f13 f14 f15 f16 f17 f18 f19 f20 f21 f22 f23 f24 f25 f26 f27 f28 f29 f30 f31 f32 f33 f34 f35 f36 f37 c_DeedsError c_TextError c_Line : Addr} (X : K.In h) (G : h.Ns mainGlobals mg) (hfa : mg "law" = some (.ref fa))
    (m_DeedsError : PySem.W.nsIn K mainGlobals "DeedsError" = some (some (.ref c_DeedsError))) (kc_DeedsError : PySem.W.keepIn K (.ref c_DeedsError) = true)
    (m_TextError : PySem.W.nsIn K mainGlobals "TextError" = some (some (.ref c_TextError))) (kc_TextError : PySem.W.keepIn K (.ref c_TextError) = true)
    {nm_TextError q_TextError : Str} {N_TextError : Addr} {bs_TextError : List Value} {sn_TextError : List Str} {sub_TextError : List Value} {ab_TextError : Bool} {col_TextError : Option Bool} {dd_TextError : Option Addr} {k0_TextError k1_TextError k2_TextError k3_TextError k5_TextError : Option Value}
    (xL_TextError : K.lookup c_TextError = some (excClassObj nm_TextError q_TextError c_TextError N_TextError bs_TextError [.ref c_DeedsError, .type "ValueError", .type "Exception", .type "BaseException", .type "object"] true sn_TextError sub_TextError ab_TextError col_TextError dd_TextError k0_TextError k1_TextError k2_TextError k3_TextError k5_TextError "ValueError.__new__"))
    (sa_TextError : PySem.W.findIn K (.ref c_TextError) "__setattr__" = some (some (.builtin "object.__setattr__"))) (ga_TextError : PySem.W.findIn K (.ref c_TextError) "__getattribute__" = some (some (.builtin "BaseException.__getattribute__"))) (gg_TextError : PySem.W.findIn K (.ref c_TextError) "__getattr__" = some none)
    (eC_TextError : PySem.W.subIn K (.ref c_TextError) (.type "BaseException") = some true) (tC_TextError : PySem.W.typeIn K (.ref c_TextError) = some (.type "type")) (hC_TextError : PySem.W.hasDictIn K c_TextError = true)
    (n_TextError_line : PySem.W.findIn K (.ref c_TextError) "line" = some none)
    (n_TextError_token : PySem.W.findIn K (.ref c_TextError) "token" = some none)
    (m_Line : PySem.W.nsIn K mainGlobals "Line" = some (some (.ref c_Line))) (kc_Line : PySem.W.keepIn K (.ref c_Line) = true)
    (pg_Line : PySem.W.plainGet K c_Line Str.empty = true) (hd_Line : PySem.W.hasDictIn K c_Line = true) (po_Line : PySem.W.plainOver K c_Line = true) (sa_Line : PySem.W.findIn K (.ref c_Line) "__setattr__" = some (some (.builtin "object.__setattr__")))
    (n_Line_number : PySem.W.findIn K (.ref c_Line) "number" = some none)
    (n_Line_place : PySem.W.findIn K (.ref c_Line) "place" = some none)
    (n_Line_tokens : PySem.W.findIn K (.ref c_Line) "tokens" = some none)
    (s_TextError_TextError : PySem.W.subIn K (.ref c_TextError) (.ref c_TextError) = some true)
    (xa_TextError : PySem.W.findIn K (.ref c_TextError) "__class__" = some (some (.builtin "object.__class__"))) (xm_TextError : PySem.W.mroIn K c_TextError (.type "object") = some true) (xn_TextError : PySem.W.specialIn K (.builtin "object.__class__") "__get__" = some (some (.builtin "getset_descriptor.__get__"))) (xt_TextError : PySem.W.takesIn K (.builtin "object.__class__") = some true)
    (tC_DeedsError : PySem.W.typeIn K (.ref c_DeedsError) = some (.type "type")) (hC_DeedsError : PySem.W.hasDictIn K c_DeedsError = true)
    (s_TextError_DeedsError : PySem.W.subIn K (.ref c_TextError) (.ref c_DeedsError) = some true)
    {oc0 kV0 dc0 pm0 cd0 ct0 : Value} {od0 an0 : Option Addr} {sl0 : Array (Option Value)}
    (a0 : PySem.W.nsIn K mainGlobals "_wall" = some (some (.ref f0)))
    (l0 : K.lookup f0 = some ⟨oc0, od0, .func (PySem.W.fnOf "_wall" "_wall" (defArgs s_wall) (defBody s_wall) (defScope s_wall) .none kV0 dc0 pm0 an0 cd0 ct0), sl0⟩) (c0 : PySem.W.codeIn K cd0 "_wall" = true) (k0 : PySem.W.keepIn K (.ref f0) = true)
    {oc1 kV1 dc1 pm1 cd1 ct1 : Value} {od1 an1 : Option Addr} {sl1 : Array (Option Value)}
    (a1 : PySem.W.findIn K (.ref c_TextError) "__init__" = some (some (.ref f1)))
    (l1 : K.lookup f1 = some ⟨oc1, od1, .func (PySem.W.fnOf "__init__" "TextError.__init__" (defArgs s_TextError_init) (defBody s_TextError_init) (defScope s_TextError_init) .none kV1 dc1 pm1 an1 cd1 ct1), sl1⟩) (c1 : PySem.W.codeIn K cd1 "TextError.__init__" = true) (k1 : PySem.W.keepIn K (.ref f1) = true)
    (t1 : PySem.W.typeIn K (.ref f1) = some (.type "function"))
    {oc2 kV2 dc2 pm2 cd2 ct2 : Value} {od2 an2 : Option Addr} {sl2 : Array (Option Value)}
    (a2 : PySem.W.nsIn K mainGlobals "_token_begin" = some (some (.ref f2)))
    (l2 : K.lookup f2 = some ⟨oc2, od2, .func (PySem.W.fnOf "_token_begin" "_token_begin" (defArgs s_token_begin) (defBody s_token_begin) (defScope s_token_begin) .none kV2 dc2 pm2 an2 cd2 ct2), sl2⟩) (c2 : PySem.W.codeIn K cd2 "_token_begin" = true) (k2 : PySem.W.keepIn K (.ref f2) = true)
    {oc3 kV3 dc3 pm3 cd3 ct3 : Value} {od3 an3 : Option Addr} {sl3 : Array (Option Value)}
    (a3 : PySem.W.nsIn K mainGlobals "_token_end" = some (some (.ref f3)))
    (l3 : K.lookup f3 = some ⟨oc3, od3, .func (PySem.W.fnOf "_token_end" "_token_end" (defArgs s_token_end) (defBody s_token_end) (defScope s_token_end) .none kV3 dc3 pm3 an3 cd3 ct3), sl3⟩) (c3 : PySem.W.codeIn K cd3 "_token_end" = true) (k3 : PySem.W.keepIn K (.ref f3) = true)
    {oc4 kV4 dc4 pm4 cd4 ct4 : Value} {od4 an4 : Option Addr} {sl4 : Array (Option Value)}
    (a4 : PySem.W.nsIn K mainGlobals "tokens_of" = some (some (.ref f4)))
    (l4 : K.lookup f4 = some ⟨oc4, od4, .func (PySem.W.fnOf "tokens_of" "tokens_of" (defArgs s_tokens_of) (defBody s_tokens_of) (defScope s_tokens_of) .none kV4 dc4 pm4 an4 cd4 ct4), sl4⟩) (c4 : PySem.W.codeIn K cd4 "tokens_of" = true) (k4 : PySem.W.keepIn K (.ref f4) = true)
    {oc5 kV5 dc5 pm5 cd5 ct5 : Value} {od5 an5 : Option Addr} {sl5 : Array (Option Value)}
    (a5 : PySem.W.nsIn K mainGlobals "is_digits" = some (some (.ref f5)))
    (l5 : K.lookup f5 = some ⟨oc5, od5, .func (PySem.W.fnOf "is_digits" "is_digits" (defArgs s_is_digits) (defBody s_is_digits) (defScope s_is_digits) .none kV5 dc5 pm5 an5 cd5 ct5), sl5⟩) (c5 : PySem.W.codeIn K cd5 "is_digits" = true) (k5 : PySem.W.keepIn K (.ref f5) = true)
    {oc6 kV6 dc6 pm6 cd6 ct6 : Value} {od6 an6 : Option Addr} {sl6 : Array (Option Value)}
    (a6 : PySem.W.nsIn K mainGlobals "whole_in" = some (some (.ref f6)))
    (l6 : K.lookup f6 = some ⟨oc6, od6, .func (PySem.W.fnOf "whole_in" "whole_in" (defArgs s_whole_in) (defBody s_whole_in) (defScope s_whole_in) .none kV6 dc6 pm6 an6 cd6 ct6), sl6⟩) (c6 : PySem.W.codeIn K cd6 "whole_in" = true) (k6 : PySem.W.keepIn K (.ref f6) = true)
    {oc7 kV7 dc7 pm7 cd7 ct7 : Value} {od7 an7 : Option Addr} {sl7 : Array (Option Value)}
    (a7 : PySem.W.nsIn K mainGlobals "number_in" = some (some (.ref f7)))
    (l7 : K.lookup f7 = some ⟨oc7, od7, .func (PySem.W.fnOf "number_in" "number_in" (defArgs s_number_in) (defBody s_number_in) (defScope s_number_in) .none kV7 dc7 pm7 an7 cd7 ct7), sl7⟩) (c7 : PySem.W.codeIn K cd7 "number_in" = true) (k7 : PySem.W.keepIn K (.ref f7) = true)
    {oc8 kV8 dc8 pm8 cd8 ct8 : Value} {od8 an8 : Option Addr} {sl8 : Array (Option Value)}
    (a8 : PySem.W.nsIn K mainGlobals "is_name" = some (some (.ref f8)))
    (l8 : K.lookup f8 = some ⟨oc8, od8, .func (PySem.W.fnOf "is_name" "is_name" (defArgs s_is_name) (defBody s_is_name) (defScope s_is_name) .none kV8 dc8 pm8 an8 cd8 ct8), sl8⟩) (c8 : PySem.W.codeIn K cd8 "is_name" = true) (k8 : PySem.W.keepIn K (.ref f8) = true)
    {oc9 kV9 dc9 pm9 cd9 ct9 : Value} {od9 an9 : Option Addr} {sl9 : Array (Option Value)}
    (a9 : PySem.W.findIn K (.ref c_Line) "__init__" = some (some (.ref f9)))
    (l9 : K.lookup f9 = some ⟨oc9, od9, .func (PySem.W.fnOf "__init__" "Line.__init__" (defArgs s_Line_init) (defBody s_Line_init) (defScope s_Line_init) .none kV9 dc9 pm9 an9 cd9 ct9), sl9⟩) (c9 : PySem.W.codeIn K cd9 "Line.__init__" = true) (k9 : PySem.W.keepIn K (.ref f9) = true)
    (i9 : PySem.W.isFn K (.ref f9) = true)
    (mk_Line : PySem.W.makesIn K c_Line = true)
    {oc10 kV10 dc10 pm10 cd10 ct10 : Value} {od10 an10 : Option Addr} {sl10 : Array (Option Value)}
    (a10 : PySem.W.findIn K (.ref c_Line) "here" = some (some (.ref f10)))
    (l10 : K.lookup f10 = some ⟨oc10, od10, .func (PySem.W.fnOf "here" "Line.here" (defArgs s_Line_here) (defBody s_Line_here) (defScope s_Line_here) .none kV10 dc10 pm10 an10 cd10 ct10), sl10⟩) (c10 : PySem.W.codeIn K cd10 "Line.here" = true) (k10 : PySem.W.keepIn K (.ref f10) = true)
    (i10 : PySem.W.isFn K (.ref f10) = true)
    {oc11 kV11 dc11 pm11 cd11 ct11 : Value} {od11 an11 : Option Addr} {sl11 : Array (Option Value)}
    (a11 : PySem.W.findIn K (.ref c_Line) "need" = some (some (.ref f11)))
    (l11 : K.lookup f11 = some ⟨oc11, od11, .func (PySem.W.fnOf "need" "Line.need" (defArgs s_Line_need) (defBody s_Line_need) (defScope s_Line_need) .none kV11 dc11 pm11 an11 cd11 ct11), sl11⟩) (c11 : PySem.W.codeIn K cd11 "Line.need" = true) (k11 : PySem.W.keepIn K (.ref f11) = true)
    (i11 : PySem.W.isFn K (.ref f11) = true)
    {oc12 kV12 dc12 pm12 cd12 ct12 : Value} {od12 an12 : Option Addr} {sl12 : Array (Option Value)}
    (a12 : PySem.W.findIn K (.ref c_Line) "take" = some (some (.ref f12)))
    (l12 : K.lookup f12 = some ⟨oc12, od12, .func (PySem.W.fnOf "take" "Line.take" (defArgs s_Line_take) (defBody s_Line_take) (defScope s_Line_take) .none kV12 dc12 pm12 an12 cd12 ct12), sl12⟩) (c12 : PySem.W.codeIn K cd12 "Line.take" = true) (k12 : PySem.W.keepIn K (.ref f12) = true)
    (i12 : PySem.W.isFn K (.ref f12) = true)
    {oc13 kV13 dc13 pm13 cd13 ct13 : Value} {od13 an13 : Option Addr} {sl13 : Array (Option Value)}
    (a13 : PySem.W.findIn K (.ref c_Line) "mark" = some (some (.ref f13)))
    (l13 : K.lookup f13 = some ⟨oc13, od13, .func (PySem.W.fnOf "mark" "Line.mark" (defArgs s_Line_mark) (defBody s_Line_mark) (defScope s_Line_mark) .none kV13 dc13 pm13 an13 cd13 ct13), sl13⟩) (c13 : PySem.W.codeIn K cd13 "Line.mark" = true) (k13 : PySem.W.keepIn K (.ref f13) = true)
    (i13 : PySem.W.isFn K (.ref f13) = true)
    {oc14 kV14 dc14 pm14 cd14 ct14 : Value} {od14 an14 : Option Addr} {sl14 : Array (Option Value)}
    (a14 : PySem.W.findIn K (.ref c_Line) "whole" = some (some (.ref f14)))
    (l14 : K.lookup f14 = some ⟨oc14, od14, .func (PySem.W.fnOf "whole" "Line.whole" (defArgs s_Line_whole) (defBody s_Line_whole) (defScope s_Line_whole) .none kV14 dc14 pm14 an14 cd14 ct14), sl14⟩) (c14 : PySem.W.codeIn K cd14 "Line.whole" = true) (k14 : PySem.W.keepIn K (.ref f14) = true)
    (i14 : PySem.W.isFn K (.ref f14) = true)
    {oc15 kV15 dc15 pm15 cd15 ct15 : Value} {od15 an15 : Option Addr} {sl15 : Array (Option Value)}
    (a15 : PySem.W.findIn K (.ref c_Line) "below" = some (some (.ref f15)))
    (l15 : K.lookup f15 = some ⟨oc15, od15, .func (PySem.W.fnOf "below" "Line.below" (defArgs s_Line_below) (defBody s_Line_below) (defScope s_Line_below) .none kV15 dc15 pm15 an15 cd15 ct15), sl15⟩) (c15 : PySem.W.codeIn K cd15 "Line.below" = true) (k15 : PySem.W.keepIn K (.ref f15) = true)
    (i15 : PySem.W.isFn K (.ref f15) = true)
    {oc16 kV16 dc16 pm16 cd16 ct16 : Value} {od16 an16 : Option Addr} {sl16 : Array (Option Value)}
    (a16 : PySem.W.findIn K (.ref c_Line) "name" = some (some (.ref f16)))
    (l16 : K.lookup f16 = some ⟨oc16, od16, .func (PySem.W.fnOf "name" "Line.name" (defArgs s_Line_name) (defBody s_Line_name) (defScope s_Line_name) .none kV16 dc16 pm16 an16 cd16 ct16), sl16⟩) (c16 : PySem.W.codeIn K cd16 "Line.name" = true) (k16 : PySem.W.keepIn K (.ref f16) = true)
    (i16 : PySem.W.isFn K (.ref f16) = true)
    {oc17 kV17 dc17 pm17 cd17 ct17 : Value} {od17 an17 : Option Addr} {sl17 : Array (Option Value)}
    (a17 : PySem.W.findIn K (.ref c_Line) "finish" = some (some (.ref f17)))
    (l17 : K.lookup f17 = some ⟨oc17, od17, .func (PySem.W.fnOf "finish" "Line.finish" (defArgs s_Line_finish) (defBody s_Line_finish) (defScope s_Line_finish) .none kV17 dc17 pm17 an17 cd17 ct17), sl17⟩) (c17 : PySem.W.codeIn K cd17 "Line.finish" = true) (k17 : PySem.W.keepIn K (.ref f17) = true)
    (i17 : PySem.W.isFn K (.ref f17) = true)
    {oc18 kV18 dc18 pm18 cd18 ct18 : Value} {od18 an18 : Option Addr} {sl18 : Array (Option Value)}
    (a18 : PySem.W.nsIn K mainGlobals "value_text" = some (some (.ref f18)))
    (l18 : K.lookup f18 = some ⟨oc18, od18, .func (PySem.W.fnOf "value_text" "value_text" (defArgs s_value_text) (defBody s_value_text) (defScope s_value_text) .none kV18 dc18 pm18 an18 cd18 ct18), sl18⟩) (c18 : PySem.W.codeIn K cd18 "value_text" = true) (k18 : PySem.W.keepIn K (.ref f18) = true)
    {oc19 kV19 dc19 pm19 cd19 ct19 : Value} {od19 an19 : Option Addr} {sl19 : Array (Option Value)}
    (a19 : PySem.W.nsIn K mainGlobals "value_in" = some (some (.ref f19)))
    (l19 : K.lookup f19 = some ⟨oc19, od19, .func (PySem.W.fnOf "value_in" "value_in" (defArgs s_value_in) (defBody s_value_in) (defScope s_value_in) .none kV19 dc19 pm19 an19 cd19 ct19), sl19⟩) (c19 : PySem.W.codeIn K cd19 "value_in" = true) (k19 : PySem.W.keepIn K (.ref f19) = true)
    {oc20 kV20 dc20 pm20 cd20 ct20 : Value} {od20 an20 : Option Addr} {sl20 : Array (Option Value)}
    (a20 : PySem.W.nsIn K mainGlobals "last_value_in" = some (some (.ref f20)))
    (l20 : K.lookup f20 = some ⟨oc20, od20, .func (PySem.W.fnOf "last_value_in" "last_value_in" (defArgs s_last_value_in) (defBody s_last_value_in) (defScope s_last_value_in) .none kV20 dc20 pm20 an20 cd20 ct20), sl20⟩) (c20 : PySem.W.codeIn K cd20 "last_value_in" = true) (k20 : PySem.W.keepIn K (.ref f20) = true)
    {oc21 kV21 dc21 pm21 cd21 ct21 : Value} {od21 an21 : Option Addr} {sl21 : Array (Option Value)}
    (a21 : PySem.W.nsIn K mainGlobals "read_value" = some (some (.ref f21)))
    (l21 : K.lookup f21 = some ⟨oc21, od21, .func (PySem.W.fnOf "read_value" "read_value" (defArgs s_read_value) (defBody s_read_value) (defScope s_read_value) .none kV21 dc21 pm21 an21 cd21 ct21), sl21⟩) (c21 : PySem.W.codeIn K cd21 "read_value" = true) (k21 : PySem.W.keepIn K (.ref f21) = true)
    {oc22 kV22 dc22 pm22 cd22 ct22 : Value} {od22 an22 : Option Addr} {sl22 : Array (Option Value)}
    (a22 : PySem.W.nsIn K mainGlobals "is_value_text" = some (some (.ref f22)))
    (l22 : K.lookup f22 = some ⟨oc22, od22, .func (PySem.W.fnOf "is_value_text" "is_value_text" (defArgs s_is_value_text) (defBody s_is_value_text) (defScope s_is_value_text) .none kV22 dc22 pm22 an22 cd22 ct22), sl22⟩) (c22 : PySem.W.codeIn K cd22 "is_value_text" = true) (k22 : PySem.W.keepIn K (.ref f22) = true)
    {oc23 kV23 dc23 pm23 cd23 ct23 : Value} {od23 an23 : Option Addr} {sl23 : Array (Option Value)}
    (a23 : PySem.W.nsIn K mainGlobals "_law_row" = some (some (.ref f23)))
    (l23 : K.lookup f23 = some ⟨oc23, od23, .func (PySem.W.fnOf "_law_row" "_law_row" (defArgs s_law_row) (defBody s_law_row) (defScope s_law_row) .none kV23 dc23 pm23 an23 cd23 ct23), sl23⟩) (c23 : PySem.W.codeIn K cd23 "_law_row" = true) (k23 : PySem.W.keepIn K (.ref f23) = true)
    {oc24 kV24 dc24 pm24 cd24 ct24 : Value} {od24 an24 : Option Addr} {sl24 : Array (Option Value)}
    (a24 : PySem.W.nsIn K mainGlobals "_law_is_integer" = some (some (.ref f24)))
    (l24 : K.lookup f24 = some ⟨oc24, od24, .func (PySem.W.fnOf "_law_is_integer" "_law_is_integer" (defArgs s_law_is_integer) (defBody s_law_is_integer) (defScope s_law_is_integer) .none kV24 dc24 pm24 an24 cd24 ct24), sl24⟩) (c24 : PySem.W.codeIn K cd24 "_law_is_integer" = true) (k24 : PySem.W.keepIn K (.ref f24) = true)
    {oc25 kV25 dc25 pm25 cd25 ct25 : Value} {od25 an25 : Option Addr} {sl25 : Array (Option Value)}
    (a25 : PySem.W.nsIn K mainGlobals "_law_scan" = some (some (.ref f25)))
    (l25 : K.lookup f25 = some ⟨oc25, od25, .func (PySem.W.fnOf "_law_scan" "_law_scan" (defArgs s_law_scan) (defBody s_law_scan) (defScope s_law_scan) .none kV25 dc25 pm25 an25 cd25 ct25), sl25⟩) (c25 : PySem.W.codeIn K cd25 "_law_scan" = true) (k25 : PySem.W.keepIn K (.ref f25) = true)
    {oc26 kV26 dc26 pm26 cd26 ct26 : Value} {od26 an26 : Option Addr} {sl26 : Array (Option Value)}
    (a26 : PySem.W.nsIn K mainGlobals "_law_word" = some (some (.ref f26)))
    (l26 : K.lookup f26 = some ⟨oc26, od26, .func (PySem.W.fnOf "_law_word" "_law_word" (defArgs s_law_word) (defBody s_law_word) (defScope s_law_word) .none kV26 dc26 pm26 an26 cd26 ct26), sl26⟩) (c26 : PySem.W.codeIn K cd26 "_law_word" = true) (k26 : PySem.W.keepIn K (.ref f26) = true)
    {oc27 kV27 dc27 pm27 cd27 ct27 : Value} {od27 an27 : Option Addr} {sl27 : Array (Option Value)}
    (a27 : PySem.W.nsIn K mainGlobals "_law_line" = some (some (.ref f27)))
    (l27 : K.lookup f27 = some ⟨oc27, od27, .func (PySem.W.fnOf "_law_line" "_law_line" (defArgs s_law_line) (defBody s_law_line) (defScope s_law_line) .none kV27 dc27 pm27 an27 cd27 ct27), sl27⟩) (c27 : PySem.W.codeIn K cd27 "_law_line" = true) (k27 : PySem.W.keepIn K (.ref f27) = true)
    {oc28 kV28 dc28 pm28 cd28 ct28 : Value} {od28 an28 : Option Addr} {sl28 : Array (Option Value)}
    (a28 : PySem.W.nsIn K mainGlobals "_law_lines" = some (some (.ref f28)))
    (l28 : K.lookup f28 = some ⟨oc28, od28, .func (PySem.W.fnOf "_law_lines" "_law_lines" (defArgs s_law_lines) (defBody s_law_lines) (defScope s_law_lines) .none kV28 dc28 pm28 an28 cd28 ct28), sl28⟩) (c28 : PySem.W.codeIn K cd28 "_law_lines" = true) (k28 : PySem.W.keepIn K (.ref f28) = true)
    {oc29 kV29 dc29 pm29 cd29 ct29 : Value} {od29 an29 : Option Addr} {sl29 : Array (Option Value)}
    (a29 : PySem.W.nsIn K mainGlobals "_law_number" = some (some (.ref f29)))
    (l29 : K.lookup f29 = some ⟨oc29, od29, .func (PySem.W.fnOf "_law_number" "_law_number" (defArgs s_law_number) (defBody s_law_number) (defScope s_law_number) .none kV29 dc29 pm29 an29 cd29 ct29), sl29⟩) (c29 : PySem.W.codeIn K cd29 "_law_number" = true) (k29 : PySem.W.keepIn K (.ref f29) = true)
    {oc30 kV30 dc30 pm30 cd30 ct30 : Value} {od30 an30 : Option Addr} {sl30 : Array (Option Value)}
    (a30 : PySem.W.nsIn K mainGlobals "_law_words" = some (some (.ref f30)))
    (l30 : K.lookup f30 = some ⟨oc30, od30, .func (PySem.W.fnOf "_law_words" "_law_words" (defArgs s_law_words) (defBody s_law_words) (defScope s_law_words) .none kV30 dc30 pm30 an30 cd30 ct30), sl30⟩) (c30 : PySem.W.codeIn K cd30 "_law_words" = true) (k30 : PySem.W.keepIn K (.ref f30) = true)
    {oc31 kV31 dc31 pm31 cd31 ct31 : Value} {od31 an31 : Option Addr} {sl31 : Array (Option Value)}
    (a31 : PySem.W.nsIn K mainGlobals "_law_value" = some (some (.ref f31)))
    (l31 : K.lookup f31 = some ⟨oc31, od31, .func (PySem.W.fnOf "_law_value" "_law_value" (defArgs s_law_value) (defBody s_law_value) (defScope s_law_value) .none kV31 dc31 pm31 an31 cd31 ct31), sl31⟩) (c31 : PySem.W.codeIn K cd31 "_law_value" = true) (k31 : PySem.W.keepIn K (.ref f31) = true)
    {oc32 kV32 dc32 pm32 cd32 ct32 : Value} {od32 an32 : Option Addr} {sl32 : Array (Option Value)}
    (a32 : PySem.W.nsIn K mainGlobals "_law_text" = some (some (.ref f32)))
    (l32 : K.lookup f32 = some ⟨oc32, od32, .func (PySem.W.fnOf "_law_text" "_law_text" (defArgs s_law_text) (defBody s_law_text) (defScope s_law_text) .none kV32 dc32 pm32 an32 cd32 ct32), sl32⟩) (c32 : PySem.W.codeIn K cd32 "_law_text" = true) (k32 : PySem.W.keepIn K (.ref f32) = true)
    {oc33 kV33 dc33 pm33 cd33 ct33 : Value} {od33 an33 : Option Addr} {sl33 : Array (Option Value)}
    (a33 : PySem.W.nsIn K mainGlobals "_law_equal" = some (some (.ref f33)))
    (l33 : K.lookup f33 = some ⟨oc33, od33, .func (PySem.W.fnOf "_law_equal" "_law_equal" (defArgs s_law_equal) (defBody s_law_equal) (defScope s_law_equal) .none kV33 dc33 pm33 an33 cd33 ct33), sl33⟩) (c33 : PySem.W.codeIn K cd33 "_law_equal" = true) (k33 : PySem.W.keepIn K (.ref f33) = true)
    {oc34 kV34 dc34 pm34 cd34 ct34 : Value} {od34 an34 : Option Addr} {sl34 : Array (Option Value)}
    (a34 : PySem.W.nsIn K mainGlobals "_law_fault" = some (some (.ref f34)))
    (l34 : K.lookup f34 = some ⟨oc34, od34, .func (PySem.W.fnOf "_law_fault" "_law_fault" (defArgs s_law_fault) (defBody s_law_fault) (defScope s_law_fault) .none kV34 dc34 pm34 an34 cd34 ct34), sl34⟩) (c34 : PySem.W.codeIn K cd34 "_law_fault" = true) (k34 : PySem.W.keepIn K (.ref f34) = true)
    {oc35 kV35 dc35 pm35 cd35 ct35 : Value} {od35 an35 : Option Addr} {sl35 : Array (Option Value)}
    (a35 : PySem.W.nsIn K mainGlobals "_law_joined" = some (some (.ref f35)))
    (l35 : K.lookup f35 = some ⟨oc35, od35, .func (PySem.W.fnOf "_law_joined" "_law_joined" (defArgs s_law_joined) (defBody s_law_joined) (defScope s_law_joined) .none kV35 dc35 pm35 an35 cd35 ct35), sl35⟩) (c35 : PySem.W.codeIn K cd35 "_law_joined" = true) (k35 : PySem.W.keepIn K (.ref f35) = true)
    {oc36 kV36 dc36 pm36 cd36 ct36 : Value} {od36 an36 : Option Addr} {sl36 : Array (Option Value)}
    (a36 : PySem.W.nsIn K mainGlobals "_law_values" = some (some (.ref f36)))
    (l36 : K.lookup f36 = some ⟨oc36, od36, .func (PySem.W.fnOf "_law_values" "_law_values" (defArgs s_law_values) (defBody s_law_values) (defScope s_law_values) .none kV36 dc36 pm36 an36 cd36 ct36), sl36⟩) (c36 : PySem.W.codeIn K cd36 "_law_values" = true) (k36 : PySem.W.keepIn K (.ref f36) = true)
    {oc37 kV37 dc37 pm37 cd37 ct37 : Value} {od37 an37 : Option Addr} {sl37 : Array (Option Value)}
    (a37 : PySem.W.nsIn K mainGlobals "law" = some (some (.ref f37)))
    (l37 : K.lookup f37 = some ⟨oc37, od37, .func (PySem.W.fnOf "law" "law" (defArgs s_law) (defBody s_law) (defScope s_law) .none kV37 dc37 pm37 an37 cd37 ct37), sl37⟩) (c37 : PySem.W.codeIn K cd37 "law" = true) (k37 : PySem.W.keepIn K (.ref f37) = true)
    (z_bool : PySem.W.nsIn K mainGlobals "bool" = some none)
    (z_int : PySem.W.nsIn K mainGlobals "int" = some none)
    (z_isinstance : PySem.W.nsIn K mainGlobals "isinstance" = some none)
    (z_len : PySem.W.nsIn K mainGlobals "len" = some none)
    (z_list : PySem.W.nsIn K mainGlobals "list" = some none)
    (z_max : PySem.W.nsIn K mainGlobals "max" = some none)
    (z_range : PySem.W.nsIn K mainGlobals "range" = some none)
    (z_str : PySem.W.nsIn K mainGlobals "str" = some none)
    (z_tuple : PySem.W.nsIn K mainGlobals "tuple" = some none)
    {t_DEEPEST : Tok} (g_DEEPEST : PySem.W.nsIn K mainGlobals "DEEPEST" = some (some (.int 4 t_DEEPEST))) :
    ∃ fd : FuncData, (∀ (s : Shared) (v : Value), BindsTo s fd ⟨[v], []⟩ [("_law_script", v)]) ∧ ∀ base : Heap, K.In base → base.Ns mainGlobals mg → FnOk l.prog w K mg base CX0 16 fa fd ["_law_script"] (spOf K lawSp) := by
  have e := hfa.symm.trans (PySem.W.mg_of X G a37)
  cases e
  have F0 := fun_mk (st := s_wall) l0 c0 k0
  have b0 := F0.binds (ps := ["k"]) fun _ _ _ _ _ _ us hl => match us, hl with | [_], _ => rfl
  have F1 := fun_mk (st := s_TextError_init) l1 c1 k1
  have b1 := F1.binds (ps := ["self", "line", "token"]) fun _ _ _ _ _ _ us hl => match us, hl with | [_, _, _], _ => rfl
  have F2 := fun_mk (st := s_token_begin) l2 c2 k2
  have b2 := F2.binds (ps := ["line", "place", "found"]) fun _ _ _ _ _ _ us hl => match us, hl with | [_, _, _], _ => rfl
  have F3 := fun_mk (st := s_token_end) l3 c3 k3
  have b3 := F3.binds (ps := ["line", "begin"]) fun _ _ _ _ _ _ us hl => match us, hl with | [_, _], _ => rfl
  have F4 := fun_mk (st := s_tokens_of) l4 c4 k4
  have b4 := F4.binds (ps := ["line", "number"]) fun _ _ _ _ _ _ us hl => match us, hl with | [_, _], _ => rfl
  have F5 := fun_mk (st := s_is_digits) l5 c5 k5
  have b5 := F5.binds (ps := ["token"]) fun _ _ _ _ _ _ us hl => match us, hl with | [_], _ => rfl
  have F6 := fun_mk (st := s_whole_in) l6 c6 k6
  have b6 := F6.binds (ps := ["token", "most"]) fun _ _ _ _ _ _ us hl => match us, hl with | [_, _], _ => rfl
  have F7 := fun_mk (st := s_number_in) l7 c7 k7
  have b7 := F7.binds (ps := ["token"]) fun _ _ _ _ _ _ us hl => match us, hl with | [_], _ => rfl
  have F8 := fun_mk (st := s_is_name) l8 c8 k8
  have b8 := F8.binds (ps := ["token"]) fun _ _ _ _ _ _ us hl => match us, hl with | [_], _ => rfl
  have F9 := fun_mk (st := s_Line_init) l9 c9 k9
  have b9 := F9.binds (ps := ["self", "text", "number"]) fun _ _ _ _ _ _ us hl => match us, hl with | [_, _, _], _ => rfl
  have F10 := fun_mk (st := s_Line_here) l10 c10 k10
  have b10 := F10.binds (ps := ["self"]) fun _ _ _ _ _ _ us hl => match us, hl with | [_], _ => rfl
  have F11 := fun_mk (st := s_Line_need) l11 c11 k11
  have b11 := F11.binds (ps := ["self", "good"]) fun _ _ _ _ _ _ us hl => match us, hl with | [_, _], _ => rfl
  have F12 := fun_mk (st := s_Line_take) l12 c12 k12
  have b12 := F12.binds (ps := ["self", "good"]) fun _ _ _ _ _ _ us hl => match us, hl with | [_, _], _ => rfl
  have F13 := fun_mk (st := s_Line_mark) l13 c13 k13
  have b13 := F13.binds (ps := ["self", "sign"]) fun _ _ _ _ _ _ us hl => match us, hl with | [_, _], _ => rfl
  have F14 := fun_mk (st := s_Line_whole) l14 c14 k14
  have b14 := F14.binds (ps := ["self", "most"]) fun _ _ _ _ _ _ us hl => match us, hl with | [_, _], _ => rfl
  have F15 := fun_mk (st := s_Line_below) l15 c15 k15
  have b15 := F15.binds (ps := ["self", "most", "many"]) fun _ _ _ _ _ _ us hl => match us, hl with | [_, _, _], _ => rfl
  have F16 := fun_mk (st := s_Line_name) l16 c16 k16
  have b16 := F16.binds (ps := ["self"]) fun _ _ _ _ _ _ us hl => match us, hl with | [_], _ => rfl
  have F17 := fun_mk (st := s_Line_finish) l17 c17 k17
  have b17 := F17.binds (ps := ["self"]) fun _ _ _ _ _ _ us hl => match us, hl with | [_], _ => rfl
  have F18 := fun_mk (st := s_value_text) l18 c18 k18
  have b18 := F18.binds (ps := ["value"]) fun _ _ _ _ _ _ us hl => match us, hl with | [_], _ => rfl
  have F19 := fun_mk (st := s_value_in) l19 c19 k19
  have b19 := F19.binds (ps := ["line", "depth"]) fun _ _ _ _ _ _ us hl => match us, hl with | [_, _], _ => rfl
  have F20 := fun_mk (st := s_last_value_in) l20 c20 k20
  have b20 := F20.binds (ps := ["line"]) fun _ _ _ _ _ _ us hl => match us, hl with | [_], _ => rfl
  have F21 := fun_mk (st := s_read_value) l21 c21 k21
  have b21 := F21.binds (ps := ["text"]) fun _ _ _ _ _ _ us hl => match us, hl with | [_], _ => rfl
  have F22 := fun_mk (st := s_is_value_text) l22 c22 k22
  have b22 := F22.binds (ps := ["text"]) fun _ _ _ _ _ _ us hl => match us, hl with | [_], _ => rfl
  have F23 := fun_mk (st := s_law_row) l23 c23 k23
  have b23 := F23.binds (ps := ["_law_script", "_law_k", "_law_count"]) fun _ _ _ _ _ _ us hl => match us, hl with | [_, _, _], _ => rfl
  have F24 := fun_mk (st := s_law_is_integer) l24 c24 k24
  have b24 := F24.binds (ps := ["_law_actual"]) fun _ _ _ _ _ _ us hl => match us, hl with | [_], _ => rfl
  have F25 := fun_mk (st := s_law_scan) l25 c25 k25
  have b25 := F25.binds (ps := ["_law_line_here"]) fun _ _ _ _ _ _ us hl => match us, hl with | [_], _ => rfl
  have F26 := fun_mk (st := s_law_word) l26 c26 k26
  have b26 := F26.binds (ps := ["_law_row_here"]) fun _ _ _ _ _ _ us hl => match us, hl with | [_], _ => rfl
  have F27 := fun_mk (st := s_law_line) l27 c27 k27
  have b27 := F27.binds (ps := ["_law_script"]) fun _ _ _ _ _ _ us hl => match us, hl with | [_], _ => rfl
  have F28 := fun_mk (st := s_law_lines) l28 c28 k28
  have b28 := F28.binds (ps := ["_law_script"]) fun _ _ _ _ _ _ us hl => match us, hl with | [_], _ => rfl
  have F29 := fun_mk (st := s_law_number) l29 c29 k29
  have b29 := F29.binds (ps := ["_law_token"]) fun _ _ _ _ _ _ us hl => match us, hl with | [_], _ => rfl
  have F30 := fun_mk (st := s_law_words) l30 c30 k30
  have b30 := F30.binds (ps := ["_law_script"]) fun _ _ _ _ _ _ us hl => match us, hl with | [_], _ => rfl
  have F31 := fun_mk (st := s_law_value) l31 c31 k31
  have b31 := F31.binds (ps := ["_law_script", "_law_k"]) fun _ _ _ _ _ _ us hl => match us, hl with | [_, _], _ => rfl
  have F32 := fun_mk (st := s_law_text) l32 c32 k32
  have b32 := F32.binds (ps := ["_law_value_here"]) fun _ _ _ _ _ _ us hl => match us, hl with | [_], _ => rfl
  have F33 := fun_mk (st := s_law_equal) l33 c33 k33
  have b33 := F33.binds (ps := ["_law_told", "_law_due"]) fun _ _ _ _ _ _ us hl => match us, hl with | [_, _], _ => rfl
  have F34 := fun_mk (st := s_law_fault) l34 c34 k34
  have b34 := F34.binds (ps := ["_law_tokens"]) fun _ _ _ _ _ _ us hl => match us, hl with | [_], _ => rfl
  have F35 := fun_mk (st := s_law_joined) l35 c35 k35
  have b35 := F35.binds (ps := ["_law_tokens"]) fun _ _ _ _ _ _ us hl => match us, hl with | [_], _ => rfl
  have F36 := fun_mk (st := s_law_values) l36 c36 k36
  have b36 := F36.binds (ps := ["_law_script"]) fun _ _ _ _ _ _ us hl => match us, hl with | [_], _ => rfl
  have F37 := fun_mk (st := s_law) l37 c37 k37
  have b37 := F37.binds (ps := ["_law_script"]) fun _ _ _ _ _ _ us hl => match us, hl with | [_], _ => rfl
  have cat_TextError : ∀ C b, (C, b) ∈ [(c_TextError, true)] → PySem.W.exmOne K (.ref C) (.ref c_TextError) = some b := by
    intro C b h
    simp only [List.mem_cons, List.not_mem_nil, or_false, Prod.mk.injEq] at h
    rcases h with ⟨rfl, rfl⟩
    · exact PySem.W.exm_ref eC_TextError hC_TextError tC_TextError s_TextError_TextError
  exact ⟨_, fun s v => .of_eq rfl, fun base _ _ => ok_law (T := (⟨_, _, F0, b0, PySem.W.mg_of X G a0, _, _, F1, b1, t1, _, _, F2, b2, PySem.W.mg_of X G a2, _, _, F3, b3, PySem.W.mg_of X G a3, _, _, F4, b4, PySem.W.mg_of X G a4, _, _, F5, b5, PySem.W.mg_of X G a5, _, _, F6, b6, PySem.W.mg_of X G a6, _, _, F7, b7, PySem.W.mg_of X G a7, _, _, F8, b8, PySem.W.mg_of X G a8, _, _, F9, b9, ⟨mk_Line, a9, i9, kc_Line⟩, _, _, F10, b10, ⟨a10, i10, k10⟩, _, _, F11, b11, ⟨a11, i11, k11⟩, _, _, F12, b12, ⟨a12, i12, k12⟩, _, _, F13, b13, ⟨a13, i13, k13⟩, _, _, F14, b14, ⟨a14, i14, k14⟩, _, _, F15, b15, ⟨a15, i15, k15⟩, _, _, F16, b16, ⟨a16, i16, k16⟩, _, _, F17, b17, ⟨a17, i17, k17⟩, _, _, F18, b18, PySem.W.mg_of X G a18, _, _, F19, b19, PySem.W.mg_of X G a19, _, _, F20, b20, PySem.W.mg_of X G a20, _, _, F21, b21, PySem.W.mg_of X G a21, _, _, F22, b22, PySem.W.mg_of X G a22, _, _, F23, b23, PySem.W.mg_of X G a23, _, _, F24, b24, PySem.W.mg_of X G a24, _, _, F25, b25, PySem.W.mg_of X G a25, _, _, F26, b26, PySem.W.mg_of X G a26, _, _, F27, b27, PySem.W.mg_of X G a27, _, _, F28, b28, PySem.W.mg_of X G a28, _, _, F29, b29, PySem.W.mg_of X G a29, _, _, F30, b30, PySem.W.mg_of X G a30, _, _, F31, b31, PySem.W.mg_of X G a31, _, _, F32, b32, PySem.W.mg_of X G a32, _, _, F33, b33, PySem.W.mg_of X G a33, _, _, F34, b34, PySem.W.mg_of X G a34, _, _, F35, b35, PySem.W.mg_of X G a35, _, _, F36, b36, PySem.W.mg_of X G a36, _, _, F37, b37, PySem.W.mg_of X G a37, PySem.W.mg_of X G m_DeedsError, PySem.W.mg_of X G m_TextError, ⟨⟨nm_TextError, q_TextError, N_TextError, bs_TextError, _, sn_TextError, sub_TextError, ab_TextError, col_TextError, dd_TextError, k0_TextError, k1_TextError, k2_TextError, k3_TextError, k5_TextError, xL_TextError, rfl⟩, sa_TextError, eC_TextError, tC_TextError, kc_TextError⟩, a1, ⟨ga_TextError, gg_TextError, eC_TextError, hC_TextError⟩, n_TextError_line, n_TextError_token, PySem.W.mg_of X G m_Line, ⟨pg_Line, hd_Line, po_Line, sa_Line⟩, n_Line_number, n_Line_place, n_Line_tokens, cat_TextError, ⟨ga_TextError, gg_TextError, eC_TextError, hC_TextError, xa_TextError, xn_TextError, xt_TextError, xm_TextError⟩, kit_true hC_DeedsError tC_DeedsError s_TextError_DeedsError, PySem.W.mg_none_of X G z_bool, PySem.W.mg_none_of X G z_int, PySem.W.mg_none_of X G z_isinstance, PySem.W.mg_none_of X G z_len, PySem.W.mg_none_of X G z_list, PySem.W.mg_none_of X G z_max, PySem.W.mg_none_of X G z_range, PySem.W.mg_none_of X G z_str, PySem.W.mg_none_of X G z_tuple, ⟨t_DEEPEST, PySem.W.mg_of X G g_DEEPEST⟩⟩ : Txt K mg ⟨c_DeedsError, c_TextError, c_Line⟩))⟩
end My
open PySem PySem.W PyProof.Rows
set_option maxHeartbeats 0 in
theorem PySem.Challenge.cw_besideandthrough_k89_tokens_and_values_holds : PySem.Challenge.rw_besideandthrough_k89_tokens_and_values.Holds := by
  w_on; o_law; k_head; (case hw => w_witness2)
  k_fill
  refine L2.walk_of (l := PySem.Challenge.rw_besideandthrough_k89_tokens_and_values) (n := 63) (k := 16) (x := "_law_script") (CX := fun _ => L2.CX0) (sp := fun w => DL.spOf _ DL.lawSp) rfl (by decide) rfl ⟨rfl, by decide, by decide⟩ (fun w h Y => PySem.W.kIn_of Y) ?F (fun _ _ a ns hl _ hS => DL.law_start hl hS) (fun _ _ _ _ _ h => h)
  case F =>
    intro w mg fa h KX G hmg
    refine' My.all_mk KX G hmg ?m_DeedsError ?kc_DeedsError ?m_TextError ?kc_TextError ?xL_TextError ?sa_TextError ?ga_TextError ?gg_TextError ?eC_TextError ?tC_TextError ?hC_TextError ?n_TextError_line ?n_TextError_token ?m_Line ?kc_Line ?pg_Line ?hd_Line ?po_Line ?sa_Line ?n_Line_number ?n_Line_place ?n_Line_tokens ?s_TextError_TextError ?xa_TextError ?xm_TextError ?xn_TextError ?xt_TextError ?tC_DeedsError ?hC_DeedsError ?s_TextError_DeedsError ?a0 ?l0 ?c0 ?k0 ?a1 ?l1 ?c1 ?k1 ?t1 ?a2 ?l2 ?c2 ?k2 ?a3 ?l3 ?c3 ?k3 ?a4 ?l4 ?c4 ?k4 ?a5 ?l5 ?c5 ?k5 ?a6 ?l6 ?c6 ?k6 ?a7 ?l7 ?c7 ?k7 ?a8 ?l8 ?c8 ?k8 ?a9 ?l9 ?c9 ?k9 ?i9 ?mk_Line ?a10 ?l10 ?c10 ?k10 ?i10 ?a11 ?l11 ?c11 ?k11 ?i11 ?a12 ?l12 ?c12 ?k12 ?i12 ?a13 ?l13 ?c13 ?k13 ?i13 ?a14 ?l14 ?c14 ?k14 ?i14 ?a15 ?l15 ?c15 ?k15 ?i15 ?a16 ?l16 ?c16 ?k16 ?i16 ?a17 ?l17 ?c17 ?k17 ?i17 ?a18 ?l18 ?c18 ?k18 ?a19 ?l19 ?c19 ?k19 ?a20 ?l20 ?c20 ?k20 ?a21 ?l21 ?c21 ?k21 ?a22 ?l22 ?c22 ?k22 ?a23 ?l23 ?c23 ?k23 ?a24 ?l24 ?c24 ?k24 ?a25 ?l25 ?c25 ?k25 ?a26 ?l26 ?c26 ?k26 ?a27 ?l27 ?c27 ?k27 ?a28 ?l28 ?c28 ?k28 ?a29 ?l29 ?c29 ?k29 ?a30 ?l30 ?c30 ?k30 ?a31 ?l31 ?c31 ?k31 ?a32 ?l32 ?c32 ?k32 ?a33 ?l33 ?c33 ?k33 ?a34 ?l34 ?c34 ?k34 ?a35 ?l35 ?c35 ?k35 ?a36 ?l36 ?c36 ?k36 ?a37 ?l37 ?c37 ?k37 ?z_bool ?z_int ?z_isinstance ?z_len ?z_list ?z_max ?z_range ?z_str ?z_tuple ?g_DEEPEST
    (case m_DeedsError => k_is); (case kc_DeedsError => k_is); (case m_TextError => k_is); (case kc_TextError => k_is); (case xL_TextError => k_is); (case sa_TextError => k_is); (case ga_TextError => k_is); (case gg_TextError => k_is); (case eC_TextError => k_is); (case tC_TextError => k_is); (case hC_TextError => k_is); (case n_TextError_line => k_is); (case n_TextError_token => k_is); (case m_Line => k_is); (case kc_Line => k_is); (case pg_Line => k_is); (case hd_Line => k_is); (case po_Line => k_is); (case sa_Line => k_is); (case n_Line_number => k_is); (case n_Line_place => k_is); (case n_Line_tokens => k_is); (case s_TextError_TextError => first | rfl | k_is); (case xa_TextError => k_is); (case xm_TextError => k_is); (case xn_TextError => k_is); (case xt_TextError => k_is); (case tC_DeedsError => k_is); (case hC_DeedsError => k_is); (case s_TextError_DeedsError => first | rfl | k_is); (case a0 => k_is); (case l0 => k_is); (case c0 => k_is); (case k0 => k_is); (case a1 => k_is); (case l1 => k_is); (case c1 => k_is); (case k1 => k_is); (case t1 => k_is); (case a2 => k_is); (case l2 => k_is); (case c2 => k_is); (case k2 => k_is); (case a3 => k_is); (case l3 => k_is); (case c3 => k_is); (case k3 => k_is); (case a4 => k_is); (case l4 => k_is); (case c4 => k_is); (case k4 => k_is); (case a5 => k_is); (case l5 => k_is); (case c5 => k_is); (case k5 => k_is); (case a6 => k_is); (case l6 => k_is); (case c6 => k_is); (case k6 => k_is); (case a7 => k_is); (case l7 => k_is); (case c7 => k_is); (case k7 => k_is); (case a8 => k_is); (case l8 => k_is); (case c8 => k_is); (case k8 => k_is); (case a9 => k_is); (case l9 => k_is); (case c9 => k_is); (case k9 => k_is); (case i9 => k_is); (case mk_Line => k_is); (case a10 => k_is); (case l10 => k_is); (case c10 => k_is); (case k10 => k_is); (case i10 => k_is); (case a11 => k_is); (case l11 => k_is); (case c11 => k_is); (case k11 => k_is); (case i11 => k_is); (case a12 => k_is); (case l12 => k_is); (case c12 => k_is); (case k12 => k_is); (case i12 => k_is); (case a13 => k_is); (case l13 => k_is); (case c13 => k_is); (case k13 => k_is); (case i13 => k_is); (case a14 => k_is); (case l14 => k_is); (case c14 => k_is); (case k14 => k_is); (case i14 => k_is); (case a15 => k_is); (case l15 => k_is); (case c15 => k_is); (case k15 => k_is); (case i15 => k_is); (case a16 => k_is); (case l16 => k_is); (case c16 => k_is); (case k16 => k_is); (case i16 => k_is); (case a17 => k_is); (case l17 => k_is); (case c17 => k_is); (case k17 => k_is); (case i17 => k_is); (case a18 => k_is); (case l18 => k_is); (case c18 => k_is); (case k18 => k_is); (case a19 => k_is); (case l19 => k_is); (case c19 => k_is); (case k19 => k_is); (case a20 => k_is); (case l20 => k_is); (case c20 => k_is); (case k20 => k_is); (case a21 => k_is); (case l21 => k_is); (case c21 => k_is); (case k21 => k_is); (case a22 => k_is); (case l22 => k_is); (case c22 => k_is); (case k22 => k_is); (case a23 => k_is); (case l23 => k_is); (case c23 => k_is); (case k23 => k_is); (case a24 => k_is); (case l24 => k_is); (case c24 => k_is); (case k24 => k_is); (case a25 => k_is); (case l25 => k_is); (case c25 => k_is); (case k25 => k_is); (case a26 => k_is); (case l26 => k_is); (case c26 => k_is); (case k26 => k_is); (case a27 => k_is); (case l27 => k_is); (case c27 => k_is); (case k27 => k_is); (case a28 => k_is); (case l28 => k_is); (case c28 => k_is); (case k28 => k_is); (case a29 => k_is); (case l29 => k_is); (case c29 => k_is); (case k29 => k_is); (case a30 => k_is); (case l30 => k_is); (case c30 => k_is); (case k30 => k_is); (case a31 => k_is); (case l31 => k_is); (case c31 => k_is); (case k31 => k_is); (case a32 => k_is); (case l32 => k_is); (case c32 => k_is); (case k32 => k_is); (case a33 => k_is); (case l33 => k_is); (case c33 => k_is); (case k33 => k_is); (case a34 => k_is); (case l34 => k_is); (case c34 => k_is); (case k34 => k_is); (case a35 => k_is); (case l35 => k_is); (case c35 => k_is); (case k35 => k_is); (case a36 => k_is); (case l36 => k_is); (case c36 => k_is); (case k36 => k_is); (case a37 => k_is); (case l37 => k_is); (case c37 => k_is); (case k37 => k_is); (case z_bool => k_is); (case z_int => k_is); (case z_isinstance => k_is); (case z_len => k_is); (case z_list => k_is); (case z_max => k_is); (case z_range => k_is); (case z_str => k_is); (case z_tuple => k_is); (case g_DEEPEST => k_is)
