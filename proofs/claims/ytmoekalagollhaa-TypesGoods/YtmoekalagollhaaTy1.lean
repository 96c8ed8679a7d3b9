/-
  Tables of types: what they are, and how they lie in memory.
-/
import Derived.Test.YtmoekalagollhaaCst
import Derived.Test.YtmoekalagollhaaCx9
namespace Go.Proofs.Ytmoekalagollhaa.Ty
open Go.RowKit hiding Hid
open Go.Proofs.Ytmoekalagollhaa.Tx Go.Proofs.Ytmoekalagollhaa.Lx Go.Proofs.Ytmoekalagollhaa.Tr
set_option linter.unusedVariables false
set_option linter.unusedSimpArgs false

structure Fl where
  n : Txt
  x : Bool
  t : Int
structure Pm where
  v : Bool
  t : Int
/- A type. -/
structure Tt where
  fm : Int
  md : Txt
  nm : Txt
  ln : Int
  el : Int
  ba : Int
  fl : List Fl
  pm : List Pm
  rs : Int
  ds : Int
/- A type with the places of its lists. -/
structure La where
  x : Tt
  fo : Option Addr
  fc : Nat
  po : Option Addr
  pc : Nat
def flC (f : Fl) : List Value := [.string (bs f.n), .bool f.x, .int .i64 f.t]
def pmC (p : Pm) : List Value := [.bool p.v, .int .i64 p.t]
def laC (a : La) : List Value := [.int .i64 a.x.fm, .string (bs a.x.md), .string (bs a.x.nm), .int .i64 a.x.ln, .int .i64 a.x.el, .int .i64 a.x.ba, .slice a.fo a.x.fl.length a.fc, .slice a.po a.x.pm.length a.pc, .int .i64 a.x.rs, .int .i64 a.x.ds]
theorem flC_len (f : Fl) : (flC f).length = 3 := rfl
theorem pmC_len (p : Pm) : (pmC p).length = 2 := rfl
theorem laC_len (a : La) : (laC a).length = 10 := rfl
/- Cells that lie at an address; things of so many cells each. -/
def Cls (w : World) (o : Option Addr) (xs : List Value) : Prop := ∀ j u, xs[j]? = some u → ∃ a, o = some a ∧ w.cell? (a.add j) = some u
theorem Cls.kept {w w' : World} {o : Option Addr} {xs : List Value} (h : Cls w o xs) (hg : w.grownBy w' none) : Cls w' o xs := fun j u hu => by
  obtain ⟨a, e, hc⟩ := h j u hu
  exact ⟨a, e, hg.cell hc (by simp)⟩
theorem add_add (a : Addr) (x y : Nat) : (a.add x).add y = a.add (x + y) := by
  unfold Addr.add
  by_cases hx : x = 0 <;> by_cases hy : y = 0 <;> simp [hx, hy, Nat.add_assoc]
theorem flat_at {α : Type} {enc : α → List Value} {k : Nat} (hk : ∀ x, (enc x).length = k) : ∀ (l : List α) (i : Nat) (x : α), l[i]? = some x → ∀ j u, (enc x)[j]? = some u → (l.flatMap enc)[i * k + j]? = some u
  | [], i, x, h => by simp at h
  | y :: l, 0, x, h => fun j u hu => by
    simp at h
    subst h
    have := (List.getElem?_eq_some_iff.1 hu).1
    rw [List.flatMap_cons, List.getElem?_append_left (by omega)]
    simpa using hu
  | y :: l, i + 1, x, h => fun j u hu => by
    simp at h
    have ih := flat_at hk l i x h j u hu
    rw [List.flatMap_cons, List.getElem?_append_right (by rw [hk, Nat.succ_mul]; omega), hk, show (i + 1) * k + j - k = i * k + j by rw [Nat.succ_mul]; omega]
    exact ih
theorem Cls.el {α : Type} {enc : α → List Value} {k : Nat} (hk : ∀ x, (enc x).length = k) (h0 : 0 < k) {w : World} {o : Option Addr} {l : List α} (h : Cls w o (l.flatMap enc)) {i : Nat} {x : α} (hx : l[i]? = some x) : ∃ a, o = some a ∧ ∀ j u, (enc x)[j]? = some u → w.cell? ((a.add (i * k)).add j) = some u := by
  have h1 := fun j u hu => h (i * k + j) u (flat_at hk l i x hx j u hu)
  obtain ⟨u0, hu0⟩ : ∃ u, (enc x)[0]? = some u := ⟨(enc x)[0]'(by rw [hk]; exact h0), List.getElem?_eq_getElem _⟩
  obtain ⟨a, e, _⟩ := h1 0 u0 hu0
  refine ⟨a, e, fun j u hu => ?_⟩
  obtain ⟨b, e', hc⟩ := h1 j u hu
  rw [e] at e'
  cases e'
  rw [add_add]
  exact hc
/- Sizes that every argument keeps to. -/
def lim : Nat := 9223372036854775807
structure Sm (x : Tt) : Prop where
  md : x.md.length ≤ lim
  nm : x.nm.length ≤ lim
  fl : x.fl.length ≤ 1000000
  pm : x.pm.length ≤ 1000000
  fn : ∀ f ∈ x.fl, f.n.length ≤ lim
/- A type's lists lie where it says. -/
structure Lp (w : World) (a : La) : Prop where
  fl : Cls w a.fo (a.x.fl.flatMap flC)
  pm : Cls w a.po (a.x.pm.flatMap pmC)
  sm : Sm a.x
theorem Lp.kept {w w' : World} {a : La} (h : Lp w a) (hg : w.grownBy w' none) : Lp w' a := ⟨h.fl.kept hg, h.pm.kept hg, h.sm⟩
/- A table lies at an address. -/
structure TabL (w : World) (o : Option Addr) (l : List La) : Prop where
  row : Cls w o (l.flatMap laC)
  parts : ∀ a ∈ l, Lp w a
def Tab (w : World) (o : Option Addr) (T : List Tt) : Prop := T.length ≤ 1000000 ∧ ∃ l : List La, l.map La.x = T ∧ TabL w o l
theorem Tab.kept {w w' : World} {o : Option Addr} {T : List Tt} (h : Tab w o T) (hg : w.grownBy w' none) : Tab w' o T := by
  obtain ⟨hn, l, e, hr, hp⟩ := h
  exact ⟨hn, l, e, hr.kept hg, fun a ha => (hp a ha).kept hg⟩
theorem Tab.at {w : World} {o : Option Addr} {T : List Tt} (h : Tab w o T) {i : Nat} {x : Tt} (hx : T[i]? = some x) : ∃ ad la, o = some ad ∧ la.x = x ∧ (∀ j u, (laC la)[j]? = some u → w.cell? ((ad.add (i * 10)).add j) = some u) ∧ Lp w la := by
  obtain ⟨hn, l, rfl, hr, hp⟩ := h
  rw [List.getElem?_map] at hx
  cases hl : l[i]? with
  | none => simp [hl] at hx
  | some la =>
    simp only [hl, Option.map_some, Option.some.injEq] at hx
    obtain ⟨ad, e, hc⟩ := hr.el laC_len (by decide) hl
    exact ⟨ad, la, e, hx, hc, hp la (List.mem_of_getElem? hl)⟩
theorem ten_of {w : World} {A : Addr} {a : La} (h : ∀ j u, (laC a)[j]? = some u → w.cell? (A.add j) = some u) :
    w.cell? A = some (.int .i64 a.x.fm) ∧ w.cell? ⟨A.block, A.off + 1, none⟩ = some (.string (bs a.x.md)) ∧ w.cell? ⟨A.block, A.off + 2, none⟩ = some (.string (bs a.x.nm)) ∧ w.cell? ⟨A.block, A.off + 3, none⟩ = some (.int .i64 a.x.ln) ∧ w.cell? ⟨A.block, A.off + 4, none⟩ = some (.int .i64 a.x.el) ∧ w.cell? ⟨A.block, A.off + 5, none⟩ = some (.int .i64 a.x.ba) ∧
    w.cell? ⟨A.block, A.off + 6, none⟩ = some (.slice a.fo a.x.fl.length a.fc) ∧ w.cell? ⟨A.block, A.off + 7, none⟩ = some (.slice a.po a.x.pm.length a.pc) ∧ w.cell? ⟨A.block, A.off + 8, none⟩ = some (.int .i64 a.x.rs) ∧ w.cell? ⟨A.block, A.off + 9, none⟩ = some (.int .i64 a.x.ds) := by
  have h0 := h 0 _ rfl
  have h1 := h 1 _ rfl
  have h2 := h 2 _ rfl
  have h3 := h 3 _ rfl
  have h4 := h 4 _ rfl
  have h5 := h 5 _ rfl
  have h6 := h 6 _ rfl
  have h7 := h 7 _ rfl
  have h8 := h 8 _ rfl
  have h9 := h 9 _ rfl
  rw [Addr.add_zero'] at h0
  rw [Addr.add_succ'] at h1 h2 h3 h4 h5 h6 h7 h8 h9
  simp only [Nat.zero_add, Nat.reduceAdd] at h1 h2 h3 h4 h5 h6 h7 h8 h9
  exact ⟨h0, h1, h2, h3, h4, h5, h6, h7, h8, h9⟩
/- The form at a place; -1 outside. -/
def inT (n : Nat) (a : Int) : Bool := decide (0 ≤ a) && decide (a < n)
def fmA (T : List Tt) (a : Int) : Int := if inT T.length a = true then match T[a.toNat]? with
  | some x => x.fm
  | none => -1 else -1
theorem fmA_at {T : List Tt} {i : Nat} {x : Tt} (h : T[i]? = some x) : fmA T (i : Int) = x.fm := by
  have hi := (List.getElem?_eq_some_iff.1 h).1
  unfold fmA inT
  rw [if_pos (by simp; omega), Int.toNat_natCast, h]
theorem fmA_out {T : List Tt} {a : Int} (h : inT T.length a = false) : fmA T a = -1 := by unfold fmA; rw [if_neg (by rw [h]; decide)]
def plainF (f : Int) : Bool := f == 1 || f == 2 || f == 3 || f == 4 || f == 10 || f == 11
def elemF (f : Int) : Bool := f == 7 || f == 9 || plainF f
def openF (f : Int) : Bool := f == 8 || elemF f
def baseA (T : List Tt) (a : Int) : Bool := a == 0 || fmA T a == 9
def resA (T : List Tt) (a : Int) : Bool := a == 0 || plainF (fmA T a)
end Go.Proofs.Ytmoekalagollhaa.Ty
