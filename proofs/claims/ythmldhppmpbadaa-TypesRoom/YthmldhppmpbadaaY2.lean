/-
  Tables of types: what they are, and how they lie in memory.
  Package types: places and forms.
  Letters, digits, names: package types, and the document's own (package spinetref09).
  Package types: a type's names and parts.
-/
import Derived.Test.YthmldhppmpbadaaY1
namespace Go.Proofs.Ythmldhppmpbadaa.Ty
open Go.RowKit hiding Hid
open Go.Proofs.Ythmldhppmpbadaa.Tx Go.Proofs.Ythmldhppmpbadaa.Lx Go.Proofs.Ythmldhppmpbadaa.Tr
set_option linter.unusedVariables false
set_option linter.unusedSimpArgs false

structure Fl where
  n : Txt
  x : Bool
  t : Int
structure Pm where
  v : Bool
  t : Int
/- A type. -/
structure Tt where
  fm : Int
  md : Txt
  nm : Txt
  ln : Int
  el : Int
  ba : Int
  fl : List Fl
  pm : List Pm
  rs : Int
  ds : Int
/- A type with the places of its lists. -/
structure La where
  x : Tt
  fo : Option Addr
  fc : Nat
  po : Option Addr
  pc : Nat
def flC (f : Fl) : List Value := [.string (bs f.n), .bool f.x, .int .i64 f.t]
def pmC (p : Pm) : List Value := [.bool p.v, .int .i64 p.t]
def laC (a : La) : List Value := [.int .i64 a.x.fm, .string (bs a.x.md), .string (bs a.x.nm), .int .i64 a.x.ln, .int .i64 a.x.el, .int .i64 a.x.ba, .slice a.fo a.x.fl.length a.fc, .slice a.po a.x.pm.length a.pc, .int .i64 a.x.rs, .int .i64 a.x.ds]
theorem flC_len (f : Fl) : (flC f).length = 3 := rfl
theorem pmC_len (p : Pm) : (pmC p).length = 2 := rfl
theorem laC_len (a : La) : (laC a).length = 10 := rfl
/- Cells that lie at an address; things of so many cells each. -/
def Cls (w : World) (o : Option Addr) (xs : List Value) : Prop := ∀ j u, xs[j]? = some u → ∃ a, o = some a ∧ w.cell? (a.add j) = some u
theorem Cls.kept {w w' : World} {o : Option Addr} {xs : List Value} (h : Cls w o xs) (hg : w.grownBy w' none) : Cls w' o xs := fun j u hu => by
  obtain ⟨a, e, hc⟩ := h j u hu
  exact ⟨a, e, hg.cell hc (by simp)⟩
theorem add_add (a : Addr) (x y : Nat) : (a.add x).add y = a.add (x + y) := by
  unfold Addr.add
  by_cases hx : x = 0 <;> by_cases hy : y = 0 <;> simp [hx, hy, Nat.add_assoc]
theorem flat_at {α : Type} {enc : α → List Value} {k : Nat} (hk : ∀ x, (enc x).length = k) : ∀ (l : List α) (i : Nat) (x : α), l[i]? = some x → ∀ j u, (enc x)[j]? = some u → (l.flatMap enc)[i * k + j]? = some u
  | [], i, x, h => by simp at h
  | y :: l, 0, x, h => fun j u hu => by
    simp at h
    subst h
    have := (List.getElem?_eq_some_iff.1 hu).1
    rw [List.flatMap_cons, List.getElem?_append_left (by omega)]
    simpa using hu
  | y :: l, i + 1, x, h => fun j u hu => by
    simp at h
    have ih := flat_at hk l i x h j u hu
    rw [List.flatMap_cons, List.getElem?_append_right (by rw [hk, Nat.succ_mul]; omega), hk, show (i + 1) * k + j - k = i * k + j by rw [Nat.succ_mul]; omega]
    exact ih
theorem Cls.el {α : Type} {enc : α → List Value} {k : Nat} (hk : ∀ x, (enc x).length = k) (h0 : 0 < k) {w : World} {o : Option Addr} {l : List α} (h : Cls w o (l.flatMap enc)) {i : Nat} {x : α} (hx : l[i]? = some x) : ∃ a, o = some a ∧ ∀ j u, (enc x)[j]? = some u → w.cell? ((a.add (i * k)).add j) = some u := by
  have h1 := fun j u hu => h (i * k + j) u (flat_at hk l i x hx j u hu)
  obtain ⟨u0, hu0⟩ : ∃ u, (enc x)[0]? = some u := ⟨(enc x)[0]'(by rw [hk]; exact h0), List.getElem?_eq_getElem _⟩
  obtain ⟨a, e, _⟩ := h1 0 u0 hu0
  refine ⟨a, e, fun j u hu => ?_⟩
  obtain ⟨b, e', hc⟩ := h1 j u hu
  rw [e] at e'
  cases e'
  rw [add_add]
  exact hc
/- Sizes that every argument keeps to. -/
def lim : Nat := 9223372036854775807
structure Sm (x : Tt) : Prop where
  md : x.md.length ≤ lim
  nm : x.nm.length ≤ lim
  fl : x.fl.length ≤ 1000000
  pm : x.pm.length ≤ 1000000
  fn : ∀ f ∈ x.fl, f.n.length ≤ lim
/- A type's lists lie where it says. -/
structure Lp (w : World) (a : La) : Prop where
  fl : Cls w a.fo (a.x.fl.flatMap flC)
  pm : Cls w a.po (a.x.pm.flatMap pmC)
  sm : Sm a.x
theorem Lp.kept {w w' : World} {a : La} (h : Lp w a) (hg : w.grownBy w' none) : Lp w' a := ⟨h.fl.kept hg, h.pm.kept hg, h.sm⟩
/- A table lies at an address. -/
structure TabL (w : World) (o : Option Addr) (l : List La) : Prop where
  row : Cls w o (l.flatMap laC)
  parts : ∀ a ∈ l, Lp w a
def Tab (w : World) (o : Option Addr) (T : List Tt) : Prop := T.length ≤ 1000000 ∧ ∃ l : List La, l.map La.x = T ∧ TabL w o l
theorem Tab.kept {w w' : World} {o : Option Addr} {T : List Tt} (h : Tab w o T) (hg : w.grownBy w' none) : Tab w' o T := by
  obtain ⟨hn, l, e, hr, hp⟩ := h
  exact ⟨hn, l, e, hr.kept hg, fun a ha => (hp a ha).kept hg⟩
theorem Tab.at {w : World} {o : Option Addr} {T : List Tt} (h : Tab w o T) {i : Nat} {x : Tt} (hx : T[i]? = some x) : ∃ ad la, o = some ad ∧ la.x = x ∧ (∀ j u, (laC la)[j]? = some u → w.cell? ((ad.add (i * 10)).add j) = some u) ∧ Lp w la := by
  obtain ⟨hn, l, rfl, hr, hp⟩ := h
  rw [List.getElem?_map] at hx
  cases hl : l[i]? with
  | none => simp [hl] at hx
  | some la =>
    simp only [hl, Option.map_some, Option.some.injEq] at hx
    obtain ⟨ad, e, hc⟩ := hr.el laC_len (by decide) hl
    exact ⟨ad, la, e, hx, hc, hp la (List.mem_of_getElem? hl)⟩
theorem ten_of {w : World} {A : Addr} {a : La} (h : ∀ j u, (laC a)[j]? = some u → w.cell? (A.add j) = some u) :
    w.cell? A = some (.int .i64 a.x.fm) ∧ w.cell? ⟨A.block, A.off + 1, none⟩ = some (.string (bs a.x.md)) ∧ w.cell? ⟨A.block, A.off + 2, none⟩ = some (.string (bs a.x.nm)) ∧ w.cell? ⟨A.block, A.off + 3, none⟩ = some (.int .i64 a.x.ln) ∧ w.cell? ⟨A.block, A.off + 4, none⟩ = some (.int .i64 a.x.el) ∧ w.cell? ⟨A.block, A.off + 5, none⟩ = some (.int .i64 a.x.ba) ∧
    w.cell? ⟨A.block, A.off + 6, none⟩ = some (.slice a.fo a.x.fl.length a.fc) ∧ w.cell? ⟨A.block, A.off + 7, none⟩ = some (.slice a.po a.x.pm.length a.pc) ∧ w.cell? ⟨A.block, A.off + 8, none⟩ = some (.int .i64 a.x.rs) ∧ w.cell? ⟨A.block, A.off + 9, none⟩ = some (.int .i64 a.x.ds) := by
  have h0 := h 0 _ rfl
  have h1 := h 1 _ rfl
  have h2 := h 2 _ rfl
  have h3 := h 3 _ rfl
  have h4 := h 4 _ rfl
  have h5 := h 5 _ rfl
  have h6 := h 6 _ rfl
  have h7 := h 7 _ rfl
  have h8 := h 8 _ rfl
  have h9 := h 9 _ rfl
  rw [Addr.add_zero'] at h0
  rw [Addr.add_succ'] at h1 h2 h3 h4 h5 h6 h7 h8 h9
  simp only [Nat.zero_add, Nat.reduceAdd] at h1 h2 h3 h4 h5 h6 h7 h8 h9
  exact ⟨h0, h1, h2, h3, h4, h5, h6, h7, h8, h9⟩
/- The form at a place; -1 outside. -/
def inT (n : Nat) (a : Int) : Bool := decide (0 ≤ a) && decide (a < n)
def fmA (T : List Tt) (a : Int) : Int := if inT T.length a = true then match T[a.toNat]? with
  | some x => x.fm
  | none => -1 else -1
theorem fmA_at {T : List Tt} {i : Nat} {x : Tt} (h : T[i]? = some x) : fmA T (i : Int) = x.fm := by
  have hi := (List.getElem?_eq_some_iff.1 h).1
  unfold fmA inT
  rw [if_pos (by simp; omega), Int.toNat_natCast, h]
theorem fmA_out {T : List Tt} {a : Int} (h : inT T.length a = false) : fmA T a = -1 := by unfold fmA; rw [if_neg (by rw [h]; decide)]
def plainF (f : Int) : Bool := f == 1 || f == 2 || f == 3 || f == 4 || f == 10 || f == 11
def elemF (f : Int) : Bool := f == 7 || f == 9 || plainF f
def openF (f : Int) : Bool := f == 8 || elemF f
def baseA (T : List Tt) (a : Int) : Bool := a == 0 || fmA T a == 9
def resA (T : List Tt) (a : Int) : Bool := a == 0 || plainF (fmA T a)
end Go.Proofs.Ythmldhppmpbadaa.Ty
namespace Go.Proofs.Ythmldhppmpbadaa.Ty
open Go.RowKit hiding Hid
open Go.Proofs.Ythmldhppmpbadaa.Tx Go.Proofs.Ythmldhppmpbadaa.Lx Go.Proofs.Ythmldhppmpbadaa.Tr
set_option linter.unusedVariables false
set_option linter.unusedSimpArgs false
set_option maxRecDepth 100000

theorem within_at (w : World) (o : Option Addr) (n cp : Nat) (a : Int) (hn : n ≤ 1000000) : Calls Try.prog 84 #[.slice o n cp, .int .i64 a] w fun e w' => e = .returned (.bool (inT n a)) ∧ w' = w := by
  unfold inT
  by_cases h0 : 0 ≤ a
  · by_cases h1 : a < n
    · go_enter Try.func84, Try.ntmps84
      go_wp2
      go_ret
      simp [h0, h1]
    · go_enter Try.func84, Try.ntmps84
      go_wp2
      go_ret
      simp [h0, h1]
  · go_enter Try.func84, Try.ntmps84
    go_wp2
    go_ret
    refine ⟨?_, rfl⟩
    rw [decide_eq_false (by omega)]
    rfl
set_option maxHeartbeats 1000000 in
theorem form_at {w : World} {o : Option Addr} {T : List Tt} (cp : Nat) (a : Int) (H : Tab w o T) : Calls Try.prog 95 #[.slice o T.length cp, .int .i64 a] w fun e w' => e = .returned (.int .i64 (fmA T a)) ∧ w' = w := by
  have hn := H.1
  cases hi : inT T.length a with
  | false =>
    have HI := hide hi
    have HE := hide (fmA_out hi)
    clear hi H
    go_enter Try.func95, Try.ntmps95
    go_wp2_with (go_at_call 84; refine (within_at _ _ _ _ _ (by omega)).mono ?_; rw [HI.out]; rintro e w' ⟨rfl, hw⟩; replace hw := hw.symm; subst hw)
    go_ret
    rw [HE.out]
    exact ⟨rfl, rfl⟩
  | true =>
    have HI := hide hi
    unfold inT at hi
    simp only [Bool.and_eq_true, decide_eq_true_eq] at hi
    obtain ⟨i, rfl⟩ := Int.eq_ofNat_of_zero_le hi.1
    have h1 : i < T.length := by omega
    have j1 : (i : Int) < T.length := hi.2
    obtain ⟨x, hx⟩ : ∃ x, T[i]? = some x := ⟨T[i], List.getElem?_eq_getElem h1⟩
    have HE := hide (fmA_at hx)
    obtain ⟨ad, la, rfl, rfl, hc, hp⟩ := H.at hx
    obtain ⟨B, hB⟩ : ∃ B, ad.add (i * 10) = B := ⟨_, rfl⟩
    rw [hB] at hc
    obtain ⟨c0, _⟩ := ten_of hc
    have bl := block_lt_of_cell c0
    clear hx H hc hp hi
    go_enter Try.func95, Try.ntmps95
    go_wp2_with (go_at_call 84; refine (within_at _ _ _ _ _ (by omega)).mono ?_; rw [HI.out]; rintro e w' ⟨rfl, hw⟩; replace hw := hw.symm; subst hw)
    go_ret
    rw [HE.out]
    exact ⟨rfl, rfl⟩
set_option maxHeartbeats 2000000 in
theorem plain_at {w : World} {o : Option Addr} {T : List Tt} (cp : Nat) (a : Int) (H : Tab w o T) : Calls Try.prog 117 #[.slice o T.length cp, .int .i64 a] w fun e w' => e = .returned (.bool (plainF (fmA T a))) ∧ w' = w := by
  have HT := hide H
  obtain ⟨f, hf⟩ : ∃ f, fmA T a = f := ⟨_, rfl⟩
  have HF := hide hf
  rw [hf]
  clear H hf
  unfold plainF
  go_enter Try.func117, Try.ntmps117
  go_wp2_with ((go_at_call 95; refine (form_at _ _ HT.out).mono ?_; rintro e w' ⟨rfl, hw⟩; replace hw := hw.symm; subst hw); rw [HF.out])
  all_goals go_ret
  all_goals simp_all
set_option maxHeartbeats 2000000 in
theorem element_at {w : World} {o : Option Addr} {T : List Tt} (cp : Nat) (a : Int) (H : Tab w o T) : Calls Try.prog 91 #[.slice o T.length cp, .int .i64 a] w fun e w' => e = .returned (.bool (elemF (fmA T a))) ∧ w' = w := by
  have HT := hide H
  obtain ⟨f, hf⟩ : ∃ f, fmA T a = f := ⟨_, rfl⟩
  have HF := hide hf
  have hp := plain_at (o := o) cp a H
  rw [hf] at hp ⊢
  have HP := hide hp
  clear H hf hp
  unfold elemF
  by_cases h7 : f = 7
  · subst h7
    go_enter Try.func91, Try.ntmps91
    go_wp2_with (first | ((go_at_call 95; refine (form_at _ _ HT.out).mono ?_; rintro e w' ⟨rfl, hw⟩; replace hw := hw.symm; subst hw); rw [HF.out]))
    go_ret
    exact ⟨rfl, rfl⟩
  by_cases h9 : f = 9
  · subst h9
    go_enter Try.func91, Try.ntmps91
    go_wp2_with (first | ((go_at_call 95; refine (form_at _ _ HT.out).mono ?_; rintro e w' ⟨rfl, hw⟩; replace hw := hw.symm; subst hw); rw [HF.out]))
    go_ret
    exact ⟨rfl, rfl⟩
  have e7 : (f == 7) = false := by simpa using h7
  have e9 : (f == 9) = false := by simpa using h9
  go_enter Try.func91, Try.ntmps91
  go_wp2_with (first | ((go_at_call 95; refine (form_at _ _ HT.out).mono ?_; rintro e w' ⟨rfl, hw⟩; replace hw := hw.symm; subst hw); rw [HF.out]) | (go_at_call 117; refine HP.out.mono ?_; rintro e w' ⟨rfl, hw⟩; replace hw := hw.symm; subst hw))
  go_ret
  simp [e7, e9]
set_option maxHeartbeats 2000000 in
theorem open_at {w : World} {o : Option Addr} {T : List Tt} (cp : Nat) (a : Int) (H : Tab w o T) : Calls Try.prog 92 #[.slice o T.length cp, .int .i64 a] w fun e w' => e = .returned (.bool (openF (fmA T a))) ∧ w' = w := by
  have HT := hide H
  obtain ⟨f, hf⟩ : ∃ f, fmA T a = f := ⟨_, rfl⟩
  have HF := hide hf
  have hp := element_at (o := o) cp a H
  rw [hf] at hp ⊢
  have HP := hide hp
  clear H hf hp
  unfold openF
  by_cases h7 : f = 8
  · subst h7
    go_enter Try.func92, Try.ntmps92
    go_wp2_with (first | ((go_at_call 95; refine (form_at _ _ HT.out).mono ?_; rintro e w' ⟨rfl, hw⟩; replace hw := hw.symm; subst hw); rw [HF.out]))
    go_ret
    exact ⟨rfl, rfl⟩
  have e7 : (f == 8) = false := by simpa using h7
  go_enter Try.func92, Try.ntmps92
  go_wp2_with (first | ((go_at_call 95; refine (form_at _ _ HT.out).mono ?_; rintro e w' ⟨rfl, hw⟩; replace hw := hw.symm; subst hw); rw [HF.out]) | (go_at_call 91; refine HP.out.mono ?_; rintro e w' ⟨rfl, hw⟩; replace hw := hw.symm; subst hw))
  go_ret
  simp [e7]
set_option maxHeartbeats 2000000 in
theorem base_at {w : World} {o : Option Addr} {T : List Tt} (cp : Nat) (a : Int) (H : Tab w o T) : Calls Try.prog 93 #[.slice o T.length cp, .int .i64 a] w fun e w' => e = .returned (.bool (baseA T a)) ∧ w' = w := by
  have HT := hide H
  obtain ⟨f, hf⟩ : ∃ f, fmA T a = f := ⟨_, rfl⟩
  have HF := hide hf
  unfold baseA
  rw [hf]
  clear H hf
  by_cases h7 : a = 0
  · subst h7
    go_enter Try.func93, Try.ntmps93
    go_wp2_with (first | ((go_at_call 95; refine (form_at _ _ HT.out).mono ?_; rintro e w' ⟨rfl, hw⟩; replace hw := hw.symm; subst hw); rw [HF.out]))
    go_ret
    exact ⟨rfl, rfl⟩
  have e7 : (a == 0) = false := by simpa using h7
  go_enter Try.func93, Try.ntmps93
  go_wp2_with (first | ((go_at_call 95; refine (form_at _ _ HT.out).mono ?_; rintro e w' ⟨rfl, hw⟩; replace hw := hw.symm; subst hw); rw [HF.out]))
  go_ret
  simp [e7]
set_option maxHeartbeats 2000000 in
theorem result_at {w : World} {o : Option Addr} {T : List Tt} (cp : Nat) (a : Int) (H : Tab w o T) : Calls Try.prog 97 #[.slice o T.length cp, .int .i64 a] w fun e w' => e = .returned (.bool (resA T a)) ∧ w' = w := by
  have HP := hide (plain_at (o := o) cp a H)
  unfold resA
  clear H
  by_cases h7 : a = 0
  · subst h7
    go_enter Try.func97, Try.ntmps97
    go_wp2_with (first | (go_at_call 117; refine HP.out.mono ?_; rintro e w' ⟨rfl, hw⟩; replace hw := hw.symm; subst hw))
    go_ret
    exact ⟨rfl, rfl⟩
  have e7 : (a == 0) = false := by simpa using h7
  go_enter Try.func97, Try.ntmps97
  go_wp2_with (first | (go_at_call 117; refine HP.out.mono ?_; rintro e w' ⟨rfl, hw⟩; replace hw := hw.symm; subst hw))
  go_ret
  simp [e7]
end Go.Proofs.Ythmldhppmpbadaa.Ty
namespace Go.Proofs.Ythmldhppmpbadaa.Ty
open Go.RowKit hiding Hid
open Go.Proofs.Ythmldhppmpbadaa.Tx Go.Proofs.Ythmldhppmpbadaa.Lx Go.Proofs.Ythmldhppmpbadaa.Tr
set_option linter.unusedVariables false
set_option linter.unusedSimpArgs false
set_option maxRecDepth 100000

def wordB : List UInt8 → Bool
  | [] => false
  | c :: r => decide (r.length ≤ 23) && (letN c && r.all ldN)
theorem wordB_cons (c : UInt8) (r : List UInt8) : wordB (c :: r) = (decide (r.length ≤ 23) && (letN c && r.all ldN)) := rfl
theorem wordB_long {s : List UInt8} (h : 24 < s.length) : wordB s = false := by
  cases s with
  | nil => rfl
  | cons c r => rw [wordB_cons, decide_eq_false (by simp at h; omega)]; rfl
theorem wordB_in {c : UInt8} {r : List UInt8} (h : ¬ 24 < (c :: r).length) : wordB (c :: r) = (letN c && r.all ldN) := by
  rw [wordB_cons, decide_eq_true (by simp at h; omega)]; rfl
theorem letter_any (c : Int) (w : World) : Calls Try.prog 124 #[.int .u8 c] w fun e w' => e = .returned (.bool (ltI c)) ∧ w' = w := by
  unfold ltI
  by_cases h1 : 65 ≤ c <;> by_cases h2 : c ≤ 90 <;> by_cases h3 : 97 ≤ c <;> by_cases h4 : c ≤ 122
  all_goals first
    | (exfalso; omega)
    | (go_enter Try.func124, Try.ntmps124
       go_wp2
       go_ret
       exact ⟨by simp [h1, h2, h3, h4], rfl⟩)
theorem digit_any (c : Int) (w : World) : Calls Try.prog 125 #[.int .u8 c] w fun e w' => e = .returned (.bool (digI c)) ∧ w' = w := by
  unfold digI
  by_cases h1 : 48 ≤ c <;> by_cases h2 : c ≤ 57
  all_goals first
    | (exfalso; omega)
    | (go_enter Try.func125, Try.ntmps125
       go_wp2
       go_ret
       exact ⟨by simp [h1, h2], rfl⟩)
theorem pletter_any (c : Int) (w : World) : Calls Try.prog 115 #[.int .u8 c] w fun e w' => e = .returned (.bool (ltI c)) ∧ w' = w := by
  unfold ltI
  by_cases h1 : 65 ≤ c <;> by_cases h2 : c ≤ 90 <;> by_cases h3 : 97 ≤ c <;> by_cases h4 : c ≤ 122
  all_goals first
    | (exfalso; omega)
    | (go_enter Try.func115, Try.ntmps115
       go_wp2
       go_ret
       exact ⟨by simp [h1, h2, h3, h4], rfl⟩)
theorem pdigit_any (c : Int) (w : World) : Calls Try.prog 116 #[.int .u8 c] w fun e w' => e = .returned (.bool (digI c)) ∧ w' = w := by
  unfold digI
  by_cases h1 : 48 ≤ c <;> by_cases h2 : c ≤ 57
  all_goals first
    | (exfalso; omega)
    | (go_enter Try.func116, Try.ntmps116
       go_wp2
       go_ret
       exact ⟨by simp [h1, h2], rfl⟩)
set_option maxHeartbeats 2000000 in
theorem word_any (s : List UInt8) (w : World) (hs : s.length ≤ 9223372036854775807) : Calls Try.prog 106 #[.string (bs s)] w fun e w' => e = .returned (.bool (wordB s)) ∧ w' = w := by
  have hsz := bs_size s
  have hs' : (s.length : Int) ≤ 9223372036854775807 := by omega
  by_cases h0 : s.length = 0
  · obtain rfl := List.length_eq_zero_iff.1 h0
    have k0 : ((([] : List UInt8).length : Nat) : Int) < 1 := by simp
    clear h0 hs'
    go_enter Try.func106, Try.ntmps106
    go_wp2
    go_ret
    exact ⟨rfl, rfl⟩
  have k0 : ¬ (s.length : Int) < 1 := by omega
  by_cases h24 : 24 < s.length
  · have k1 : (24 : Int) < s.length := by omega
    go_enter Try.func106, Try.ntmps106
    go_wp2
    go_ret
    refine ⟨?_, rfl⟩
    rw [wordB_long h24]
    rfl
  have k1 : ¬ (24 : Int) < s.length := by omega
  have k2 : (0 : Int) < s.length := by omega
  have k3 : 0 < s.length := by omega
  obtain ⟨c, hc⟩ : ∃ c, s[0] = c := ⟨_, rfl⟩
  have hb0 : ∀ h, (bs s)[0]'h = c := fun h => hc
  have HE := hide (show wordB s = (letN c && (s.drop 1).all ldN) by
    cases s with
    | nil => simp at k3
    | cons c' r => rw [wordB_in h24]; simp at hc; subst hc; rfl)
  clear hc
  cases hl : letN c
  · have HL := hide (show ltI (c.toNat : Int) = false from hl)
    rw [hl] at HE
    go_enter Try.func106, Try.ntmps106
    go_wp2_with (go_at_call 124; refine (letter_any _ _).mono ?_; rw [HL.out]; rintro e w' ⟨rfl, hw⟩; replace hw := hw.symm; subst hw)
    go_ret
    refine ⟨?_, rfl⟩
    rw [HE.out]
    rfl
  · have HL := hide (show ltI (c.toNat : Int) = true from hl)
    rw [hl] at HE
    go_enter Try.func106, Try.ntmps106
    go_wp2_with (go_at_call 124; refine (letter_any _ _).mono ?_; rw [HL.out]; rintro e w' ⟨rfl, hw⟩; replace hw := hw.symm; subst hw)
    go_loop [3] (fun iv => ∃ i : Nat, 1 ≤ i ∧ i ≤ s.length ∧ iv = .int .i64 i ∧ Hid (((s.drop 1).take (i - 1)).all ldN = true)) (fun iv => s.length - (intOf iv).toNat)
    case atStart => exact ⟨1, by omega, by omega, rfl, hide (by simp)⟩
    case round =>
      obtain ⟨q, hq0, hq, rfl, HH⟩ := hrel
      clear hb0
      by_cases hlt : q < s.length
      · have j1 : (q : Int) < s.length := by omega
        obtain ⟨c2, hc2⟩ : ∃ c, s[q] = c := ⟨_, rfl⟩
        have hb : ∀ h, (bs s)[q]'h = c2 := fun h => hc2
        have HSq := hide (show (s.drop 1)[q - 1]? = some c2 by rw [List.getElem?_drop, show 1 + (q - 1) = q by omega, List.getElem?_eq_getElem hlt, hc2])
        clear hc2
        have HQ := hide (show q - 1 + 1 = q + 1 - 1 by omega)
        cases hl2 : letN c2
        · have HL2 := hide (show ltI (c2.toNat : Int) = false from hl2)
          cases hd2 : digN c2
          · have HD2 := hide (show digI (c2.toNat : Int) = false from hd2)
            have HS := hide (show ldN c2 = false by unfold ldN; rw [hl2, hd2]; rfl)
            go_wp2_with (first | (go_at_call 124; refine (letter_any _ _).mono ?_; rw [HL2.out]; rintro e w' ⟨rfl, hw⟩; replace hw := hw.symm; subst hw) | (go_at_call 125; refine (digit_any _ _).mono ?_; rw [HD2.out]; rintro e w' ⟨rfl, hw⟩; replace hw := hw.symm; subst hw))
            go_ret
            refine ⟨?_, rfl⟩
            rw [HE.out, all_not HSq.out HS.out]; rfl
          · have HD2 := hide (show digI (c2.toNat : Int) = true from hd2)
            have HS := hide (show ldN c2 = true by unfold ldN; rw [hl2, hd2]; rfl)
            go_wp2_with (first | (go_at_call 124; refine (letter_any _ _).mono ?_; rw [HL2.out]; rintro e w' ⟨rfl, hw⟩; replace hw := hw.symm; subst hw) | (go_at_call 125; refine (digit_any _ _).mono ?_; rw [HD2.out]; rintro e w' ⟨rfl, hw⟩; replace hw := hw.symm; subst hw))
            exact ⟨⟨q + 1, by omega, by omega, by go_num, hide (by rw [← HQ.out]; exact all_on HSq.out HH.out HS.out)⟩, by simp [intOf]; omega⟩
        · have HL2 := hide (show ltI (c2.toNat : Int) = true from hl2)
          have HS := hide (show ldN c2 = true by unfold ldN; rw [hl2]; rfl)
          go_wp2_with (go_at_call 124; refine (letter_any _ _).mono ?_; rw [HL2.out]; rintro e w' ⟨rfl, hw⟩; replace hw := hw.symm; subst hw)
          exact ⟨⟨q + 1, by omega, by omega, by go_num, hide (by rw [← HQ.out]; exact all_on HSq.out HH.out HS.out)⟩, by simp [intOf]; omega⟩
      · obtain rfl : q = s.length := by omega
        go_wp2
        go_ret
        refine ⟨?_, rfl⟩
        have := HH.out
        rw [List.take_of_length_le (by simp)] at this
        rw [HE.out, this]
        rfl
theorem wordB_not0 {c : UInt8} {r : List UInt8} (h : letN c = false) : wordB (c :: r) = false := by rw [wordB_cons, h]; simp
theorem bs_toList (l : List UInt8) : (bs l).toList = l := by rw [ByteArray.toList_eq]; simp [bs]
theorem wordB_all {s : List UInt8} (h0 : s ≠ []) (h24 : ¬ 24 < s.length) {c : UInt8} (hc : s[0]? = some c) (hl : letN c = true) : wordB s = s.all ldN := by
  cases s with
  | nil => exact absurd rfl h0
  | cons c' r =>
    simp at hc
    subst hc
    rw [wordB_in h24, List.all_cons, hl, show ldN c' = true by unfold ldN; rw [hl]; rfl]
set_option maxHeartbeats 2000000 in
theorem isName_any (s : List UInt8) (w : World) (hs : s.length ≤ 9223372036854775807) : Calls Try.prog 90 #[.string (bs s)] w fun e w' => e = .returned (.bool (wordB s)) ∧ w' = w := by
  have hsz := bs_size s
  have hs' : (s.length : Int) ≤ 9223372036854775807 := by omega
  by_cases h0 : s = []
  · subst h0
    have e0 : ((bs []).toList == []) = true := by rw [bs_toList]; rfl
    go_enter Try.func90, Try.ntmps90
    go_wp2
    go_ret
    exact ⟨rfl, rfl⟩
  have e0 : ((bs s).toList == []) = false := by rw [bs_toList]; simpa using h0
  have hpos : 0 < s.length := List.length_pos_iff.2 h0
  by_cases h24 : 24 < s.length
  · have k1 : (24 : Int) < s.length := by omega
    go_enter Try.func90, Try.ntmps90
    go_wp2
    go_ret
    refine ⟨?_, rfl⟩
    rw [wordB_long h24]
    rfl
  have k1 : ¬ (24 : Int) < s.length := by omega
  have k2 : (0 : Int) < s.length := by omega
  obtain ⟨c, hc⟩ : ∃ c, s[0] = c := ⟨_, rfl⟩
  have hb0 : ∀ h, (bs s)[0]'h = c := fun h => hc
  have hc' : s[0]? = some c := by rw [List.getElem?_eq_getElem hpos, hc]
  clear hc
  cases hl : letN c
  · have HL := hide (show ltI (c.toNat : Int) = false from hl)
    have HE := hide (show wordB s = false by
      cases s with
      | nil => exact absurd rfl h0
      | cons c' r => simp at hc'; subst hc'; exact wordB_not0 hl)
    clear hc'
    go_enter Try.func90, Try.ntmps90
    go_wp2_with (go_at_call 115; refine (pletter_any _ _).mono ?_; rw [HL.out]; rintro e w' ⟨rfl, hw⟩; replace hw := hw.symm; subst hw)
    go_ret
    refine ⟨?_, rfl⟩
    rw [HE.out]
    rfl
  · have HL := hide (show ltI (c.toNat : Int) = true from hl)
    have HE := hide (wordB_all h0 h24 hc' hl)
    clear hc'
    go_enter Try.func90, Try.ntmps90
    go_wp2_with (go_at_call 115; refine (pletter_any _ _).mono ?_; rw [HL.out]; rintro e w' ⟨rfl, hw⟩; replace hw := hw.symm; subst hw)
    go_loop [19] (fun iv => ∃ i : Nat, i ≤ s.length ∧ iv = .int .i64 i ∧ Hid ((s.take i).all ldN = true)) (fun iv => s.length - (intOf iv).toNat)
    case atStart => exact ⟨0, by omega, rfl, hide (by simp)⟩
    case round =>
      obtain ⟨q, hq, rfl, HH⟩ := hrel
      clear hb0
      by_cases hlt : q < s.length
      · have j1 : (q : Int) < s.length := by omega
        obtain ⟨c2, hc2⟩ : ∃ c, s[q] = c := ⟨_, rfl⟩
        have hb : ∀ h, (bs s)[q]'h = c2 := fun h => hc2
        have HSq := hide (show s[q]? = some c2 by rw [List.getElem?_eq_getElem hlt, hc2])
        clear hc2
        cases hl2 : letN c2
        · have HL2 := hide (show ltI (c2.toNat : Int) = false from hl2)
          cases hd2 : digN c2
          · have HD2 := hide (show digI (c2.toNat : Int) = false from hd2)
            have HS := hide (show ldN c2 = false by unfold ldN; rw [hl2, hd2]; rfl)
            go_wp2_with (first | (go_at_call 115; refine (pletter_any _ _).mono ?_; rw [HL2.out]; rintro e w' ⟨rfl, hw⟩; replace hw := hw.symm; subst hw) | (go_at_call 116; refine (pdigit_any _ _).mono ?_; rw [HD2.out]; rintro e w' ⟨rfl, hw⟩; replace hw := hw.symm; subst hw))
            go_ret
            refine ⟨?_, rfl⟩
            rw [HE.out, all_not HSq.out HS.out]; rfl
          · have HD2 := hide (show digI (c2.toNat : Int) = true from hd2)
            have HS := hide (show ldN c2 = true by unfold ldN; rw [hl2, hd2]; rfl)
            go_wp2_with (first | (go_at_call 115; refine (pletter_any _ _).mono ?_; rw [HL2.out]; rintro e w' ⟨rfl, hw⟩; replace hw := hw.symm; subst hw) | (go_at_call 116; refine (pdigit_any _ _).mono ?_; rw [HD2.out]; rintro e w' ⟨rfl, hw⟩; replace hw := hw.symm; subst hw))
            exact ⟨⟨q + 1, by omega, by go_num, hide (all_on HSq.out HH.out HS.out)⟩, by simp [intOf]; omega⟩
        · have HL2 := hide (show ltI (c2.toNat : Int) = true from hl2)
          have HS := hide (show ldN c2 = true by unfold ldN; rw [hl2]; rfl)
          go_wp2_with (go_at_call 115; refine (pletter_any _ _).mono ?_; rw [HL2.out]; rintro e w' ⟨rfl, hw⟩; replace hw := hw.symm; subst hw)
          exact ⟨⟨q + 1, by omega, by go_num, hide (all_on HSq.out HH.out HS.out)⟩, by simp [intOf]; omega⟩
      · obtain rfl : q = s.length := by omega
        go_wp2
        go_ret
        refine ⟨?_, rfl⟩
        have := HH.out
        rw [List.take_of_length_le (by simp)] at this
        rw [HE.out, this]
        rfl
end Go.Proofs.Ythmldhppmpbadaa.Ty
namespace Go.Proofs.Ythmldhppmpbadaa.Ty
open Go.RowKit hiding Hid
open Go.Proofs.Ythmldhppmpbadaa.Tx Go.Proofs.Ythmldhppmpbadaa.Lx Go.Proofs.Ythmldhppmpbadaa.Tr
set_option linter.unusedVariables false
set_option linter.unusedSimpArgs false
set_option maxRecDepth 100000

def bareB (x : Tt) : Bool := x.ln == 0 && x.el == 0 && x.ba == 0 && (x.fl.length == 0) && (x.pm.length == 0) && x.rs == 0 && x.ds == 0
theorem gx (w : World) (a : Obj) : w.grownBy (w.alloc a) none := World.grownBy_alloc w _ none
set_option maxHeartbeats 4000000 in
theorem bare_at {w : World} {a : La} : Calls Try.prog 59 #[.agg (laC a).toArray] w fun e w' => e = .returned (.bool (bareB a.x)) ∧ w.grownBy w' none := by
  obtain ⟨⟨fm, md, nm, ln, el, ba, fl, pm, rs, ds⟩, fo, fc, po, pc⟩ := a
  unfold bareB laC
  dsimp only
  by_cases h1 : ln = 0
  case neg => (go_enter Try.func59, Try.ntmps59; go_wp2; go_ret; refine ⟨?_, gx _ _⟩; simp_all)
  by_cases h2 : el = 0
  case neg => (go_enter Try.func59, Try.ntmps59; go_wp2; go_ret; refine ⟨?_, gx _ _⟩; simp_all)
  by_cases h3 : ba = 0
  case neg => (go_enter Try.func59, Try.ntmps59; go_wp2; go_ret; refine ⟨?_, gx _ _⟩; simp_all)
  by_cases h4 : fl.length = 0
  case neg => (go_enter Try.func59, Try.ntmps59; go_wp2; go_ret; refine ⟨?_, gx _ _⟩; simp_all)
  by_cases h5 : pm.length = 0
  case neg => (go_enter Try.func59, Try.ntmps59; go_wp2; go_ret; refine ⟨?_, gx _ _⟩; simp_all)
  by_cases h6 : rs = 0
  case neg => (go_enter Try.func59, Try.ntmps59; go_wp2; go_ret; refine ⟨?_, gx _ _⟩; simp_all)
  by_cases h7 : ds = 0
  case neg => (go_enter Try.func59, Try.ntmps59; go_wp2; go_ret; refine ⟨?_, gx _ _⟩; simp_all)
  (go_enter Try.func59, Try.ntmps59; go_wp2; go_ret; refine ⟨?_, gx _ _⟩; simp_all)
end Go.Proofs.Ythmldhppmpbadaa.Ty
