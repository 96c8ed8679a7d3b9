/-
  The document's own reader (package spinetref08): Word, Text.
-/
import Derived.Test.YtolfhkcfepkfdaaRi2
namespace Go.Proofs.Ytolfhkcfepkfdaa.Ri
open Go.RowKit Go.Proofs.Ytolfhkcfepkfdaa.Tx
set_option linter.unusedVariables false
set_option linter.unusedSimpArgs false
set_option maxRecDepth 100000

def wordI (a b c d : UInt8) : Int := (a.toNat : Int) + 256 * b.toNat + 65536 * c.toNat + 16777216 * d.toNat
theorem bs_four (a b c d : UInt8) : (∀ h, (bs [a, b, c, d])[0]'h = a) ∧ (∀ h, (bs [a, b, c, d])[1]'h = b) ∧ (∀ h, (bs [a, b, c, d])[2]'h = c) ∧ (∀ h, (bs [a, b, c, d])[3]'h = d) := ⟨fun h => rfl, fun h => rfl, fun h => rfl, fun h => rfl⟩
set_option maxHeartbeats 2000000 in
theorem word_yes {W : World} {q p : Nat} {s : List UInt8} {a b c d : UInt8} (r : Rb W q s p false) (h : (s.drop p).take 4 = [a, b, c, d]) :
    Calls Try.prog 34 #[.pointer (some ⟨q, 0, none⟩)] W fun e W' => e = .returned (.int .u32 (wordI a b c d)) ∧ Rb W' q s (p + 4) false ∧ W.grownBy W' (some q) := by
  have hl : p + 4 ≤ s.length := by
    have := congrArg List.length h
    simp at this
    omega
  have HR := hide (h ▸ raw_yes r 4 hl)
  have hz := bs_size [a, b, c, d]
  obtain ⟨b0, b1, b2, b3⟩ := bs_four a b c d
  obtain ⟨A, hA⟩ : ∃ A : Int, (a.toNat : Int) = A := ⟨_, rfl⟩
  obtain ⟨B, hB⟩ : ∃ B : Int, (b.toNat : Int) = B := ⟨_, rfl⟩
  obtain ⟨C, hC⟩ : ∃ C : Int, (c.toNat : Int) = C := ⟨_, rfl⟩
  obtain ⟨D, hD⟩ : ∃ D : Int, (d.toNat : Int) = D := ⟨_, rfl⟩
  have a1 : 0 ≤ A ∧ A < 256 := by have := a.toNat_lt; omega
  have a2 : 0 ≤ B ∧ B < 256 := by have := b.toNat_lt; omega
  have a3 : 0 ≤ C ∧ C < 256 := by have := c.toNat_lt; omega
  have a4 : 0 ≤ D ∧ D < 256 := by have := d.toNat_lt; omega
  have hw : wordI a b c d = A + 256 * B + 65536 * C + 16777216 * D := by unfold wordI; rw [hA, hB, hC, hD]
  rw [hw]
  clear r h hl hw
  go_enter Try.func34, Try.ntmps34
  go_wp2_with (go_at_call 36; refine HR.out.mono ?_; rintro e w1 ⟨rfl, hr, hg⟩; have c2 := hr.c2; have H1 := hide hr; have G1 := hide hg; clear hr hg)
  clear HR
  go_loop [4, 5] (fun wv iv => (wv = .int .u32 0 ∧ iv = .int .i64 3) ∨ (wv = .int .u32 D ∧ iv = .int .i64 2) ∨ (wv = .int .u32 (D * 256 + C) ∧ iv = .int .i64 1) ∨ (wv = .int .u32 ((D * 256 + C) * 256 + B) ∧ iv = .int .i64 0) ∨ (wv = .int .u32 (((D * 256 + C) * 256 + B) * 256 + A) ∧ iv = .int .i64 (-1))) (fun _ iv => (intOf iv + 1).toNat)
  case atStart => exact .inl ⟨rfl, rfl⟩
  case round =>
    rcases hrel with ⟨rfl, rfl⟩ | ⟨rfl, rfl⟩ | ⟨rfl, rfl⟩ | ⟨rfl, rfl⟩ | ⟨rfl, rfl⟩
    · go_wp2
      exact ⟨.inr (.inl ⟨by go_num, by go_num⟩), by simp [intOf]⟩
    · go_wp2
      exact ⟨.inr (.inr (.inl ⟨by go_num, by go_num⟩)), by simp [intOf]⟩
    · go_wp2
      exact ⟨.inr (.inr (.inr (.inl ⟨by go_num, by go_num⟩))), by simp [intOf]⟩
    · go_wp2
      exact ⟨.inr (.inr (.inr (.inr ⟨by go_num, by go_num⟩))), by simp [intOf]⟩
    · go_wp2
      go_ret
      exact ⟨by show Ending.returned (Value.int .u32 (((D * 256 + C) * 256 + B) * 256 + A)) = _; rw [show ((D * 256 + C) * 256 + B) * 256 + A = A + 256 * B + 65536 * C + 16777216 * D by omega], H1.out, G1.out⟩
theorem then_set {w w' : World} {b k : Nat} {u : Value} (h : w.grownBy w' none) : w.grownBy (w'.setCell ⟨b, k, none⟩ u) (some b) := by
  have h2 := set_g w' b k u
  exact ⟨h2.os.trans h.os, h2.tape.trans h.tape, h2.output.trans h.output, Nat.le_trans h.size h2.size, fun j hj hn => (h2.block j (Nat.lt_of_lt_of_le hj h.size) hn).trans (h.block j hj (by simp))⟩
/- No byte 0 among the next 65. -/
def noEnd (s : List UInt8) (p : Nat) : Prop := ∀ i c, i ≤ 64 → s[p + i]? = some c → c ≠ 0
set_option maxHeartbeats 4000000 in
theorem text_no {W : World} {q p : Nat} {s : List UInt8} {bad : Bool} (r : Rb W q s p bad) (h : bad = true ∨ noEnd s p) :
    Calls Try.prog 35 #[.pointer (some ⟨q, 0, none⟩)] W fun e W' => e = .returned (.string (bs [])) ∧ Rb W' q s p true ∧ W.grownBy W' (some q) := by
  have b0' : (⟨#[]⟩ : ByteArray) = bs [] := rfl
  cases bad
  · have hn : noEnd s p := by simpa using h
    have HN := hide hn
    have HR := hide r
    have c2 := r.c2
    have hle := r.le
    have hmax := r.max
    clear h hn r
    go_enter Try.func35, Try.ntmps35
    go_wp2
    go_loopw [3] (fun iv wr => ∃ i : Nat, i ≤ 65 ∧ p + i ≤ s.length ∧ iv = .int .i64 i ∧ Hid (Rb wr q s p false) ∧ Hid (W.grownBy wr none)) (fun iv _ => 65 - (intOf iv).toNat)
    case atStart => exact ⟨0, by omega, by omega, rfl, HR, hide ⟨rfl, rfl, rfl, Nat.le_refl _, fun _ _ _ => rfl⟩⟩
    case round =>
      obtain ⟨i, hi, hip, rfl, H1, G1⟩ := hrel
      have c0 := H1.out.c0
      have c1 := H1.out.c1
      replace c2 := H1.out.c2
      have hf := fun k => free_at (k := k) H1.out.head
      have hsz := bs_size s
      clear HR
      by_cases hi4 : i ≤ 64
      · have j1 : (i : Int) ≤ 64 := by omega
        have j3 : (0 : Int) ≤ (p : Int) + i := by omega
        have j4 : IntKind.i64.wrap ((p : Int) + i) = (p : Int) + i := IntWalk.i64_in _ ⟨by omega, by omega⟩
        by_cases hlt : p + i < s.length
        · have j2 : (p : Int) + i < (s.length : Int) := by omega
          have hb : ∀ h, (bs s)[p + i]'h = s[p + i] := fun h => rfl
          have j5 : ((p : Int) + i).toNat = p + i := by omega
          have hne : ((s[p + i].toNat : Int) == 0) = false := by
            have := HN.out i _ hi4 (List.getElem?_eq_getElem hlt)
            have h2 : s[p + i].toNat ≠ 0 := fun e => this (UInt8.toNat_inj.1 e)
            simpa using h2
          go_wp2
          go_quiet (fail)
          go_wp2
          go_quiet (fail)
          go_wp2
          go_roundw
          case rel => exact ⟨i + 1, by omega, by omega, by go_num, hide (H1.out.drew _), hide (more_g G1.out _)⟩
          case measure => simp [intOf]; omega
        · have j2 : ¬ (p : Int) + i < (s.length : Int) := by omega
          go_wp2
          go_quiet (fail)
          go_wp2
          go_ret
          exact ⟨rfl, (H1.out.drew _).spoil, then_set (more_g G1.out _)⟩
      · obtain rfl : i = 65 := by omega
        go_wp2
        go_quiet (fail)
        go_wp2
        go_ret
        exact ⟨rfl, (H1.out.drew _).spoil, then_set (more_g G1.out _)⟩
  · have c2 := r.c2
    have hf := fun k => free_at (k := k) r.head
    have HR := hide r
    clear r h
    go_enter Try.func35, Try.ntmps35
    go_wp2
    go_ret
    exact ⟨rfl, HR.out.spoil, set_g _ _ _ _⟩
set_option maxHeartbeats 4000000 in
theorem text_yes {W : World} {q p n : Nat} {s : List UInt8} (r : Rb W q s p false) (hn : n ≤ 64) (h0 : s[p + n]? = some 0) (hz : ∀ i c, i < n → s[p + i]? = some c → c ≠ 0) :
    Calls Try.prog 35 #[.pointer (some ⟨q, 0, none⟩)] W fun e W' => e = .returned (.string (bs ((s.drop p).take n))) ∧ Rb W' q s (p + n + 1) false ∧ W.grownBy W' (some q) := by
  obtain ⟨hpn, hc0⟩ := List.getElem?_eq_some_iff.1 h0
  have HZ := hide hz
  have HC := hide hc0
  have HR := hide r
  have c2 := r.c2
  have hle := r.le
  have hmax := r.max
  clear h0 hz hc0 r
  go_enter Try.func35, Try.ntmps35
  go_wp2
  go_loopw [3] (fun iv wr => ∃ i : Nat, i ≤ n ∧ iv = .int .i64 i ∧ Hid (Rb wr q s p false) ∧ Hid (W.grownBy wr none)) (fun iv _ => 65 - (intOf iv).toNat)
  case atStart => exact ⟨0, by omega, rfl, HR, hide ⟨rfl, rfl, rfl, Nat.le_refl _, fun _ _ _ => rfl⟩⟩
  case round =>
    obtain ⟨i, hi, rfl, H1, G1⟩ := hrel
    have c0 := H1.out.c0
    have c1 := H1.out.c1
    replace c2 := H1.out.c2
    have hf := fun k => free_at (k := k) H1.out.head
    have hsz := bs_size s
    clear HR
    have hlt : p + i < s.length := by omega
    have j1 : (i : Int) ≤ 64 := by omega
    have j3 : (0 : Int) ≤ (p : Int) + i := by omega
    have j4 : IntKind.i64.wrap ((p : Int) + i) = (p : Int) + i := IntWalk.i64_in _ ⟨by omega, by omega⟩
    have j2 : (p : Int) + i < (s.length : Int) := by omega
    have j5 : ((p : Int) + i).toNat = p + i := by omega
    have hb : ∀ h, (bs s)[p + i]'h = s[p + i] := fun h => rfl
    by_cases hin : i < n
    · have hne : ((s[p + i].toNat : Int) == 0) = false := by
        have := HZ.out i _ hin (List.getElem?_eq_getElem hlt)
        have h2 : s[p + i].toNat ≠ 0 := fun e => this (UInt8.toNat_inj.1 e)
        simpa using h2
      go_wp2
      go_quiet (fail)
      go_wp2
      go_quiet (fail)
      go_wp2
      go_roundw
      case rel => exact ⟨i + 1, by omega, by go_num, hide (H1.out.drew _), hide (more_g G1.out _)⟩
      case measure => simp [intOf]; omega
    · obtain rfl : i = n := by omega
      have hne : ((s[p + i].toNat : Int) == 0) = true := by rw [HC.out]; rfl
      have k1 : (p : Int) + (i + 1) - i - 1 = p := by omega
      have k2 : (p : Int) + (i + 1) - 1 = p + i := by omega
      have k3 : (p : Int) ≤ p + i := by omega
      have k4 : (0 : Int) ≤ p := by omega
      have k5 : IntKind.i64.wrap ((p : Int)) = p := IntWalk.i64_in _ ⟨by omega, by omega⟩
      have k6 : IntKind.i64.wrap ((p : Int) + (i + 1)) = (p : Int) + (i + 1) := IntWalk.i64_in _ ⟨by omega, by omega⟩
      have k7 : IntKind.i64.wrap ((p : Int) + (i + 1) - i) = (p : Int) + (i + 1) - i := IntWalk.i64_in _ ⟨by omega, by omega⟩
      have HM := hide (fun k => show Rb ((wr.drewN k).setCell ⟨q, 1, none⟩ (.int .i64 ((p : Int) + (i + 1)))) q s (p + i + 1) false by have := (H1.out.drew k).move (k := p + i + 1) (by omega); rwa [show ((p + i + 1 : Nat) : Int) = (p : Int) + (i + 1) by omega] at this)
      have hx : (bs s).extract p (p + i) = bs ((s.drop p).take i) := by rw [bs_ext]; congr 2; omega
      go_wp2
      go_quiet (fail)
      generalize nq = n1
      go_wp2
      go_quiet (fail)
      go_wp2
      have HU := hide (HM.out (n1 + nq))
      have GU := hide (then_set (b := q) (k := 1) (u := .int .i64 ((p : Int) + (i + 1))) (more_g G1.out (n1 + nq)))
      generalize (wr.drewN (n1 + nq)).setCell ⟨q, 1, none⟩ (.int .i64 ((p : Int) + (i + 1))) = U at HU GU ⊢
      have d0 := HU.out.c0
      have d1 := HU.out.c1
      rw [show ((p + i + 1 : Nat) : Int) = (p : Int) + (i + 1) by omega] at d1
      obtain ⟨Z, hZ⟩ : ∃ Z : Int, (p : Int) + (i + 1) = Z := ⟨_, rfl⟩
      rw [hZ] at d1
      have z1 : IntKind.i64.wrap (Z - i) = Z - i := IntWalk.i64_in _ ⟨by omega, by omega⟩
      have z2 : Z - i - 1 = p := by omega
      have z3 : Z - 1 = p + i := by omega
      have z4 : IntKind.i64.wrap (Z - i - 1) = p := by rw [z2]; exact k5
      have z5 : IntKind.i64.wrap (Z - 1) = p + i := by rw [z3]; exact j4
      have z6 : (p : Int) + i ≤ s.length := by omega
      have HZ' := hide hZ
      clear HM c0 c1 c2 hf H1 G1 k1 k2 k6 k7 hZ hne HZ HC
      go_quiet (fail)
      go_wp2
      go_ret
      exact ⟨rfl, HU.out.drew _, more_g GU.out _⟩
end Go.Proofs.Ytolfhkcfepkfdaa.Ri
