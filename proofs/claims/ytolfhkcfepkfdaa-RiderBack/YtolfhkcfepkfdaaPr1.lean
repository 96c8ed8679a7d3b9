/-
  Package rider's reader in memory: rest, fail, Bad, At, End, Raw, Byte; of nil, too.
-/
import Derived.Test.YtolfhkcfepkfdaaRi3
import Derived.Lib.Bytealg
import Derived.Laws.Strings3
namespace Go.Proofs.Ytolfhkcfepkfdaa.Ri
open Go.RowKit Go.Proofs.Ytolfhkcfepkfdaa.Tx
set_option linter.unusedVariables false
set_option linter.unusedSimpArgs false
set_option maxRecDepth 100000

/- What is left of a text. -/
def lfL (s : List UInt8) (p : Nat) (bad : Bool) : List UInt8 := if bad = true then [] else s.drop p
/- Block q of W is a reader of s, at p. -/
structure Pb (W : World) (q : Nat) (s : List UInt8) (p : Nat) (bad : Bool) : Prop where
  head : W.heap[q]? = some (.cells #[.string (bs (lfL s p bad)), .int .i64 p, .bool bad] 60 (0, 0))
  le : p ≤ s.length
  max : s.length ≤ 1000000
section
variable {W : World} {q p : Nat} {s : List UInt8} {bad : Bool}
theorem Pb.c0 (r : Pb W q s p bad) : W.cell? ⟨q, 0, none⟩ = some (.string (bs (lfL s p bad))) := by rw [cell_of_row _ _ _ _ _ _ r.head]; rfl
theorem Pb.c1 (r : Pb W q s p bad) : W.cell? ⟨q, 1, none⟩ = some (.int .i64 p) := by rw [cell_of_row _ _ _ _ _ _ r.head]; rfl
theorem Pb.c2 (r : Pb W q s p bad) : W.cell? ⟨q, 2, none⟩ = some (.bool bad) := by rw [cell_of_row _ _ _ _ _ _ r.head]; rfl
theorem Pb.lt (r : Pb W q s p bad) : q < W.heap.size := (Array.getElem?_eq_some_iff.1 r.head).1
theorem Pb.kept {W' : World} (r : Pb W q s p bad) (h : W.grownBy W' none) : Pb W' q s p bad := ⟨(h.block q r.lt (by simp)).trans r.head, r.le, r.max⟩
theorem Pb.spoil (r : Pb W q s p bad) : Pb ((W.setCell ⟨q, 0, none⟩ (.string (bs []))).setCell ⟨q, 2, none⟩ (.bool true)) q s p true := ⟨three_set (three_set r.head 0 _) 2 _, r.le, r.max⟩
theorem Pb.move (r : Pb W q s p false) {k : Nat} (hk : k ≤ s.length) : Pb ((W.setCell ⟨q, 0, none⟩ (.string (bs (s.drop k)))).setCell ⟨q, 1, none⟩ (.int .i64 k)) q s k false := ⟨three_set (three_set r.head 0 _) 1 _, hk, r.max⟩
theorem set2_g (w : World) (b k j : Nat) (u v : Value) : w.grownBy ((w.setCell ⟨b, k, none⟩ u).setCell ⟨b, j, none⟩ v) (some b) := then_g (set_g _ _ _ _) (set_g _ _ _ _)
theorem rest_at (r : Pb W q s p bad) : Calls Try.prog 45 #[.pointer (some ⟨q, 0, none⟩)] W fun e W' => e = .returned (.string (bs (lfL s p bad))) ∧ W' = W := by
  have c0 := r.c0
  clear r
  go_enter Try.func45, Try.ntmps45
  go_wp2
  go_ret
  exact ⟨rfl, rfl⟩
theorem rest_nil (W : World) : Calls Try.prog 45 #[.pointer none] W fun e W' => e = .returned (.string (bs [])) ∧ W' = W := by
  have b0' : (⟨#[]⟩ : ByteArray) = bs [] := rfl
  go_enter Try.func45, Try.ntmps45
  go_wp2
  go_ret
  exact ⟨rfl, rfl⟩
theorem fail_at (r : Pb W q s p bad) : Calls Try.prog 46 #[.pointer (some ⟨q, 0, none⟩)] W fun e W' => e = .returned (.tuple #[]) ∧ Pb W' q s p true ∧ W.grownBy W' (some q) := by
  have c0 := r.c0
  have c2 := r.c2
  have hf := fun k => free_at (k := k) r.head
  have b0' : (⟨#[]⟩ : ByteArray) = bs [] := rfl
  have HR := hide r
  clear r
  go_enter Try.func46, Try.ntmps46
  go_wp2
  go_end0
  exact ⟨rfl, HR.out.spoil, set2_g _ _ _ _ _ _⟩
theorem fail_nil (W : World) : Calls Try.prog 46 #[.pointer none] W fun e W' => e = .returned (.tuple #[]) ∧ W' = W := by
  go_enter Try.func46, Try.ntmps46
  go_wp2
  go_end0
  exact ⟨rfl, rfl⟩
theorem pbad_at (r : Pb W q s p bad) : Calls Try.prog 25 #[.pointer (some ⟨q, 0, none⟩)] W fun e W' => e = .returned (.bool bad) ∧ W' = W := by
  have c2 := r.c2
  clear r
  go_enter Try.func25, Try.ntmps25
  go_wp2
  go_ret
  exact ⟨rfl, rfl⟩
theorem pbad_nil (W : World) : Calls Try.prog 25 #[.pointer none] W fun e W' => e = .returned (.bool true) ∧ W' = W := by
  go_enter Try.func25, Try.ntmps25
  go_wp2
  go_ret
  exact ⟨rfl, rfl⟩
theorem pat_at (r : Pb W q s p bad) : Calls Try.prog 26 #[.pointer (some ⟨q, 0, none⟩)] W fun e W' => e = .returned (.int .i64 p) ∧ W' = W := by
  have c1 := r.c1
  clear r
  go_enter Try.func26, Try.ntmps26
  go_wp2
  go_ret
  exact ⟨rfl, rfl⟩
theorem pat_nil (W : World) : Calls Try.prog 26 #[.pointer none] W fun e W' => e = .returned (.int .i64 0) ∧ W' = W := by
  go_enter Try.func26, Try.ntmps26
  go_wp2
  go_ret
  exact ⟨rfl, rfl⟩
theorem bs_toList (l : List UInt8) : (bs l).toList = l := by rw [ByteArray.toList_eq]; simp [bs]
theorem bs_emp (t : List UInt8) : (bs t).toList.isEmpty = t.isEmpty := by rw [bs_toList]
theorem pend_at (r : Pb W q s p bad) : Calls Try.prog 24 #[.pointer (some ⟨q, 0, none⟩)] W fun e W' => e = .returned (.bool (endB s p bad)) ∧ W' = W := by
  have c0 := r.c0
  have HR := hide r
  cases bad
  · have hE : (s.drop p).isEmpty = endB s p false := by
      have := r.le
      cases hd : s.drop p with
      | nil =>
        have := congrArg List.length hd
        simp at this
        simp [endB]
        omega
      | cons c t =>
        have := congrArg List.length hd
        simp at this
        simp [endB]
        omega
    have HE := hide hE
    rw [show lfL s p false = s.drop p from rfl] at c0
    obtain ⟨L, hL⟩ : ∃ L, s.drop p = L := ⟨_, rfl⟩
    rw [hL] at c0 HE
    obtain ⟨B, hB⟩ : ∃ B, L.isEmpty = B := ⟨_, rfl⟩
    have hB' : (bs L).toList.isEmpty = B := by rw [bs_emp, hB]
    rw [hB] at HE
    clear r hE hL hB
    go_enter Try.func24, Try.ntmps24
    go_wp2_with (go_at_call 25; refine (pbad_at HR.out).mono ?_; rintro e w' ⟨rfl, hw⟩; replace hw := hw.symm; subst hw)
    go_ret
    exact ⟨by rw [← HE.out]; rfl, rfl⟩
  · clear r
    go_enter Try.func24, Try.ntmps24
    go_wp2_with (go_at_call 25; refine (pbad_at HR.out).mono ?_; rintro e w' ⟨rfl, hw⟩; replace hw := hw.symm; subst hw)
    go_ret
    exact ⟨rfl, rfl⟩
theorem pend_nil (W : World) : Calls Try.prog 24 #[.pointer none] W fun e W' => e = .returned (.bool false) ∧ W' = W := by
  go_enter Try.func24, Try.ntmps24
  go_wp2_with (go_at_call 25; refine (pbad_nil _).mono ?_; rintro e w' ⟨rfl, hw⟩; replace hw := hw.symm; subst hw)
  go_ret
  exact ⟨rfl, rfl⟩
theorem lf_len (r : Pb W q s p false) : (lfL s p false).length = s.length - p := by simp [lfL]
set_option maxHeartbeats 1000000 in
theorem praw_no (r : Pb W q s p bad) (n : Int) (h : canB s p bad n = false) :
    Calls Try.prog 27 #[.pointer (some ⟨q, 0, none⟩), .int .i64 n] W fun e W' => e = .returned (.string (bs [])) ∧ Pb W' q s p true ∧ W.grownBy W' (some q) := by
  have HR := hide r
  have b0' : (⟨#[]⟩ : ByteArray) = bs [] := rfl
  cases bad
  · by_cases h0 : n < 0
    · clear r h
      go_enter Try.func27, Try.ntmps27
      go_wp2_with (first | (go_at_call 45; refine (rest_at HR.out).mono ?_; rintro e w' ⟨rfl, hw⟩; replace hw := hw.symm; subst hw) | (go_at_call 25; refine (pbad_at HR.out).mono ?_; rintro e w' ⟨rfl, hw⟩; replace hw := hw.symm; subst hw) | (go_at_call 46; refine (fail_at HR.out).mono ?_; rintro e w1 ⟨rfl, h1, h2⟩; have HE := hide (And.intro h1 h2); clear h1 h2))
      go_ret
      exact ⟨rfl, HE.out.1, HE.out.2⟩
    · have hle := r.le
      have hmax := r.max
      have h1 : ((lfL s p false).length : Int) < n := by
        rw [lf_len r]
        simp [canB] at h
        omega
      have hsz := bs_size (lfL s p false)
      have h2 : (lfL s p false).length ≤ 1000000 := by rw [lf_len r]; omega
      have RSC := rest_at r
      generalize lfL s p false = L at h1 h2 hsz RSC
      have HRS := hide RSC
      clear r h RSC
      go_enter Try.func27, Try.ntmps27
      go_wp2_with (first | (go_at_call 45; refine HRS.out.mono ?_; rintro e w' ⟨rfl, hw⟩; replace hw := hw.symm; subst hw) | (go_at_call 25; refine (pbad_at HR.out).mono ?_; rintro e w' ⟨rfl, hw⟩; replace hw := hw.symm; subst hw) | (go_at_call 46; refine (fail_at HR.out).mono ?_; rintro e w1 ⟨rfl, h1, h2⟩; have HE := hide (And.intro h1 h2); clear h1 h2))
      go_ret
      exact ⟨rfl, HE.out.1, HE.out.2⟩
  · clear r h
    go_enter Try.func27, Try.ntmps27
    go_wp2_with (first | (go_at_call 45; refine (rest_at HR.out).mono ?_; rintro e w' ⟨rfl, hw⟩; replace hw := hw.symm; subst hw) | (go_at_call 25; refine (pbad_at HR.out).mono ?_; rintro e w' ⟨rfl, hw⟩; replace hw := hw.symm; subst hw) | (go_at_call 46; refine (fail_at HR.out).mono ?_; rintro e w1 ⟨rfl, h1, h2⟩; have HE := hide (And.intro h1 h2); clear h1 h2))
    go_ret
    exact ⟨rfl, HE.out.1, HE.out.2⟩
theorem praw_nil (W : World) (n : Int) :
    Calls Try.prog 27 #[.pointer none, .int .i64 n] W fun e W' => e = .returned (.string (bs [])) ∧ W' = W := by
  have b0' : (⟨#[]⟩ : ByteArray) = bs [] := rfl
  go_enter Try.func27, Try.ntmps27
  go_wp2_with (first | (go_at_call 45; refine (rest_nil _).mono ?_; rintro e w' ⟨rfl, hw⟩; replace hw := hw.symm; subst hw) | (go_at_call 25; refine (pbad_nil _).mono ?_; rintro e w' ⟨rfl, hw⟩; replace hw := hw.symm; subst hw) | (go_at_call 46; refine (fail_nil _).mono ?_; rintro e w' ⟨rfl, hw⟩; replace hw := hw.symm; subst hw))
  go_ret
  exact ⟨rfl, rfl⟩
theorem bs_from (l : List UInt8) (a : Nat) : (bs l).extract a l.length = bs (l.drop a) := by
  rw [bs_ext, List.take_of_length_le (by simp)]
theorem bs_upto (l : List UInt8) (b : Nat) : (bs l).extract 0 b = bs (l.take b) := by rw [bs_ext]; simp
set_option maxHeartbeats 1000000 in
theorem praw_yes (r : Pb W q s p false) (n : Nat) (h : p + n ≤ s.length) :
    Calls Try.prog 27 #[.pointer (some ⟨q, 0, none⟩), .int .i64 n] W fun e W' => e = .returned (.string (bs ((s.drop p).take n))) ∧ Pb W' q s (p + n) false ∧ W.grownBy W' (some q) := by
  have HR := hide r
  have hle := r.le
  have hmax := r.max
  have c1 := r.c1
  have hf := fun k => free_at (k := k) r.head
  have HM := hide (r.move h)
  obtain ⟨L, hL⟩ : ∃ L, s.drop p = L := ⟨_, rfl⟩
  have hlf : lfL s p false = L := hL
  have hdr : s.drop (p + n) = L.drop n := by rw [← hL, List.drop_drop]
  rw [hL]
  rw [hdr] at HM
  have hsz := bs_size L
  have hLl : L.length = s.length - p := by rw [← hL]; simp
  have i1 : ¬ (n : Int) < 0 := by omega
  have i2 : ¬ (L.length : Int) < n := by omega
  have i3 : (n : Int) ≤ L.length := by omega
  have i4 : n ≤ L.length := by omega
  have hx := bs_from L n
  have hy := bs_upto L n
  rw [Int.natCast_add] at HM
  have HW := hide (set2_g W q 0 1 (.string (bs (L.drop n))) (.int .i64 ((p : Int) + n)))
  have RSC := rest_at r
  rw [hlf] at RSC
  have HRS := hide RSC
  have c0 := r.c0
  rw [hlf] at c0
  clear r hlf hL hdr RSC hLl
  go_enter Try.func27, Try.ntmps27
  go_wp2_with (first | (go_at_call 45; refine HRS.out.mono ?_; rintro e w' ⟨rfl, hw⟩; replace hw := hw.symm; subst hw) | (go_at_call 25; refine (pbad_at HR.out).mono ?_; rintro e w' ⟨rfl, hw⟩; replace hw := hw.symm; subst hw))
  go_ret
  exact ⟨rfl, HM.out, HW.out⟩
theorem pbyte_no (r : Pb W q s p bad) (h : bad = true ∨ s.length < p + 1) :
    Calls Try.prog 20 #[.pointer (some ⟨q, 0, none⟩)] W fun e W' => e = .returned (.int .i64 0) ∧ Pb W' q s p true ∧ W.grownBy W' (some q) := by
  have HRW := hide (praw_no r ((1 : Nat) : Int) (no_more h))
  have hemp : (bs []).toList.isEmpty = true := by rw [bs_emp]; rfl
  clear r h
  go_enter Try.func20, Try.ntmps20
  go_wp2_with (go_at_call 27; refine HRW.out.mono ?_; rintro e w1 ⟨rfl, h1, h2⟩; have HE := hide (And.intro h1 h2); clear h1 h2)
  go_ret
  exact ⟨rfl, HE.out.1, HE.out.2⟩
theorem pbyte_nil (W : World) : Calls Try.prog 20 #[.pointer none] W fun e W' => e = .returned (.int .i64 0) ∧ W' = W := by
  have hemp : (bs []).toList.isEmpty = true := by rw [bs_emp]; rfl
  go_enter Try.func20, Try.ntmps20
  go_wp2_with (go_at_call 27; refine (praw_nil _ _).mono ?_; rintro e w' ⟨rfl, hw⟩; replace hw := hw.symm; subst hw)
  go_ret
  exact ⟨rfl, rfl⟩
theorem pbyte_yes {c : UInt8} (r : Pb W q s p false) (h : s[p]? = some c) :
    Calls Try.prog 20 #[.pointer (some ⟨q, 0, none⟩)] W fun e W' => e = .returned (.int .i64 (c.toNat : Int)) ∧ Pb W' q s (p + 1) false ∧ W.grownBy W' (some q) := by
  obtain ⟨hlt, hc⟩ := List.getElem?_eq_some_iff.1 h
  have e1 : (s.drop p).take 1 = [c] := by rw [List.drop_eq_getElem_cons hlt, hc]; rfl
  have HRW := hide (e1 ▸ praw_yes r 1 (by omega))
  have hz := bs_size [c]
  have hb := bs_one c
  have hemp : (bs [c]).toList.isEmpty = false := by rw [bs_emp]; rfl
  have hc1 : (c.toNat : Int) < 256 := by have := c.toNat_lt; omega
  clear r h hc hlt e1
  go_enter Try.func20, Try.ntmps20
  go_wp2_with (go_at_call 27; refine HRW.out.mono ?_; rintro e w1 ⟨rfl, h1, h2⟩; have HE := hide (And.intro h1 h2); clear h1 h2)
  go_ret
  exact ⟨by simp, HE.out.1, HE.out.2⟩
theorem read_new (W : World) (s : List UInt8) (h : s.length ≤ 1000000) :
    Calls Try.prog 14 #[.string (bs s)] W fun e W' => e = .returned (.pointer (some ⟨W.heap.size, 0, none⟩)) ∧ Pb W' W.heap.size s 0 false ∧ W.grownBy W' none := by
  have HH := hide h
  clear h
  go_enter Try.func14, Try.ntmps14
  go_wp2
  go_ret
  exact ⟨rfl, ⟨heap_alloc_new _ _, Nat.zero_le _, HH.out⟩, ⟨rfl, rfl, rfl, by simp, fun i hi _ => heap_alloc_old _ _ hi⟩⟩
end
end Go.Proofs.Ytolfhkcfepkfdaa.Ri
