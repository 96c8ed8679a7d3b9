/-
  A reader and the document's own: the law's get.
-/
import Derived.Test.YtolfhkcfepkfdaaGt1
import Derived.Test.YtolfhkcfepkfdaaRiarg
import Derived.Deep.RegionHeld3
import Derived.Deep.Cut
import Derived.BigQuiet
namespace Go.Proofs.Ytolfhkcfepkfdaa.Ri
open Go.RowKit Go.Proofs.Ytolfhkcfepkfdaa.Tx Go.Proofs.Ytolfhkcfepkfdaa.Bits
set_option linter.unusedVariables false
set_option linter.unusedSimpArgs false
set_option maxRecDepth 100000

section
variable {w W : World} {q g p : Nat} {s : List UInt8} {bad : Bool}
set_option maxHeartbeats 1000000 in
theorem get_zero (t : Tr w W q g s p bad p bad) (n : Int) (x : List UInt8) :
    Calls Try.prog 15 #[.pointer (some ⟨q, 0, none⟩), .pointer (some ⟨g, 0, none⟩), .agg #[.int .i64 0, .int .i64 n, .string (bs x)]] W fun e W' => e = .returned (.bool true) ∧ ∃ p' b', Tr w W' q g s p' b' p' b' := by
  obtain ⟨v, p', b', hp, hq⟩ := byte_pair s p bad
  have HP := hide hp
  have HQ := hide hq
  have HT := hide (t.kept (alloc_g W (.cells #[.int .i64 0, .int .i64 n, .string (bs x)] 30)))
  clear t hp hq
  go_enter Try.func15, Try.ntmps15
  go_wp2_with (first | (go_at_call 20; refine (HP.out _ _ HT.out.pb).mono ?_; rintro e w1 ⟨rfl, h1, h2⟩; have HT1 := hide (HT.out.one h1 h2); clear h1 h2) | (go_at_call 32; refine (HQ.out _ _ HT1.out.rb).mono ?_; rintro e w2 ⟨rfl, h1, h2⟩; have HT2 := hide (HT1.out.two h1 h2); have c1 := HT2.out.rb.c1; clear h1 h2))
  (go_quiet (first | (go_at_call 26; exact Calls.quiet_of_same (pat_at (HT2.out.pb.kept (drewN_g _ _)))) | (go_at_call 25; exact Calls.quiet_of_same (pbad_at (HT2.out.pb.kept (drewN_g _ _)))) | (go_at_call 24; exact Calls.quiet_of_same (pend_at (HT2.out.pb.kept (drewN_g _ _)))) | (go_at_call 37; exact Calls.quiet_of_same (bad_at (HT2.out.rb.kept (drewN_g _ _)))) | (go_at_call 38; exact Calls.quiet_of (rend_at (HT2.out.rb.kept (drewN_g _ _)))))); go_wp2; go_ret; exact ⟨rfl, _, _, HT2.out.kept (drewN_g _ _)⟩
set_option maxHeartbeats 1000000 in
theorem get_one (t : Tr w W q g s p bad p bad) (n : Int) (x : List UInt8) :
    Calls Try.prog 15 #[.pointer (some ⟨q, 0, none⟩), .pointer (some ⟨g, 0, none⟩), .agg #[.int .i64 1, .int .i64 n, .string (bs x)]] W fun e W' => e = .returned (.bool true) ∧ ∃ p' b', Tr w W' q g s p' b' p' b' := by
  obtain ⟨v, p', b', hp, hq⟩ := num_pair s p bad
  have HP := hide hp
  have HQ := hide hq
  have HT := hide (t.kept (alloc_g W (.cells #[.int .i64 1, .int .i64 n, .string (bs x)] 30)))
  clear t hp hq
  go_enter Try.func15, Try.ntmps15
  go_wp2_with (first | (go_at_call 21; refine (HP.out _ _ HT.out.pb).mono ?_; rintro e w1 ⟨rfl, h1, h2⟩; have HT1 := hide (HT.out.one h1 h2); clear h1 h2) | (go_at_call 33; refine (HQ.out _ _ HT1.out.rb).mono ?_; rintro e w2 ⟨rfl, h1, h2⟩; have HT2 := hide (HT1.out.two h1 h2); have c1 := HT2.out.rb.c1; clear h1 h2))
  (go_quiet (first | (go_at_call 26; exact Calls.quiet_of_same (pat_at (HT2.out.pb.kept (drewN_g _ _)))) | (go_at_call 25; exact Calls.quiet_of_same (pbad_at (HT2.out.pb.kept (drewN_g _ _)))) | (go_at_call 24; exact Calls.quiet_of_same (pend_at (HT2.out.pb.kept (drewN_g _ _)))) | (go_at_call 37; exact Calls.quiet_of_same (bad_at (HT2.out.rb.kept (drewN_g _ _)))) | (go_at_call 38; exact Calls.quiet_of (rend_at (HT2.out.rb.kept (drewN_g _ _)))))); go_wp2; go_ret; exact ⟨rfl, _, _, HT2.out.kept (drewN_g _ _)⟩
set_option maxHeartbeats 1000000 in
theorem get_two (t : Tr w W q g s p bad p bad) (n : Int) (x : List UInt8) :
    Calls Try.prog 15 #[.pointer (some ⟨q, 0, none⟩), .pointer (some ⟨g, 0, none⟩), .agg #[.int .i64 2, .int .i64 n, .string (bs x)]] W fun e W' => e = .returned (.bool true) ∧ ∃ p' b', Tr w W' q g s p' b' p' b' := by
  obtain ⟨v, p', b', hp, hq⟩ := word_pair s p bad
  have HP := hide hp
  have HQ := hide hq
  have HT := hide (t.kept (alloc_g W (.cells #[.int .i64 2, .int .i64 n, .string (bs x)] 30)))
  clear t hp hq
  go_enter Try.func15, Try.ntmps15
  go_wp2_with (first | (go_at_call 22; refine (HP.out _ _ HT.out.pb).mono ?_; rintro e w1 ⟨rfl, h1, h2⟩; have HT1 := hide (HT.out.one h1 h2); clear h1 h2) | (go_at_call 34; refine (HQ.out _ _ HT1.out.rb).mono ?_; rintro e w2 ⟨rfl, h1, h2⟩; have HT2 := hide (HT1.out.two h1 h2); have c1 := HT2.out.rb.c1; clear h1 h2))
  (go_quiet (first | (go_at_call 26; exact Calls.quiet_of_same (pat_at (HT2.out.pb.kept (drewN_g _ _)))) | (go_at_call 25; exact Calls.quiet_of_same (pbad_at (HT2.out.pb.kept (drewN_g _ _)))) | (go_at_call 24; exact Calls.quiet_of_same (pend_at (HT2.out.pb.kept (drewN_g _ _)))) | (go_at_call 37; exact Calls.quiet_of_same (bad_at (HT2.out.rb.kept (drewN_g _ _)))) | (go_at_call 38; exact Calls.quiet_of (rend_at (HT2.out.rb.kept (drewN_g _ _)))))); go_wp2; go_ret; exact ⟨rfl, _, _, HT2.out.kept (drewN_g _ _)⟩
set_option maxHeartbeats 1000000 in
theorem get_three (t : Tr w W q g s p bad p bad) (n : Int) (x : List UInt8) :
    Calls Try.prog 15 #[.pointer (some ⟨q, 0, none⟩), .pointer (some ⟨g, 0, none⟩), .agg #[.int .i64 3, .int .i64 n, .string (bs x)]] W fun e W' => e = .returned (.bool true) ∧ ∃ p' b', Tr w W' q g s p' b' p' b' := by
  obtain ⟨v, p', b', hp, hq⟩ := text_pair s p bad
  have HP := hide hp
  have HQ := hide hq
  have HT := hide (t.kept (alloc_g W (.cells #[.int .i64 3, .int .i64 n, .string (bs x)] 30)))
  have heq : ((bs v).toList == (bs v).toList) = true := by simp
  clear t hp hq
  go_enter Try.func15, Try.ntmps15
  go_wp2_with (first | (go_at_call 23; refine (HP.out _ _ HT.out.pb).mono ?_; rintro e w1 ⟨rfl, h1, h2⟩; have HT1 := hide (HT.out.one h1 h2); clear h1 h2) | (go_at_call 35; refine (HQ.out _ _ HT1.out.rb).mono ?_; rintro e w2 ⟨rfl, h1, h2⟩; have HT2 := hide (HT1.out.two h1 h2); have c1 := HT2.out.rb.c1; clear h1 h2))
  (go_quiet (first | (go_at_call 26; exact Calls.quiet_of_same (pat_at (HT2.out.pb.kept (drewN_g _ _)))) | (go_at_call 25; exact Calls.quiet_of_same (pbad_at (HT2.out.pb.kept (drewN_g _ _)))) | (go_at_call 24; exact Calls.quiet_of_same (pend_at (HT2.out.pb.kept (drewN_g _ _)))) | (go_at_call 37; exact Calls.quiet_of_same (bad_at (HT2.out.rb.kept (drewN_g _ _)))) | (go_at_call 38; exact Calls.quiet_of (rend_at (HT2.out.rb.kept (drewN_g _ _)))))); go_wp2; go_ret; exact ⟨rfl, _, _, HT2.out.kept (drewN_g _ _)⟩
set_option maxHeartbeats 1000000 in
theorem get_other (t : Tr w W q g s p bad p bad) (k n : Int) (x : List UInt8) (k0 : (k == 0) = false) (k1 : (k == 1) = false) (k2 : (k == 2) = false) (k3 : (k == 3) = false) (k4 : (k == 4) = false) :
    Calls Try.prog 15 #[.pointer (some ⟨q, 0, none⟩), .pointer (some ⟨g, 0, none⟩), .agg #[.int .i64 k, .int .i64 n, .string (bs x)]] W fun e W' => e = .returned (.bool true) ∧ ∃ p' b', Tr w W' q g s p' b' p' b' := by
  obtain ⟨V, hV⟩ : ∃ V, W.alloc (.cells #[.int .i64 k, .int .i64 n, .string (bs x)] 30) = V := ⟨_, rfl⟩
  have gv : W.grownBy V none := by rw [← hV]; exact alloc_g _ _
  have HT2 := hide (t.kept gv)
  have c1 := HT2.out.rb.c1
  have x0 : V.cell? ⟨W.heap.size, 0, none⟩ = some (.int .i64 k) := by rw [← hV]; simp
  clear t gv
  go_enter Try.func15, Try.ntmps15
  go_wp2
  (go_quiet (first | (go_at_call 26; exact Calls.quiet_of_same (pat_at (HT2.out.pb.kept (drewN_g _ _)))) | (go_at_call 25; exact Calls.quiet_of_same (pbad_at (HT2.out.pb.kept (drewN_g _ _)))) | (go_at_call 24; exact Calls.quiet_of_same (pend_at (HT2.out.pb.kept (drewN_g _ _)))) | (go_at_call 37; exact Calls.quiet_of_same (bad_at (HT2.out.rb.kept (drewN_g _ _)))) | (go_at_call 38; exact Calls.quiet_of (rend_at (HT2.out.rb.kept (drewN_g _ _)))))); go_wp2; go_ret; exact ⟨rfl, _, _, HT2.out.kept (drewN_g _ _)⟩
theorem held_q {W W' : World} {q X : Nat} {a b : Array Value} {ta tb : TypeId} (h : W.heap[q]? = some (.cells a ta (0, 0))) (hx : W.heap[X]? = some (.cells b tb (0, 0))) (hg : W.grownBy W' (some q)) (hne : ta ≠ tb) : W'.heap[X]? = some (.cells b tb (0, 0)) :=
  (hg.block X (Array.getElem?_eq_some_iff.1 hx).1 (fun e => by
    have e := Option.some.inj e
    subst e
    rw [h] at hx
    exact hne (Obj.cells.inj (Option.some.inj hx)).2.1)).trans hx
theorem it_1 {W : World} {X : Nat} {a b c : Value} {t : TypeId} (h : W.heap[X]? = some (.cells #[a, b, c] t (0, 0))) : W.cell? ⟨X, 1, none⟩ = some b := by rw [cell_of_row _ _ _ _ _ _ h]; rfl
set_option maxHeartbeats 2000000 in
theorem get_four (t : Tr w W q g s p bad p bad) (n : Int) (x : List UInt8) :
    Calls Try.prog 15 #[.pointer (some ⟨q, 0, none⟩), .pointer (some ⟨g, 0, none⟩), .agg #[.int .i64 4, .int .i64 n, .string (bs x)]] W fun e W' => e = .returned (.bool true) ∧ ∃ p' b', Tr w W' q g s p' b' p' b' := by
  obtain ⟨v, p', b', hp, hq⟩ := raw_pair s p bad n
  have HP := hide hp
  have HQ := hide hq
  have heq : ((bs v).toList == (bs v).toList) = true := by simp
  obtain ⟨V, hV⟩ : ∃ V, W.alloc (.cells #[.int .i64 4, .int .i64 n, .string (bs x)] 30) = V := ⟨_, rfl⟩
  have gv : W.grownBy V none := by rw [← hV]; exact alloc_g _ _
  have HT := hide (t.kept gv)
  have BX := hide (show V.heap[W.heap.size]? = some (.cells #[.int .i64 4, .int .i64 n, .string (bs x)] 30 (0, 0)) by rw [← hV]; exact heap_alloc_new _ _)
  have x0 : V.cell? ⟨W.heap.size, 0, none⟩ = some (.int .i64 4) := by rw [← hV]; simp
  have x1 := it_1 BX.out
  clear t hp hq gv
  go_enter Try.func15, Try.ntmps15
  go_upto_region 12 with fail
  generalize W.heap.size = X at BX x0 x1 ⊢
  have HD := hide (HT.out.kept (drew_g V))
  have BD := hide (show V.drew.heap[X]? = _ from BX.out)
  go_region_held3 (fun W => W.cell? ⟨X, 1, none⟩ = some (.int .i64 n)) (first | exact x1 | exact y1 | exact y2) (first | (go_at_call 36; refine (HQ.out _ _ HT1.out.rb).mono ?_; rintro e w2 ⟨rfl, h1, h2⟩; have B2 := hide (held_q HT1.out.rb.head B1.out h2 (by decide)); have y2 := it_1 B2.out; have HT2 := hide (HT1.out.two h1 h2); have c1 := HT2.out.rb.c1; clear h1 h2) | (go_at_call 27; refine (HP.out _ _ HD.out.pb).mono ?_; rintro e w1 ⟨rfl, h1, h2⟩; have B1 := hide (held_q HD.out.pb.head BD.out h2 (by decide)); have y1 := it_1 B1.out; have HT1 := hide (HD.out.one h1 h2); clear h1 h2))
  all_goals go_wp2
  all_goals ((go_quiet (first | (go_at_call 26; exact Calls.quiet_of_same (pat_at (HT2.out.pb.kept (drewN_g _ _)))) | (go_at_call 25; exact Calls.quiet_of_same (pbad_at (HT2.out.pb.kept (drewN_g _ _)))) | (go_at_call 24; exact Calls.quiet_of_same (pend_at (HT2.out.pb.kept (drewN_g _ _)))) | (go_at_call 37; exact Calls.quiet_of_same (bad_at (HT2.out.rb.kept (drewN_g _ _)))) | (go_at_call 38; exact Calls.quiet_of (rend_at (HT2.out.rb.kept (drewN_g _ _)))))); go_wp2; go_ret; exact ⟨rfl, _, _, HT2.out.kept (drewN_g _ _)⟩)
theorem get_any (t : Tr w W q g s p bad p bad) (k n : Int) (x : List UInt8) :
    Calls Try.prog 15 #[.pointer (some ⟨q, 0, none⟩), .pointer (some ⟨g, 0, none⟩), .agg #[.int .i64 k, .int .i64 n, .string (bs x)]] W fun e W' => e = .returned (.bool true) ∧ ∃ p' b', Tr w W' q g s p' b' p' b' := by
  by_cases h0 : k = 0
  · subst h0; exact get_zero t n x
  by_cases h1 : k = 1
  · subst h1; exact get_one t n x
  by_cases h2 : k = 2
  · subst h2; exact get_two t n x
  by_cases h3 : k = 3
  · subst h3; exact get_three t n x
  by_cases h4 : k = 4
  · subst h4; exact get_four t n x
  exact get_other t k n x (by simpa using h0) (by simpa using h1) (by simpa using h2) (by simpa using h3) (by simpa using h4)
end
end Go.Proofs.Ytolfhkcfepkfdaa.Ri
