/-
  For every number and every place, the law MemoryEnds answers true: just the words that are there are there, and a nil memory has none; no conditions.
-/
import Derived.Test.YthdmlcendkmnbaaRows
import Derived.Test.YthdmlcendkmnbaaMargs
import Derived.WalkKit
import Derived.ProofKit
import Derived.Below

namespace Go.Proofs.Ythdmlcendkmnbaa.memoryEnds
open Go.ChangeShapes Go.WideShapes Go.ChangeAt Go.RowKit Go.Proofs.Ythdmlcendkmnbaa.Mem Go.Proofs.Ythdmlcendkmnbaa.Bits
set_option linter.unusedVariables false

theorem made_arr {w : World} {B g k : Nat} (h : w.ownsRow B 34 1 (.slice (some ⟨g, 0, none⟩) k k) k (madeCells (Value.int .u32 0).cells (k * 1)).toList) : Arr w g k (List.replicate k 0) := by
  have hl : (madeCells (Value.int .u32 0).cells (k * 1)).toList = (List.replicate k (0 : Int)).map wd := by
    apply List.ext_getElem?
    intro i
    by_cases hi : i < k
    · simp [madeCells, hi, Value.cells, Nat.mod_one]
    · simp [madeCells, hi]
  rw [hl] at h
  obtain ⟨b, c, e, _, ha⟩ := arr_own h (fun x hx => by have := List.eq_of_mem_replicate hx; omega) (by simp)
  cases e
  exact ha
set_option maxHeartbeats 2000000 in

theorem walk (w : World) (a0 : Int) (w0 : (Lit.int .u16 a0).wf = true) (a1 : Int) (w1 : (Lit.int .u32 a1).wf = true) :
    Calls Try.prog 5 #[.int .u16 a0, .int .u32 a1] w fun e w' => e = .returned (.bool true) ∧ Below w.heap.size w w' := by
  obtain ⟨x0, x1⟩ := bounds_u16 w0
  obtain ⟨p0, p1⟩ := bounds_u32 w1
  obtain ⟨i0, hi, hz0, hz1, hz2⟩ := info_parts Try.info34
  obtain ⟨k, hk⟩ : ∃ k : Nat, a0 % 70 = k := ⟨(a0 % 70).toNat, by omega⟩
  have hk1 : k < 70 := by omega
  obtain ⟨xs, hxs⟩ : ∃ xs, xs = List.replicate k (0 : Int) := ⟨_, rfl⟩
  have hl : xs.length = k := by rw [hxs]; simp
  have HL : Hid (xs.length = k) := hl
  have HX : Hid (xs = List.replicate k (0 : Int)) := hxs
  have e1 : thB xs a1 = decide (a1 / 4 < k) := by unfold thB; rw [hl]
  have e2 : beB xs a1 = (decide (a1 / 4 < k) && (a1 % 4 == 0)) := by unfold beB; rw [hl]
  have e3 : thB [] a1 = false := by simp [thB]; omega
  have e4 : beB [] a1 = false := by simp [beB]; omega
  clear hxs hl
  obtain ⟨B, hBB⟩ : ∃ B, B = w.heap.size := ⟨_, rfl⟩
  have HBB : Hid (B = w.heap.size) := hBB
  have HB : Hid (Below B w w) := Below.refl _ _
  rw [← hBB]
  clear hBB
  have p1' : a1 < 4294967296 := by omega
  cases h1 : decide (a1 / 4 < k)
  · rw [h1] at e1 e2
    simp only [Bool.false_and] at e2
    go_enter Try.func5, Try.ntmps5
    go_wp2_with (first | (at_make; refine wpList_make_full _ rfl _ _ 22 rfl w.heap.size 34 i0 (.int .u32 0) 1 Try.underlying22 hi hz0 hz1 .i64 .i64 _ _ k rfl rfl (by first | rfl | omega) (by first | rfl | omega) (by rw [hz2]; omega) (by unfold maxLen; omega) (Nat.le_refl _) ?_; intro w1 hown1 hg1; have HA := hid (made_arr hown1); clear hown1; have HB1 := bn HB HBB hg1; clear hg1) | (go_at_call 8; refine (new_n HA.out.src HA.out.rng (by simp) (by omega)).mono ?_; rintro e w2 ⟨a, b, rfl, hg, hm, hab, hbb⟩; rw [← HX.out] at hm; have HM := hid hm.ob; clear hm; have HB2 := bn HB1 HBB hg; clear hg) | (go_at_call_of 13 (Value.pointer none); refine (load_ob (Ob.nil _ _ 0) _ p0 p1').mono ?_; rw [e4]; rintro e w' ⟨rfl, rfl⟩) | (go_at_call_of 17 (Value.pointer none); refine (byte_v (Ob.nil _ _ 0) _ p0 p1').mono ?_; rw [e3]; rintro e wc ⟨rfl, hg⟩; have HB4 := bn HB3 HBB hg; clear hg) | (go_at_call 13; refine (load_ob HM.out _ p0 p1').mono ?_; rw [e2]; rintro e w' ⟨rfl, rfl⟩) | (go_at_call 17; refine (byte_v HM.out _ p0 p1').mono ?_; rw [e1]; rintro e wb ⟨rfl, hg⟩; have HB3 := bn HB2 HBB hg; clear hg) | (go_at_call 21; refine (words_nil _).mono ?_; rintro e w3 ⟨g, rfl, hg, _⟩; have HB5 := bn HB4 HBB hg; clear hg) | (go_at_call 10; refine (size_nil _).mono ?_; rintro e w' ⟨rfl, rfl⟩) | (go_at_call 23; refine (fork_nil _).mono ?_; rintro e w' ⟨rfl, rfl⟩) | (go_at_call 15; refine (store_ob (Ob.nil _ _ B) _ _ p0 p1' (by decide) (by decide)).mono ?_; rw [e4]; rintro e w4 ⟨rfl, hg, _⟩; have HB6 := bs HB5 HBB (Nat.le_refl _) hg; clear hg) | (go_at_call 19; refine (putb_ob (Ob.nil _ _ B) _ _ p0 p1' (by decide) (by decide)).mono ?_; rw [e3]; rintro e w5 ⟨rfl, hg, _⟩; have HB7 := bs HB6 HBB (Nat.le_refl _) hg; clear hg) | (go_at_call 7; refine (wakes_any _).mono ?_; rintro e w6 ⟨rfl, hg⟩; have HB8 := bn HB7 HBB hg; clear hg))
    all_goals go_ret
    all_goals exact ⟨rfl, HB8.out⟩
  · rw [h1] at e1 e2
    have h1' : a1 / 4 < k := by simpa using h1
    simp only [Bool.true_and] at e2
    by_cases h2 : a1 % 4 = 0
    · have e2' : beB xs a1 = true := by rw [e2, h2]; rfl
      clear e2
      have e2 := e2'
      clear e2'
      go_enter Try.func5, Try.ntmps5
      go_wp2_with (first | (at_make; refine wpList_make_full _ rfl _ _ 22 rfl w.heap.size 34 i0 (.int .u32 0) 1 Try.underlying22 hi hz0 hz1 .i64 .i64 _ _ k rfl rfl (by first | rfl | omega) (by first | rfl | omega) (by rw [hz2]; omega) (by unfold maxLen; omega) (Nat.le_refl _) ?_; intro w1 hown1 hg1; have HA := hid (made_arr hown1); clear hown1; have HB1 := bn HB HBB hg1; clear hg1) | (go_at_call 8; refine (new_n HA.out.src HA.out.rng (by simp) (by omega)).mono ?_; rintro e w2 ⟨a, b, rfl, hg, hm, hab, hbb⟩; rw [← HX.out] at hm; have HM := hid hm.ob; clear hm; have HB2 := bn HB1 HBB hg; clear hg) | (go_at_call_of 13 (Value.pointer none); refine (load_ob (Ob.nil _ _ 0) _ p0 p1').mono ?_; rw [e4]; rintro e w' ⟨rfl, rfl⟩) | (go_at_call_of 17 (Value.pointer none); refine (byte_v (Ob.nil _ _ 0) _ p0 p1').mono ?_; rw [e3]; rintro e wc ⟨rfl, hg⟩; have HB4 := bn HB3 HBB hg; clear hg) | (go_at_call 13; refine (load_ob HM.out _ p0 p1').mono ?_; rw [e2]; rintro e w' ⟨rfl, rfl⟩) | (go_at_call 17; refine (byte_v HM.out _ p0 p1').mono ?_; rw [e1]; rintro e wb ⟨rfl, hg⟩; have HB3 := bn HB2 HBB hg; clear hg) | (go_at_call 21; refine (words_nil _).mono ?_; rintro e w3 ⟨g, rfl, hg, _⟩; have HB5 := bn HB4 HBB hg; clear hg) | (go_at_call 10; refine (size_nil _).mono ?_; rintro e w' ⟨rfl, rfl⟩) | (go_at_call 23; refine (fork_nil _).mono ?_; rintro e w' ⟨rfl, rfl⟩) | (go_at_call 15; refine (store_ob (Ob.nil _ _ B) _ _ p0 p1' (by decide) (by decide)).mono ?_; rw [e4]; rintro e w4 ⟨rfl, hg, _⟩; have HB6 := bs HB5 HBB (Nat.le_refl _) hg; clear hg) | (go_at_call 19; refine (putb_ob (Ob.nil _ _ B) _ _ p0 p1' (by decide) (by decide)).mono ?_; rw [e3]; rintro e w5 ⟨rfl, hg, _⟩; have HB7 := bs HB6 HBB (Nat.le_refl _) hg; clear hg) | (go_at_call 7; refine (wakes_any _).mono ?_; rintro e w6 ⟨rfl, hg⟩; have HB8 := bn HB7 HBB hg; clear hg))
      all_goals go_ret
      all_goals exact ⟨rfl, HB8.out⟩
    · have e2' : beB xs a1 = false := by rw [e2]; simpa using h2
      clear e2
      have e2 := e2'
      clear e2'
      go_enter Try.func5, Try.ntmps5
      go_wp2_with (first | (at_make; refine wpList_make_full _ rfl _ _ 22 rfl w.heap.size 34 i0 (.int .u32 0) 1 Try.underlying22 hi hz0 hz1 .i64 .i64 _ _ k rfl rfl (by first | rfl | omega) (by first | rfl | omega) (by rw [hz2]; omega) (by unfold maxLen; omega) (Nat.le_refl _) ?_; intro w1 hown1 hg1; have HA := hid (made_arr hown1); clear hown1; have HB1 := bn HB HBB hg1; clear hg1) | (go_at_call 8; refine (new_n HA.out.src HA.out.rng (by simp) (by omega)).mono ?_; rintro e w2 ⟨a, b, rfl, hg, hm, hab, hbb⟩; rw [← HX.out] at hm; have HM := hid hm.ob; clear hm; have HB2 := bn HB1 HBB hg; clear hg) | (go_at_call_of 13 (Value.pointer none); refine (load_ob (Ob.nil _ _ 0) _ p0 p1').mono ?_; rw [e4]; rintro e w' ⟨rfl, rfl⟩) | (go_at_call_of 17 (Value.pointer none); refine (byte_v (Ob.nil _ _ 0) _ p0 p1').mono ?_; rw [e3]; rintro e wc ⟨rfl, hg⟩; have HB4 := bn HB3 HBB hg; clear hg) | (go_at_call 13; refine (load_ob HM.out _ p0 p1').mono ?_; rw [e2]; rintro e w' ⟨rfl, rfl⟩) | (go_at_call 17; refine (byte_v HM.out _ p0 p1').mono ?_; rw [e1]; rintro e wb ⟨rfl, hg⟩; have HB3 := bn HB2 HBB hg; clear hg) | (go_at_call 21; refine (words_nil _).mono ?_; rintro e w3 ⟨g, rfl, hg, _⟩; have HB5 := bn HB4 HBB hg; clear hg) | (go_at_call 10; refine (size_nil _).mono ?_; rintro e w' ⟨rfl, rfl⟩) | (go_at_call 23; refine (fork_nil _).mono ?_; rintro e w' ⟨rfl, rfl⟩) | (go_at_call 15; refine (store_ob (Ob.nil _ _ B) _ _ p0 p1' (by decide) (by decide)).mono ?_; rw [e4]; rintro e w4 ⟨rfl, hg, _⟩; have HB6 := bs HB5 HBB (Nat.le_refl _) hg; clear hg) | (go_at_call 19; refine (putb_ob (Ob.nil _ _ B) _ _ p0 p1' (by decide) (by decide)).mono ?_; rw [e3]; rintro e w5 ⟨rfl, hg, _⟩; have HB7 := bs HB6 HBB (Nat.le_refl _) hg; clear hg) | (go_at_call 7; refine (wakes_any _).mono ?_; rintro e w6 ⟨rfl, hg⟩; have HB8 := bn HB7 HBB hg; clear hg))
      all_goals go_ret
      all_goals exact ⟨rfl, HB8.out⟩

set_option maxRecDepth 100000 in
theorem lifted (os : Os) (started : os.Started) (H : Type) (enc : TypeId × Value → H) :
    ReturnsInHanded {} Try.checked os 5 .any (Rows.memoryEndsSpec.pre6 enc Try.prog Try.f5 Rows.memoryEndsRow.domain false) (Rows.memoryEndsSpec.post enc Try.prog Try.f5 false true false false) := by
  refine returnsInHanded_of_change (C := Try.checked) own started (by kernel_rfl) Try.func5
    (ChangeSpec.witness6 (enc := enc) (C := Try.checked) false ⟨#[], #[.int .u16 0, .int .u32 0], []⟩ 8 (by kernel_rfl) (by kernel_rfl) (by kernel_rfl) (by kernel_rfl)) ?_
  intro W base args ds gs before hval0 hW hcnd _
  have hval : ∀ (j : Nat) t v, Try.f5.params[j]? = some t → args[j]? = some v → Value.okWide Try.prog W .any base t v := hval0
  have hW' := hW
  obtain ⟨p, q, hA0, hV, rfl, hfz, hnd⟩ := hW
  have hA : DataW.TrodAll enc Try.prog W 0 (fun _ => true) true Try.f5.params.toList args.toList ds p := hA0
  rw [Try.params5] at hA hval
  obtain ⟨v0, vs0, d0, ds0, p0, q0, hargs, rfl, rfl, h0, r0⟩ := trodAll_cons hA
  obtain ⟨v1, vs1, d1, ds1, p1, q1, rfl, rfl, rfl, h1, r1⟩ := trodAll_cons r0
  obtain ⟨rfl, rfl, rfl⟩ := trodAll_nil r1
  obtain rfl : args = #[v0, v1] := by cases args; simp_all
  obtain ⟨rfl, rfl⟩ := trodVars_none hV
  obtain ⟨a0, rfl, rfl, rfl, w0⟩ := open_int Try.underlying46 (hval 0 46 v0 rfl rfl) h0
  obtain ⟨a1, rfl, rfl, rfl, w1⟩ := open_int Try.underlying34 (hval 1 34 v1 rfl rfl) h1
  clear hA0 hval0
  refine (walk W a0 w0 a1 w1).mono fun e W' ⟨he, bel⟩ => ?_
  subst he
  exact ⟨_, rfl, _, _, _, [], _, [], hW', trodAll_mk1 (shut_bool Try.underlying4 _), (trodAll_cons_mk (shut_int Try.underlying46 w0) (trodAll_cons_mk (shut_int Try.underlying34 w1) trodAll_mk0)), rfl, bel.frame _, fun h => by cases h⟩

theorem proved : Rows.MemoryEndsSaid :=
  OpenClaim.holds_of_wide 5 Try.f5 rfl rfl rfl rfl rfl rfl rfl ⟨rfl, rfl, rfl, rfl, rfl⟩ rfl rfl rfl rfl rfl (by kernel_rfl) Try.func5 (by kernel_rfl)
    (of_decide_eq_true (by kernel_rfl)) (by unfold Func.isWrapper; first | (rw [if_pos (by decide +kernel)]; kernel_rfl) | (rw [if_neg (by decide +kernel)]; exact ⟨rfl, rfl⟩))
    (fun os started H enc _ => lifted os started H enc)
end Go.Proofs.Ythdmlcendkmnbaa.memoryEnds

namespace Go.Proofs.Ythdmlcendkmnbaa
theorem memoryEnds_holds : Rows.MemoryEndsSaid := memoryEnds.proved
#print axioms memoryEnds_holds
end Go.Proofs.Ythdmlcendkmnbaa
