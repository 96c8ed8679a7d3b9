/-
  What the document's own Word does with the other lines.
-/
import Derived.Test.YtjeogojgabfbiaaGreatDoorAsm13
namespace Go.Proofs.YtjeogojgabfbiaaGreatDoor.Asm
open Go.RowKit Go.Proofs.YtjeogojgabfbiaaGreatDoor.Bits Go.Proofs.YtjeogojgabfbiaaGreatDoor.Gw Go.Proofs.YtjeogojgabfbiaaGreatDoor.Risc Go.Proofs.YtjeogojgabfbiaaGreatDoor.Tx
set_option linter.unusedVariables false
set_option linter.unusedSimpArgs false
set_option maxRecDepth 100000

def rsB (f : Int) (one two k m : Bool) : Bool := one && (two && ((k || m) && !(k && f == 2)))
def rsF (f : Int) (k : Bool) : Int := if k = false ∧ f = 0 then 1 else f
set_option maxHeartbeats 4000000 in
theorem word_rest (s n r A M B L : List UInt8) (f : Int) (hf : f = 0 ∨ f = 2) (u v : Bool) (a op : Int) (b1 b2 one two k m : Bool) (p q c im : Int) (hs : s.length ≤ 60)
    (hcut : ∀ w : World, Calls Tryz.prog 26 #[.string (bs s), .string (bs [32])] w fun e w' => e = .returned (.tuple #[.string (bs n), .string (bs r), .bool true]) ∧ w.grownBy w' none)
    (hpart : ∀ w : World, Calls Tryz.prog 27 #[.string (bs n)] w fun e w' => e = .returned (.tuple #[ins f u v 0 0 0 op 0, .bool true]) ∧ w.grownBy w' none)
    (hc1 : ∀ w : World, Calls Tryz.prog 26 #[.string (bs r), .string (bs [44, 32])] w fun e w' => e = .returned (.tuple #[.string (bs A), .string (bs M), .bool b1]) ∧ w.grownBy w' none)
    (hc2 : ∀ w : World, Calls Tryz.prog 26 #[.string (bs M), .string (bs [44, 32])] w fun e w' => e = .returned (.tuple #[.string (bs B), .string (bs L), .bool b2]) ∧ w.grownBy w' none)
    (hr1 : ∀ w : World, Calls Tryz.prog 28 #[.string (bs A)] w fun e w' => e = .returned (.tuple #[.int .i64 p, .bool one]) ∧ w.grownBy w' none)
    (hr2 : ∀ w : World, Calls Tryz.prog 28 #[.string (bs B)] w fun e w' => e = .returned (.tuple #[.int .i64 q, .bool two]) ∧ w.grownBy w' none)
    (hr3 : ∀ w : World, Calls Tryz.prog 28 #[.string (bs L)] w fun e w' => e = .returned (.tuple #[.int .i64 c, .bool k]) ∧ w.grownBy w' none)
    (hn3 : ∀ w : World, Calls Tryz.prog 29 #[.string (bs L)] w fun e w' => e = .returned (.tuple #[.int .i64 im, .bool m]) ∧ w.grownBy w' none)
    (h0 : s ≠ []) (w : World) :
    Calls Tryz.prog 11 #[.string (bs s)] w fun e w' => e = .returned (if rsB f one two k m = true then tlV s (rsF f k) u v p q (if k = true then c else 0) op (if k = true then 0 else im) else noV) ∧ w.grownBy w' none := by
  have HC := hide hcut
  have HP := hide hpart
  have HC1 := hide hc1
  have HC2 := hide hc2
  have HR1 := hide hr1
  have HR2 := hide hr2
  have HR3 := hide hr3
  have HN3 := hide hn3
  have HT := hide (tl_ex s (rsF f k) u v p q (if k = true then c else 0) op (if k = true then 0 else im) h0)
  have z0 : (bs s).size = s.length := rfl
  have z1 : ¬ (60 : Int) < (s.length : Int) := by omega
  have d1 : (⟨#[32]⟩ : ByteArray) = bs [32] := rfl
  have d2 : (⟨#[44, 32]⟩ : ByteArray) = bs [44, 32] := rfl
  have f3 : (f == 3) = false := by rcases hf with rfl | rfl <;> rfl
  clear hcut hpart h0 hc1 hc2 hr1 hr2 hr3 hn3
  go_enter Tryz.func11, Tryz.ntmps11
  go_upto_region 5 with (first
    | (go_at_call 26; refine (HC.out _).mono ?_; rintro e w1 ⟨rfl, hg⟩; have H1 := hide hg; clear hg)
    | (go_at_call 27; refine (HP.out _).mono ?_; rintro e w2 ⟨rfl, hg⟩; have H2 := hide (grown_trans H1.out hg); clear hg))
  have HO := hide (Own.new w2 [Value.int IntKind.i64 f, Value.bool u, Value.bool v, Value.int IntKind.i64 0, Value.int IntKind.i64 0, Value.int IntKind.i64 0, Value.int IntKind.i64 op, Value.int IntKind.i64 0].toArray)
  have HG := hide (grown_trans H2.out (World.grownBy_alloc w2 (Obj.cells #[Value.int IntKind.i64 f, Value.bool u, Value.bool v, Value.int IntKind.i64 0, Value.int IntKind.i64 0, Value.int IntKind.i64 0, Value.int IntKind.i64 op, Value.int IntKind.i64 0] 47) none))
  have HS : Hid (w.heap.size ≤ w2.heap.size) := hide H2.out.size
  generalize w2.alloc (Obj.cells #[Value.int IntKind.i64 f, Value.bool u, Value.bool v, Value.int IntKind.i64 0, Value.int IntKind.i64 0, Value.int IntKind.i64 0, Value.int IntKind.i64 op, Value.int IntKind.i64 0] 47) = V at HO HG ⊢
  generalize w2.heap.size = X at HO HS ⊢
  clear H1 H2 HC HP
  have x0 := own_cell HO.out (j := 0) rfl
  go_upto_region 16 with (go_at_call 26; refine (HC1.out _).mono ?_; rintro e v1 ⟨rfl, hg⟩; have HO1 := hide (own_g HO.out hg); have HG1 := hide (grown_trans HG.out hg); clear hg)
  go_upto_region 17 with (go_at_call 26; refine (HC2.out _).mono ?_; rintro e v2 ⟨rfl, hg⟩; have HO2 := hide (own_g HO1.out hg); have HG2 := hide (grown_trans HG1.out hg); clear hg)
  go_upto_region 18 with (go_at_call 28; refine (HR1.out _).mono ?_; rintro e v3 ⟨rfl, hg⟩; have HO3 := hide (own_g HO2.out hg); have HG3 := hide (grown_trans HG2.out hg); clear hg)
  go_upto_region 19 with (go_at_call 28; refine (HR2.out _).mono ?_; rintro e v4 ⟨rfl, hg⟩; have HO4 := hide (own_g HO3.out hg); have HG4 := hide (grown_trans HG3.out hg); clear hg)
  have y3 := own_cell HO4.out (j := 3) rfl
  have y4 := own_cell HO4.out (j := 4) rfl
  have yf := own_fr HO4.out
  go_upto_region 20 with fail
  have HO5 := hide (own_set (own_set HO4.out 3 (.int .i64 p)) 4 (.int .i64 q))
  have HG5 := hide (far_set (i := 4) (v := .int .i64 q) (far_set (i := 3) (v := .int .i64 p) HG4.out HS.out) HS.out)
  generalize (v4.setCell ⟨X, 3, none⟩ (.int .i64 p)).setCell ⟨X, 4, none⟩ (.int .i64 q) = V5 at HO5 HG5 ⊢
  simp only [List.set_cons_zero, List.set_cons_succ] at HO5
  clear y3 y4 yf HO4 HG4 HO3 HG3 HO2 HG2 HO1 HG1 HO HG HC1 HC2 HR1 HR2 x0
  go_upto_region 21 with (go_at_call 28; refine (HR3.out _).mono ?_; rintro e v6 ⟨rfl, hg⟩; have HO6 := hide (own_g HO5.out hg); have HG6 := hide (grown_trans HG5.out hg); clear hg)
  go_upto_region 22 with (go_at_call 29; refine (HN3.out _).mono ?_; rintro e v7 ⟨rfl, hg⟩; have HO7 := hide (own_g HO6.out hg); have HG7 := hide (grown_trans HG6.out hg); clear hg)
  clear HO5 HG5 HO6 HG6 HR3 HN3
  obtain ⟨x, er, t, y, e2, hT, her⟩ := HT.out
  have T := hide hT
  have tt := hT.test
  clear hT HT
  (have x0 := own_cell HO7.out (j := 0) rfl; have x1 := own_cell HO7.out (j := 1) rfl; have x2 := own_cell HO7.out (j := 2) rfl; have x3 := own_cell HO7.out (j := 3) rfl; have x4 := own_cell HO7.out (j := 4) rfl; have x5 := own_cell HO7.out (j := 5) rfl; have x6 := own_cell HO7.out (j := 6) rfl; have x7 := own_cell HO7.out (j := 7) rfl)
  have xf := own_fr HO7.out
  cases one
  · go_wp2
    go_ret2
    exact ⟨by simp [rsB, noV], HG7.out⟩
  cases two
  · go_wp2
    go_ret2
    exact ⟨by simp [rsB, noV], HG7.out⟩
  cases k
  · cases m
    · go_wp2
      go_ret2
      exact ⟨by simp [rsB, noV], HG7.out⟩
    · rcases hf with rfl | rfl
      · go_upto_region 29 with fail
        have HO8 := hide (own_set (own_set HO7.out 7 (.int .i64 im)) 0 (.int .i64 1))
        have HG8 := hide (far_set (i := 0) (v := .int .i64 1) (far_set (i := 7) (v := .int .i64 im) HG7.out HS.out) HS.out)
        generalize (v7.setCell ⟨X, 7, none⟩ (.int .i64 im)).setCell ⟨X, 0, none⟩ (.int .i64 1) = V8 at HO8 HG8 ⊢
        simp only [List.set_cons_zero, List.set_cons_succ] at HO8
        clear x0 x1 x2 x3 x4 x5 x6 x7 xf HO7 HG7
        (have x0 := own_cell HO8.out (j := 0) rfl; have x1 := own_cell HO8.out (j := 1) rfl; have x2 := own_cell HO8.out (j := 2) rfl; have x3 := own_cell HO8.out (j := 3) rfl; have x4 := own_cell HO8.out (j := 4) rfl; have x5 := own_cell HO8.out (j := 5) rfl; have x6 := own_cell HO8.out (j := 6) rfl; have x7 := own_cell HO8.out (j := 7) rfl)
        (rcases her with rfl | rfl; (· (cases y; all_goals ((go_wp2_with (first | (go_at_call 30; refine (T.out.enc _).mono ?_; rintro e w6 ⟨rfl, hg⟩; have H6 := hide hg; clear hg) | (go_at_call 8; refine (T.out.line _).mono ?_; rintro e w7 ⟨rfl, hg⟩; have H7 := hide hg; clear hg)); go_ret2); exact ⟨by refine Eq.trans ?_ (congrArg Ending.returned T.out.val.symm); rfl, grown_trans HG8.out (grown_trans H6.out H7.out)⟩))); (· ((go_wp2_with (first | (go_at_call 30; refine (T.out.enc _).mono ?_; rintro e w6 ⟨rfl, hg⟩; have H6 := hide hg; clear hg) | (go_at_call 8; refine (T.out.line _).mono ?_; rintro e w7 ⟨rfl, hg⟩; have H7 := hide hg; clear hg)); go_ret2); exact ⟨by refine Eq.trans ?_ (congrArg Ending.returned T.out.val.symm); rfl, grown_trans HG8.out (grown_trans H6.out H7.out)⟩)))
      · go_upto_region 29 with fail
        have HO8 := hide (own_set HO7.out 7 (.int .i64 im))
        have HG8 := hide (far_set (i := 7) (v := .int .i64 im) HG7.out HS.out)
        generalize v7.setCell ⟨X, 7, none⟩ (.int .i64 im) = V8 at HO8 HG8 ⊢
        simp only [List.set_cons_zero, List.set_cons_succ] at HO8
        clear x0 x1 x2 x3 x4 x5 x6 x7 xf HO7 HG7
        (have x0 := own_cell HO8.out (j := 0) rfl; have x1 := own_cell HO8.out (j := 1) rfl; have x2 := own_cell HO8.out (j := 2) rfl; have x3 := own_cell HO8.out (j := 3) rfl; have x4 := own_cell HO8.out (j := 4) rfl; have x5 := own_cell HO8.out (j := 5) rfl; have x6 := own_cell HO8.out (j := 6) rfl; have x7 := own_cell HO8.out (j := 7) rfl)
        (rcases her with rfl | rfl; (· (cases y; all_goals ((go_wp2_with (first | (go_at_call 30; refine (T.out.enc _).mono ?_; rintro e w6 ⟨rfl, hg⟩; have H6 := hide hg; clear hg) | (go_at_call 8; refine (T.out.line _).mono ?_; rintro e w7 ⟨rfl, hg⟩; have H7 := hide hg; clear hg)); go_ret2); exact ⟨by refine Eq.trans ?_ (congrArg Ending.returned T.out.val.symm); rfl, grown_trans HG8.out (grown_trans H6.out H7.out)⟩))); (· ((go_wp2_with (first | (go_at_call 30; refine (T.out.enc _).mono ?_; rintro e w6 ⟨rfl, hg⟩; have H6 := hide hg; clear hg) | (go_at_call 8; refine (T.out.line _).mono ?_; rintro e w7 ⟨rfl, hg⟩; have H7 := hide hg; clear hg)); go_ret2); exact ⟨by refine Eq.trans ?_ (congrArg Ending.returned T.out.val.symm); rfl, grown_trans HG8.out (grown_trans H6.out H7.out)⟩)))
  · rcases hf with rfl | rfl
    · go_upto_region 29 with fail
      have HO8 := hide (own_set HO7.out 5 (.int .i64 c))
      have HG8 := hide (far_set (i := 5) (v := .int .i64 c) HG7.out HS.out)
      generalize v7.setCell ⟨X, 5, none⟩ (.int .i64 c) = V8 at HO8 HG8 ⊢
      simp only [List.set_cons_zero, List.set_cons_succ] at HO8
      clear x0 x1 x2 x3 x4 x5 x6 x7 xf HO7 HG7
      (have x0 := own_cell HO8.out (j := 0) rfl; have x1 := own_cell HO8.out (j := 1) rfl; have x2 := own_cell HO8.out (j := 2) rfl; have x3 := own_cell HO8.out (j := 3) rfl; have x4 := own_cell HO8.out (j := 4) rfl; have x5 := own_cell HO8.out (j := 5) rfl; have x6 := own_cell HO8.out (j := 6) rfl; have x7 := own_cell HO8.out (j := 7) rfl)
      (rcases her with rfl | rfl; (· (cases y; all_goals ((go_wp2_with (first | (go_at_call 30; refine (T.out.enc _).mono ?_; rintro e w6 ⟨rfl, hg⟩; have H6 := hide hg; clear hg) | (go_at_call 8; refine (T.out.line _).mono ?_; rintro e w7 ⟨rfl, hg⟩; have H7 := hide hg; clear hg)); go_ret2); exact ⟨by refine Eq.trans ?_ (congrArg Ending.returned T.out.val.symm); rfl, grown_trans HG8.out (grown_trans H6.out H7.out)⟩))); (· ((go_wp2_with (first | (go_at_call 30; refine (T.out.enc _).mono ?_; rintro e w6 ⟨rfl, hg⟩; have H6 := hide hg; clear hg) | (go_at_call 8; refine (T.out.line _).mono ?_; rintro e w7 ⟨rfl, hg⟩; have H7 := hide hg; clear hg)); go_ret2); exact ⟨by refine Eq.trans ?_ (congrArg Ending.returned T.out.val.symm); rfl, grown_trans HG8.out (grown_trans H6.out H7.out)⟩)))
    · go_wp2
      go_ret2
      exact ⟨by simp [rsB, noV], HG7.out⟩
end Go.Proofs.YtjeogojgabfbiaaGreatDoor.Asm
