/-
  What the document's own Word does with a jump's line.
-/
import Derived.Test.YtjeogojgabfbiaaGreatDoorAsm12
namespace Go.Proofs.YtjeogojgabfbiaaGreatDoor.Asm
open Go.RowKit Go.Proofs.YtjeogojgabfbiaaGreatDoor.Bits Go.Proofs.YtjeogojgabfbiaaGreatDoor.Gw Go.Proofs.YtjeogojgabfbiaaGreatDoor.Risc Go.Proofs.YtjeogojgabfbiaaGreatDoor.Tx
set_option linter.unusedVariables false
set_option linter.unusedSimpArgs false
set_option maxRecDepth 100000

def noV : Value := .tuple #[.int .u32 0, .int .i64 60]
def tlB (s : List UInt8) (f : Int) (u v : Bool) (a b c op im : Int) : Bool := goodR f u v a b c op im && (decR (packI f u v a b c op im) && (lineX (packI f u v a b c op im) == s))
def tlV (s : List UInt8) (f : Int) (u v : Bool) (a b c op im : Int) : Value := if tlB s f u v a b c op im = true then .tuple #[.int .u32 (packI f u v a b c op im), .int .i64 0] else noV
/- The end of Word: Encode, Line, and the test. -/
structure Tl (s : List UInt8) (f : Int) (u v : Bool) (a b c op im : Int) (x er : Int) (t : List UInt8) (y : Bool) (e2 : Int) : Prop where
  enc : ∀ w : World, Calls Tryz.prog 30 #[ins f u v a b c op im] w fun e w' => e = .returned (.tuple #[.int .u32 x, .int .i64 er]) ∧ w.grownBy w' none
  line : ∀ w : World, Calls Tryz.prog 8 #[.int .u32 x] w fun e w' => e = .returned (.tuple #[.string (bs t), .int .i64 e2]) ∧ w.grownBy w' none
  test : ((bs t).toList == (bs s).toList) = y
  val : tlV s f u v a b c op im = if er = 0 ∧ y = true then .tuple #[.int .u32 x, .int .i64 0] else noV
theorem tl_ex (s : List UInt8) (f : Int) (u v : Bool) (a b c op im : Int) (h0 : s ≠ []) : ∃ x er t y e2, Tl s f u v a b c op im x er t y e2 ∧ (er = 0 ∨ er = 20) := by
  by_cases hg : goodR f u v a b c op im = true
  · have hr := pack_range f u v a b c op im
    by_cases hd : decR (packI f u v a b c op im) = true
    · refine ⟨packI f u v a b c op im, 0, lineX (packI f u v a b c op im), lineX (packI f u v a b c op im) == s, 0, ⟨fun w => ?_, fun w => ?_, test_bs _ _, ?_⟩, .inl rfl⟩
      · refine (rencode_any f u v a b c op im w).mono fun e w' h => ⟨?_, g_grown h.2⟩
        rw [h.1, if_pos hg]
      · have := line_any (packI f u v a b c op im) hr.1 hr.2 w
        rw [if_pos hd] at this
        exact this
      · simp [tlV, tlB, hg, hd]
    · refine ⟨packI f u v a b c op im, 0, [], false, 20, ⟨fun w => ?_, fun w => ?_, ?_, ?_⟩, .inl rfl⟩
      · refine (rencode_any f u v a b c op im w).mono fun e w' h => ⟨?_, g_grown h.2⟩
        rw [h.1, if_pos hg]
      · have := line_any (packI f u v a b c op im) hr.1 hr.2 w
        rw [if_neg hd] at this
        exact this
      · rw [test_bs]
        simpa using h0
      · simp [tlV, tlB, hg, hd]
  · obtain ⟨t, e2, hl⟩ : ∃ t e2, ∀ w : World, Calls Tryz.prog 8 #[.int .u32 0] w fun e w' => e = .returned (.tuple #[.string (bs t), .int .i64 e2]) ∧ w.grownBy w' none := by
      by_cases hd : decR 0 = true
      · exact ⟨lineX 0, 0, fun w => by have := line_any 0 (by decide) (by decide) w; rw [if_pos hd] at this; exact this⟩
      · exact ⟨[], 20, fun w => by have := line_any 0 (by decide) (by decide) w; rw [if_neg hd] at this; exact this⟩
    refine ⟨0, 20, t, t == s, e2, ⟨fun w => ?_, hl, test_bs _ _, ?_⟩, .inr rfl⟩
    · refine (rencode_any f u v a b c op im w).mono fun e w' h => ⟨?_, g_grown h.2⟩
      rw [h.1, if_neg hg]
    · simp [tlV, tlB, hg]
theorem own_set {V : World} {b : Nat} {l : List Value} (h : Own V b l.toArray) (i : Nat) (v : Value) : Own (V.setCell ⟨b, i, none⟩ v) b (l.set i v).toArray := by
  have := h.set i v
  simpa using this
theorem cut_g (s d : List UInt8) (hs : s.length ≤ 1000000) (d0 : 1 ≤ d.length) (d1 : d.length ≤ 1000) (w : World) :
    Calls Tryz.prog 26 #[.string (bs s), .string (bs d)] w fun e w' => e = .returned (.tuple #[.string (bs (cut1 s d)), .string (bs (cut2 s d)), .bool (cutB s d)]) ∧ w.grownBy w' none :=
  (cut_any s d hs d0 d1 w).mono fun e w' ⟨he, n, hn⟩ => ⟨he, by rw [hn]; exact drewN_g w n⟩
theorem cutF_len (d : List UInt8) : ∀ (s : List UInt8) p, cutF d s = some p → p.1.length ≤ s.length ∧ p.2.length ≤ s.length
  | [], p, h => by
    rw [cutF] at h
    split at h
    · cases h; exact ⟨Nat.le_refl _, Nat.le_refl _⟩
    · cases h
  | c :: s, p, h => by
    rw [cutF] at h
    split at h
    · cases h; simp
    · cases hh : cutF d s with
      | none => rw [hh] at h; cases h
      | some r =>
        rw [hh] at h
        simp at h
        have := cutF_len d s r hh
        subst h
        simp
        omega
theorem cut_len (s d : List UInt8) : (cut1 s d).length ≤ s.length ∧ (cut2 s d).length ≤ s.length := by
  unfold cut1 cut2
  cases h : cutF d s with
  | none => simp
  | some p => exact cutF_len d s p h
set_option maxHeartbeats 4000000 in
theorem word_jump (s n r : List UInt8) (u v : Bool) (a op : Int) (hs : s.length ≤ 60) (l1 : n.length ≤ 60) (l2 : r.length ≤ 60)
    (hcut : ∀ w : World, Calls Tryz.prog 26 #[.string (bs s), .string (bs [32])] w fun e w' => e = .returned (.tuple #[.string (bs n), .string (bs r), .bool true]) ∧ w.grownBy w' none)
    (hpart : ∀ w : World, Calls Tryz.prog 27 #[.string (bs n)] w fun e w' => e = .returned (.tuple #[ins 3 u v a 0 0 op 0, .bool true]) ∧ w.grownBy w' none)
    (h0 : s ≠ []) (w : World) :
    Calls Tryz.prog 11 #[.string (bs s)] w fun e w' => e = .returned (if (rgK r || numB r) = true then tlV s 3 (!rgK r) v a 0 (rgV r) op (if rgK r = true then 0 else numV r) else noV) ∧ w.grownBy w' none := by
  have HC := hide hcut
  have HP := hide hpart
  have HR := hide (register_any r (by omega))
  have HN := hide (number_any r (by omega))
  have HT := hide (tl_ex s 3 (!rgK r) v a 0 (rgV r) op (if rgK r = true then 0 else numV r) h0)
  have z0 : (bs s).size = s.length := rfl
  have z1 : ¬ (60 : Int) < (s.length : Int) := by omega
  have b1 : (⟨#[32]⟩ : ByteArray) = bs [32] := rfl
  generalize rgK r = k at HR HT ⊢
  generalize rgV r = c at HR HT ⊢
  generalize numV r = im at HN HT ⊢
  generalize numB r = m at HN ⊢
  clear hcut hpart h0
  go_enter Tryz.func11, Tryz.ntmps11
  go_upto_region 5 with (first
    | (go_at_call 26; refine (HC.out _).mono ?_; rintro e w1 ⟨rfl, hg⟩; have H1 := hide hg; clear hg)
    | (go_at_call 27; refine (HP.out _).mono ?_; rintro e w2 ⟨rfl, hg⟩; have H2 := hide (grown_trans H1.out hg); clear hg))
  have HO := hide (Own.new w2 [Value.int IntKind.i64 3, Value.bool u, Value.bool v, Value.int IntKind.i64 a, Value.int IntKind.i64 0, Value.int IntKind.i64 0, Value.int IntKind.i64 op, Value.int IntKind.i64 0].toArray)
  have HG := hide (grown_trans H2.out (World.grownBy_alloc w2 (Obj.cells #[Value.int IntKind.i64 3, Value.bool u, Value.bool v, Value.int IntKind.i64 a, Value.int IntKind.i64 0, Value.int IntKind.i64 0, Value.int IntKind.i64 op, Value.int IntKind.i64 0] 47) none))
  have HS : Hid (w.heap.size ≤ w2.heap.size) := hide H2.out.size
  generalize w2.alloc (Obj.cells #[Value.int IntKind.i64 3, Value.bool u, Value.bool v, Value.int IntKind.i64 a, Value.int IntKind.i64 0, Value.int IntKind.i64 0, Value.int IntKind.i64 op, Value.int IntKind.i64 0] 47) = V at HO HG ⊢
  generalize w2.heap.size = X at HO HS ⊢
  clear H1 H2 HC HP
  have x0 := own_cell HO.out (j := 0) rfl
  go_upto_region 10 with (first
    | (go_at_call 28; refine (HR.out _).mono ?_; rintro e w3 ⟨rfl, hg⟩; have HO3 := hide (own_g HO.out hg); have HG3 := hide (grown_trans HG.out hg); clear hg)
    | (go_at_call 29; refine (HN.out _).mono ?_; rintro e w4 ⟨rfl, hg⟩; have HO4 := hide (own_g HO3.out hg); have HG4 := hide (grown_trans HG3.out hg); clear hg))
  have y1 := own_cell HO4.out (j := 1) rfl
  have y5 := own_cell HO4.out (j := 5) rfl
  have y7 := own_cell HO4.out (j := 7) rfl
  have yf := own_fr HO4.out
  go_upto_region 11 with fail
  have HO5 := hide (own_set (own_set (own_set HO4.out 5 (.int .i64 c)) 7 (.int .i64 im)) 1 (.bool !k))
  have HG5 := hide (far_set (i := 1) (v := .bool !k) (far_set (i := 7) (v := .int .i64 im) (far_set (i := 5) (v := .int .i64 c) HG4.out HS.out) HS.out) HS.out)
  generalize ((w4.setCell ⟨X, 5, none⟩ (.int .i64 c)).setCell ⟨X, 7, none⟩ (.int .i64 im)).setCell ⟨X, 1, none⟩ (.bool !k) = V5 at HO5 HG5 ⊢
  simp only [List.set_cons_zero, List.set_cons_succ] at HO5
  clear y1 y5 y7 yf HO4 HG4 HO3 HG3 HO HG HR HN x0
  obtain ⟨x, er, t, y, e2, hT, her⟩ := HT.out
  have T := hide hT
  have tt := hT.test
  clear hT HT
  cases k
  · cases m
    · go_wp2
      go_ret2
      exact ⟨rfl, HG5.out⟩
    · (have x0 := own_cell HO5.out (j := 0) rfl; have x1 := own_cell HO5.out (j := 1) rfl; have x2 := own_cell HO5.out (j := 2) rfl; have x3 := own_cell HO5.out (j := 3) rfl; have x4 := own_cell HO5.out (j := 4) rfl; have x5 := own_cell HO5.out (j := 5) rfl; have x6 := own_cell HO5.out (j := 6) rfl; have x7 := own_cell HO5.out (j := 7) rfl)
      rcases her with rfl | rfl
      · cases y
        all_goals
          (go_wp2_with (first | (go_at_call 30; refine (T.out.enc _).mono ?_; rintro e w6 ⟨rfl, hg⟩; have H6 := hide hg; clear hg) | (go_at_call 8; refine (T.out.line _).mono ?_; rintro e w7 ⟨rfl, hg⟩; have H7 := hide hg; clear hg)); go_ret2)
          exact ⟨by refine Eq.trans ?_ (congrArg Ending.returned T.out.val.symm); rfl, grown_trans HG5.out (grown_trans H6.out H7.out)⟩
      · (go_wp2_with (first | (go_at_call 30; refine (T.out.enc _).mono ?_; rintro e w6 ⟨rfl, hg⟩; have H6 := hide hg; clear hg) | (go_at_call 8; refine (T.out.line _).mono ?_; rintro e w7 ⟨rfl, hg⟩; have H7 := hide hg; clear hg)); go_ret2)
        exact ⟨by refine Eq.trans ?_ (congrArg Ending.returned T.out.val.symm); rfl, grown_trans HG5.out (grown_trans H6.out H7.out)⟩
  · have q7 := own_cell HO5.out (j := 7) rfl
    have qf := own_fr HO5.out
    go_upto_region 29 with fail
    have HO6 := hide (own_set HO5.out 7 (.int .i64 0))
    have HG6 := hide (far_set (i := 7) (v := .int .i64 0) HG5.out HS.out)
    generalize V5.setCell ⟨X, 7, none⟩ (.int .i64 0) = V6 at HO6 HG6 ⊢
    simp only [List.set_cons_zero, List.set_cons_succ] at HO6
    clear q7 qf HO5 HG5
    (have x0 := own_cell HO6.out (j := 0) rfl; have x1 := own_cell HO6.out (j := 1) rfl; have x2 := own_cell HO6.out (j := 2) rfl; have x3 := own_cell HO6.out (j := 3) rfl; have x4 := own_cell HO6.out (j := 4) rfl; have x5 := own_cell HO6.out (j := 5) rfl; have x6 := own_cell HO6.out (j := 6) rfl; have x7 := own_cell HO6.out (j := 7) rfl)
    rcases her with rfl | rfl
    · cases y
      all_goals
        (go_wp2_with (first | (go_at_call 30; refine (T.out.enc _).mono ?_; rintro e w6 ⟨rfl, hg⟩; have H6 := hide hg; clear hg) | (go_at_call 8; refine (T.out.line _).mono ?_; rintro e w7 ⟨rfl, hg⟩; have H7 := hide hg; clear hg)); go_ret2)
        exact ⟨by refine Eq.trans ?_ (congrArg Ending.returned T.out.val.symm); rfl, grown_trans HG6.out (grown_trans H6.out H7.out)⟩
    · (go_wp2_with (first | (go_at_call 30; refine (T.out.enc _).mono ?_; rintro e w6 ⟨rfl, hg⟩; have H6 := hide hg; clear hg) | (go_at_call 8; refine (T.out.line _).mono ?_; rintro e w7 ⟨rfl, hg⟩; have H7 := hide hg; clear hg)); go_ret2)
      exact ⟨by refine Eq.trans ?_ (congrArg Ending.returned T.out.val.symm); rfl, grown_trans HG6.out (grown_trans H6.out H7.out)⟩
end Go.Proofs.YtjeogojgabfbiaaGreatDoor.Asm
