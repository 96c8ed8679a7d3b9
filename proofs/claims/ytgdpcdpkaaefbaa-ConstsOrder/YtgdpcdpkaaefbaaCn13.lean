/-
  Package consts: addRelations.
-/
import Derived.Test.YtgdpcdpkaaefbaaCn10
namespace Go.Proofs.Ytgdpcdpkaaefbaa.Cn
open Go.RowKit hiding Hid
open Go.Maps Go.Proofs.Ytgdpcdpkaaefbaa.Tx Go.Proofs.Ytgdpcdpkaaefbaa.Lx Go.Proofs.Ytgdpcdpkaaefbaa.Mp Go.Proofs.Ytgdpcdpkaaefbaa.Bits Go.Proofs.Ytgdpcdpkaaefbaa.Tr
set_option linter.unusedVariables false
set_option linter.unusedSimpArgs false
set_option maxRecDepth 100000

theorem wl_put {o : Oper} {ops : Array Oper} {rest : List Oper} {a : Act} {w : World} {Q : Exit → Act → World → Prop} {x y z : Operand} {mb : Nat} {E : List (Ky × Cd)} {k : Ky} {c : Cd} {v : Value} (hgd : o.guard = none) (ho : o.op = .mapUpdate 54 x y z) (hx : a.eval x = .map (some mb)) (hy : a.eval y = kyV k) (hz : a.eval z = v) (hM : MapK w mb E) (hn : E.length ≤ 100) (hk : kok k) (hv : EntV w (entOf c) v)
    (h : ∀ w', w.grownBy w' (some mb) → MapK w' mb (E ++ [(k, c)]) → wpList Try.prog ops Q rest (a.put o.dst undef) w') : wpList Try.prog ops Q (o :: rest) a w := by
  obtain ⟨w', hr, hg, hm⟩ := hM.put hn hk hv
  refine wl_skip (w' := w') hgd ?_ (h w' hg hm)
  unfold execOp
  simp [ho, hx, hy, hz, hr]
def relF (f : Int) : List (Ky × Cd) := [((f, f, [61]), .eq), ((f, f, [35]), .ne)]
def relO (f : Int) : List (Ky × Cd) := [((f, f, [60]), .lt), ((f, f, [60, 61]), .le), ((f, f, [62]), .gt), ((f, f, [62, 61]), .ge)]
def rel1 (i : Nat) : List (Ky × Cd) := (([1, 2, 3, 4, 5, 6] : List Int).take i).flatMap relF
def rel2 (i : Nat) : List (Ky × Cd) := (([1, 3, 6] : List Int).take i).flatMap relO
def relE : List (Ky × Cd) := rel1 6 ++ rel2 3
theorem relF_len (l : List Int) : (l.flatMap relF).length = 2 * l.length := by
  induction l with
  | nil => rfl
  | cons a l ih => rw [List.flatMap_cons, List.length_append, ih, List.length_cons]; simp only [relF, List.length_cons, List.length_nil]; omega
theorem relO_len (l : List Int) : (l.flatMap relO).length = 4 * l.length := by
  induction l with
  | nil => rfl
  | cons a l ih => rw [List.flatMap_cons, List.length_append, ih, List.length_cons]; simp only [relO, List.length_cons, List.length_nil]; omega
theorem rel1_len (i : Nat) : (rel1 i).length ≤ 12 := by unfold rel1; rw [relF_len, List.length_take]; simp only [List.length_cons, List.length_nil]; omega
theorem rel2_len (i : Nat) : (rel2 i).length ≤ 12 := by unfold rel2; rw [relO_len, List.length_take]; simp only [List.length_cons, List.length_nil]; omega
set_option maxHeartbeats 12800000 in
theorem addRelations_at {w : World} {mb : Nat} {E : List (Ky × Cd)} (hM : MapK w mb E) (hn : E.length ≤ 50) : Calls Try.prog 75 #[.map (some mb)] w fun e w' => e = .returned (.tuple #[]) ∧ w.grownBy w' (some mb) ∧ MapK w' mb (E ++ relE) := by
  have HL := hide hn
  have HM := hide hM
  have HG := hide (gr_ref w (some mb))
  clear hM hn
  have i0 : ∀ w, (Instr.index 97 (.agg #[.int .i64 1, .int .i64 2, .int .i64 3, .int .i64 4, .int .i64 5, .int .i64 6]) (.int .i64 0)).run Try.prog w = .ok (.int .i64 1) w := fun _ => by kernel_rfl
  have i1 : ∀ w, (Instr.index 97 (.agg #[.int .i64 1, .int .i64 2, .int .i64 3, .int .i64 4, .int .i64 5, .int .i64 6]) (.int .i64 1)).run Try.prog w = .ok (.int .i64 2) w := fun _ => by kernel_rfl
  have i2 : ∀ w, (Instr.index 97 (.agg #[.int .i64 1, .int .i64 2, .int .i64 3, .int .i64 4, .int .i64 5, .int .i64 6]) (.int .i64 2)).run Try.prog w = .ok (.int .i64 3) w := fun _ => by kernel_rfl
  have i3 : ∀ w, (Instr.index 97 (.agg #[.int .i64 1, .int .i64 2, .int .i64 3, .int .i64 4, .int .i64 5, .int .i64 6]) (.int .i64 3)).run Try.prog w = .ok (.int .i64 4) w := fun _ => by kernel_rfl
  have i4 : ∀ w, (Instr.index 97 (.agg #[.int .i64 1, .int .i64 2, .int .i64 3, .int .i64 4, .int .i64 5, .int .i64 6]) (.int .i64 4)).run Try.prog w = .ok (.int .i64 5) w := fun _ => by kernel_rfl
  have i5 : ∀ w, (Instr.index 97 (.agg #[.int .i64 1, .int .i64 2, .int .i64 3, .int .i64 4, .int .i64 5, .int .i64 6]) (.int .i64 5)).run Try.prog w = .ok (.int .i64 6) w := fun _ => by kernel_rfl
  have j0 : ∀ w, (Instr.index 98 (.agg #[.int .i64 1, .int .i64 3, .int .i64 6]) (.int .i64 0)).run Try.prog w = .ok (.int .i64 1) w := fun _ => by kernel_rfl
  have j1 : ∀ w, (Instr.index 98 (.agg #[.int .i64 1, .int .i64 3, .int .i64 6]) (.int .i64 1)).run Try.prog w = .ok (.int .i64 3) w := fun _ => by kernel_rfl
  have j2 : ∀ w, (Instr.index 98 (.agg #[.int .i64 1, .int .i64 3, .int .i64 6]) (.int .i64 2)).run Try.prog w = .ok (.int .i64 6) w := fun _ => by kernel_rfl
  go_enter Try.func75, Try.ntmps75
  go_wp2
  go_loopw [7] (fun iv W => ∃ i : Nat, i ≤ 6 ∧ iv = .int .i64 i ∧ Hid (w.grownBy W (some mb)) ∧ Hid (MapK W mb (E ++ rel1 i))) (fun iv _ => 6 - (intOf iv).toNat)
  case atStart => exact ⟨0, by omega, rfl, HG, hide (by simpa [rel1] using HM.out)⟩
  case round =>
    clear HG HM
    obtain ⟨i, hi, rfl, HG, HM⟩ := hrel
    have hcs : i = 0 ∨ i = 1 ∨ i = 2 ∨ i = 3 ∨ i = 4 ∨ i = 5 ∨ i = 6 := by omega
    clear hi
    have HLE := hide (rel1_len i)
    rcases hcs with rfl | rfl | rfl | rfl | rfl | rfl | rfl
    · go_wp2_with (first | (go_at_call 58; refine (tells_mk 100 _).mono ?_; rintro e w2 ⟨b, rfl, hg, hc⟩; replace HG := hide (gr_then0 HG.out hg); replace HM := hide (HM.out.g hg); have HV := hide (show EntV w2 (entOf .eq) (clV 95 b) from ⟨b, rfl, hc⟩); clear hg hc) | (go_at_call 58; refine (tells_mk 101 _).mono ?_; rintro e w2 ⟨b, rfl, hg, hc⟩; replace HG := hide (gr_then0 HG.out hg); replace HM := hide (HM.out.g hg); have HV := hide (show EntV w2 (entOf .ne) (clV 95 b) from ⟨b, rfl, hc⟩); clear hg hc) | (refine wl_put (c := .eq) (k := (1, 1, [61])) rfl rfl rfl rfl rfl HM.out (by have := HL.out; have := HLE.out; simp only [List.length_append, List.length_cons, List.length_nil]; omega) (kok_of _ (by decide)) HV.out ?_; intro w' hg hm; replace HG := hide (gr_then HG.out hg); replace HM := hide hm; clear HV hg hm) | (refine wl_put (c := .ne) (k := (1, 1, [35])) rfl rfl rfl rfl rfl HM.out (by have := HL.out; have := HLE.out; simp only [List.length_append, List.length_cons, List.length_nil]; omega) (kok_of _ (by decide)) HV.out ?_; intro w' hg hm; replace HG := hide (gr_then HG.out hg); replace HM := hide hm; clear HV hg hm))
      go_roundw
      case rel => exact ⟨1, by omega, rfl, HG, hide (by have := HM.out; rw [List.append_assoc, List.append_assoc] at this; exact this)⟩
      case measure => simp [intOf]
    · go_wp2_with (first | (go_at_call 58; refine (tells_mk 100 _).mono ?_; rintro e w2 ⟨b, rfl, hg, hc⟩; replace HG := hide (gr_then0 HG.out hg); replace HM := hide (HM.out.g hg); have HV := hide (show EntV w2 (entOf .eq) (clV 95 b) from ⟨b, rfl, hc⟩); clear hg hc) | (go_at_call 58; refine (tells_mk 101 _).mono ?_; rintro e w2 ⟨b, rfl, hg, hc⟩; replace HG := hide (gr_then0 HG.out hg); replace HM := hide (HM.out.g hg); have HV := hide (show EntV w2 (entOf .ne) (clV 95 b) from ⟨b, rfl, hc⟩); clear hg hc) | (refine wl_put (c := .eq) (k := (2, 2, [61])) rfl rfl rfl rfl rfl HM.out (by have := HL.out; have := HLE.out; simp only [List.length_append, List.length_cons, List.length_nil]; omega) (kok_of _ (by decide)) HV.out ?_; intro w' hg hm; replace HG := hide (gr_then HG.out hg); replace HM := hide hm; clear HV hg hm) | (refine wl_put (c := .ne) (k := (2, 2, [35])) rfl rfl rfl rfl rfl HM.out (by have := HL.out; have := HLE.out; simp only [List.length_append, List.length_cons, List.length_nil]; omega) (kok_of _ (by decide)) HV.out ?_; intro w' hg hm; replace HG := hide (gr_then HG.out hg); replace HM := hide hm; clear HV hg hm))
      go_roundw
      case rel => exact ⟨2, by omega, rfl, HG, hide (by have := HM.out; rw [List.append_assoc, List.append_assoc] at this; exact this)⟩
      case measure => simp [intOf]
    · go_wp2_with (first | (go_at_call 58; refine (tells_mk 100 _).mono ?_; rintro e w2 ⟨b, rfl, hg, hc⟩; replace HG := hide (gr_then0 HG.out hg); replace HM := hide (HM.out.g hg); have HV := hide (show EntV w2 (entOf .eq) (clV 95 b) from ⟨b, rfl, hc⟩); clear hg hc) | (go_at_call 58; refine (tells_mk 101 _).mono ?_; rintro e w2 ⟨b, rfl, hg, hc⟩; replace HG := hide (gr_then0 HG.out hg); replace HM := hide (HM.out.g hg); have HV := hide (show EntV w2 (entOf .ne) (clV 95 b) from ⟨b, rfl, hc⟩); clear hg hc) | (refine wl_put (c := .eq) (k := (3, 3, [61])) rfl rfl rfl rfl rfl HM.out (by have := HL.out; have := HLE.out; simp only [List.length_append, List.length_cons, List.length_nil]; omega) (kok_of _ (by decide)) HV.out ?_; intro w' hg hm; replace HG := hide (gr_then HG.out hg); replace HM := hide hm; clear HV hg hm) | (refine wl_put (c := .ne) (k := (3, 3, [35])) rfl rfl rfl rfl rfl HM.out (by have := HL.out; have := HLE.out; simp only [List.length_append, List.length_cons, List.length_nil]; omega) (kok_of _ (by decide)) HV.out ?_; intro w' hg hm; replace HG := hide (gr_then HG.out hg); replace HM := hide hm; clear HV hg hm))
      go_roundw
      case rel => exact ⟨3, by omega, rfl, HG, hide (by have := HM.out; rw [List.append_assoc, List.append_assoc] at this; exact this)⟩
      case measure => simp [intOf]
    · go_wp2_with (first | (go_at_call 58; refine (tells_mk 100 _).mono ?_; rintro e w2 ⟨b, rfl, hg, hc⟩; replace HG := hide (gr_then0 HG.out hg); replace HM := hide (HM.out.g hg); have HV := hide (show EntV w2 (entOf .eq) (clV 95 b) from ⟨b, rfl, hc⟩); clear hg hc) | (go_at_call 58; refine (tells_mk 101 _).mono ?_; rintro e w2 ⟨b, rfl, hg, hc⟩; replace HG := hide (gr_then0 HG.out hg); replace HM := hide (HM.out.g hg); have HV := hide (show EntV w2 (entOf .ne) (clV 95 b) from ⟨b, rfl, hc⟩); clear hg hc) | (refine wl_put (c := .eq) (k := (4, 4, [61])) rfl rfl rfl rfl rfl HM.out (by have := HL.out; have := HLE.out; simp only [List.length_append, List.length_cons, List.length_nil]; omega) (kok_of _ (by decide)) HV.out ?_; intro w' hg hm; replace HG := hide (gr_then HG.out hg); replace HM := hide hm; clear HV hg hm) | (refine wl_put (c := .ne) (k := (4, 4, [35])) rfl rfl rfl rfl rfl HM.out (by have := HL.out; have := HLE.out; simp only [List.length_append, List.length_cons, List.length_nil]; omega) (kok_of _ (by decide)) HV.out ?_; intro w' hg hm; replace HG := hide (gr_then HG.out hg); replace HM := hide hm; clear HV hg hm))
      go_roundw
      case rel => exact ⟨4, by omega, rfl, HG, hide (by have := HM.out; rw [List.append_assoc, List.append_assoc] at this; exact this)⟩
      case measure => simp [intOf]
    · go_wp2_with (first | (go_at_call 58; refine (tells_mk 100 _).mono ?_; rintro e w2 ⟨b, rfl, hg, hc⟩; replace HG := hide (gr_then0 HG.out hg); replace HM := hide (HM.out.g hg); have HV := hide (show EntV w2 (entOf .eq) (clV 95 b) from ⟨b, rfl, hc⟩); clear hg hc) | (go_at_call 58; refine (tells_mk 101 _).mono ?_; rintro e w2 ⟨b, rfl, hg, hc⟩; replace HG := hide (gr_then0 HG.out hg); replace HM := hide (HM.out.g hg); have HV := hide (show EntV w2 (entOf .ne) (clV 95 b) from ⟨b, rfl, hc⟩); clear hg hc) | (refine wl_put (c := .eq) (k := (5, 5, [61])) rfl rfl rfl rfl rfl HM.out (by have := HL.out; have := HLE.out; simp only [List.length_append, List.length_cons, List.length_nil]; omega) (kok_of _ (by decide)) HV.out ?_; intro w' hg hm; replace HG := hide (gr_then HG.out hg); replace HM := hide hm; clear HV hg hm) | (refine wl_put (c := .ne) (k := (5, 5, [35])) rfl rfl rfl rfl rfl HM.out (by have := HL.out; have := HLE.out; simp only [List.length_append, List.length_cons, List.length_nil]; omega) (kok_of _ (by decide)) HV.out ?_; intro w' hg hm; replace HG := hide (gr_then HG.out hg); replace HM := hide hm; clear HV hg hm))
      go_roundw
      case rel => exact ⟨5, by omega, rfl, HG, hide (by have := HM.out; rw [List.append_assoc, List.append_assoc] at this; exact this)⟩
      case measure => simp [intOf]
    · go_wp2_with (first | (go_at_call 58; refine (tells_mk 100 _).mono ?_; rintro e w2 ⟨b, rfl, hg, hc⟩; replace HG := hide (gr_then0 HG.out hg); replace HM := hide (HM.out.g hg); have HV := hide (show EntV w2 (entOf .eq) (clV 95 b) from ⟨b, rfl, hc⟩); clear hg hc) | (go_at_call 58; refine (tells_mk 101 _).mono ?_; rintro e w2 ⟨b, rfl, hg, hc⟩; replace HG := hide (gr_then0 HG.out hg); replace HM := hide (HM.out.g hg); have HV := hide (show EntV w2 (entOf .ne) (clV 95 b) from ⟨b, rfl, hc⟩); clear hg hc) | (refine wl_put (c := .eq) (k := (6, 6, [61])) rfl rfl rfl rfl rfl HM.out (by have := HL.out; have := HLE.out; simp only [List.length_append, List.length_cons, List.length_nil]; omega) (kok_of _ (by decide)) HV.out ?_; intro w' hg hm; replace HG := hide (gr_then HG.out hg); replace HM := hide hm; clear HV hg hm) | (refine wl_put (c := .ne) (k := (6, 6, [35])) rfl rfl rfl rfl rfl HM.out (by have := HL.out; have := HLE.out; simp only [List.length_append, List.length_cons, List.length_nil]; omega) (kok_of _ (by decide)) HV.out ?_; intro w' hg hm; replace HG := hide (gr_then HG.out hg); replace HM := hide hm; clear HV hg hm))
      go_roundw
      case rel => exact ⟨6, by omega, rfl, HG, hide (by have := HM.out; rw [List.append_assoc, List.append_assoc] at this; exact this)⟩
      case measure => simp [intOf]
    · rw [show ((6 : Nat) : Int) = 6 from rfl]
      go_wp2
      go_loopw [22] (fun iv W => ∃ i : Nat, i ≤ 3 ∧ iv = .int .i64 i ∧ Hid (w.grownBy W (some mb)) ∧ Hid (MapK W mb (E ++ rel1 6 ++ rel2 i))) (fun iv _ => 3 - (intOf iv).toNat)
      case atStart => exact ⟨0, by omega, rfl, HG, hide (by have := HM.out; rw [show rel2 0 = [] from rfl, List.append_nil]; exact this)⟩
      case round =>
        clear HG HM
        obtain ⟨i, hi, rfl, HG, HM⟩ := hrel
        have hcs : i = 0 ∨ i = 1 ∨ i = 2 ∨ i = 3 := by omega
        clear hi
        have HLE := hide (Nat.add_le_add (rel1_len 6) (rel2_len i))
        rcases hcs with rfl | rfl | rfl | rfl
        · go_wp2_with (first | (go_at_call 58; refine (tells_mk 102 _).mono ?_; rintro e w2 ⟨b, rfl, hg, hc⟩; replace HG := hide (gr_then0 HG.out hg); replace HM := hide (HM.out.g hg); have HV := hide (show EntV w2 (entOf .lt) (clV 95 b) from ⟨b, rfl, hc⟩); clear hg hc) | (go_at_call 58; refine (tells_mk 104 _).mono ?_; rintro e w2 ⟨b, rfl, hg, hc⟩; replace HG := hide (gr_then0 HG.out hg); replace HM := hide (HM.out.g hg); have HV := hide (show EntV w2 (entOf .le) (clV 95 b) from ⟨b, rfl, hc⟩); clear hg hc) | (go_at_call 58; refine (tells_mk 105 _).mono ?_; rintro e w2 ⟨b, rfl, hg, hc⟩; replace HG := hide (gr_then0 HG.out hg); replace HM := hide (HM.out.g hg); have HV := hide (show EntV w2 (entOf .gt) (clV 95 b) from ⟨b, rfl, hc⟩); clear hg hc) | (go_at_call 58; refine (tells_mk 106 _).mono ?_; rintro e w2 ⟨b, rfl, hg, hc⟩; replace HG := hide (gr_then0 HG.out hg); replace HM := hide (HM.out.g hg); have HV := hide (show EntV w2 (entOf .ge) (clV 95 b) from ⟨b, rfl, hc⟩); clear hg hc) | (refine wl_put (c := .lt) (k := (1, 1, [60])) rfl rfl rfl rfl rfl HM.out (by have := HL.out; have := HLE.out; simp only [List.length_append, List.length_cons, List.length_nil]; omega) (kok_of _ (by decide)) HV.out ?_; intro w' hg hm; replace HG := hide (gr_then HG.out hg); replace HM := hide hm; clear HV hg hm) | (refine wl_put (c := .le) (k := (1, 1, [60, 61])) rfl rfl rfl rfl rfl HM.out (by have := HL.out; have := HLE.out; simp only [List.length_append, List.length_cons, List.length_nil]; omega) (kok_of _ (by decide)) HV.out ?_; intro w' hg hm; replace HG := hide (gr_then HG.out hg); replace HM := hide hm; clear HV hg hm) | (refine wl_put (c := .gt) (k := (1, 1, [62])) rfl rfl rfl rfl rfl HM.out (by have := HL.out; have := HLE.out; simp only [List.length_append, List.length_cons, List.length_nil]; omega) (kok_of _ (by decide)) HV.out ?_; intro w' hg hm; replace HG := hide (gr_then HG.out hg); replace HM := hide hm; clear HV hg hm) | (refine wl_put (c := .ge) (k := (1, 1, [62, 61])) rfl rfl rfl rfl rfl HM.out (by have := HL.out; have := HLE.out; simp only [List.length_append, List.length_cons, List.length_nil]; omega) (kok_of _ (by decide)) HV.out ?_; intro w' hg hm; replace HG := hide (gr_then HG.out hg); replace HM := hide hm; clear HV hg hm))
          go_roundw
          case rel => exact ⟨1, by omega, rfl, HG, hide (by have := HM.out; rw [List.append_assoc, List.append_assoc, List.append_assoc, List.append_assoc] at this; exact this)⟩
          case measure => simp [intOf]
        · go_wp2_with (first | (go_at_call 58; refine (tells_mk 102 _).mono ?_; rintro e w2 ⟨b, rfl, hg, hc⟩; replace HG := hide (gr_then0 HG.out hg); replace HM := hide (HM.out.g hg); have HV := hide (show EntV w2 (entOf .lt) (clV 95 b) from ⟨b, rfl, hc⟩); clear hg hc) | (go_at_call 58; refine (tells_mk 104 _).mono ?_; rintro e w2 ⟨b, rfl, hg, hc⟩; replace HG := hide (gr_then0 HG.out hg); replace HM := hide (HM.out.g hg); have HV := hide (show EntV w2 (entOf .le) (clV 95 b) from ⟨b, rfl, hc⟩); clear hg hc) | (go_at_call 58; refine (tells_mk 105 _).mono ?_; rintro e w2 ⟨b, rfl, hg, hc⟩; replace HG := hide (gr_then0 HG.out hg); replace HM := hide (HM.out.g hg); have HV := hide (show EntV w2 (entOf .gt) (clV 95 b) from ⟨b, rfl, hc⟩); clear hg hc) | (go_at_call 58; refine (tells_mk 106 _).mono ?_; rintro e w2 ⟨b, rfl, hg, hc⟩; replace HG := hide (gr_then0 HG.out hg); replace HM := hide (HM.out.g hg); have HV := hide (show EntV w2 (entOf .ge) (clV 95 b) from ⟨b, rfl, hc⟩); clear hg hc) | (refine wl_put (c := .lt) (k := (3, 3, [60])) rfl rfl rfl rfl rfl HM.out (by have := HL.out; have := HLE.out; simp only [List.length_append, List.length_cons, List.length_nil]; omega) (kok_of _ (by decide)) HV.out ?_; intro w' hg hm; replace HG := hide (gr_then HG.out hg); replace HM := hide hm; clear HV hg hm) | (refine wl_put (c := .le) (k := (3, 3, [60, 61])) rfl rfl rfl rfl rfl HM.out (by have := HL.out; have := HLE.out; simp only [List.length_append, List.length_cons, List.length_nil]; omega) (kok_of _ (by decide)) HV.out ?_; intro w' hg hm; replace HG := hide (gr_then HG.out hg); replace HM := hide hm; clear HV hg hm) | (refine wl_put (c := .gt) (k := (3, 3, [62])) rfl rfl rfl rfl rfl HM.out (by have := HL.out; have := HLE.out; simp only [List.length_append, List.length_cons, List.length_nil]; omega) (kok_of _ (by decide)) HV.out ?_; intro w' hg hm; replace HG := hide (gr_then HG.out hg); replace HM := hide hm; clear HV hg hm) | (refine wl_put (c := .ge) (k := (3, 3, [62, 61])) rfl rfl rfl rfl rfl HM.out (by have := HL.out; have := HLE.out; simp only [List.length_append, List.length_cons, List.length_nil]; omega) (kok_of _ (by decide)) HV.out ?_; intro w' hg hm; replace HG := hide (gr_then HG.out hg); replace HM := hide hm; clear HV hg hm))
          go_roundw
          case rel => exact ⟨2, by omega, rfl, HG, hide (by have := HM.out; rw [List.append_assoc, List.append_assoc, List.append_assoc, List.append_assoc] at this; exact this)⟩
          case measure => simp [intOf]
        · go_wp2_with (first | (go_at_call 58; refine (tells_mk 102 _).mono ?_; rintro e w2 ⟨b, rfl, hg, hc⟩; replace HG := hide (gr_then0 HG.out hg); replace HM := hide (HM.out.g hg); have HV := hide (show EntV w2 (entOf .lt) (clV 95 b) from ⟨b, rfl, hc⟩); clear hg hc) | (go_at_call 58; refine (tells_mk 104 _).mono ?_; rintro e w2 ⟨b, rfl, hg, hc⟩; replace HG := hide (gr_then0 HG.out hg); replace HM := hide (HM.out.g hg); have HV := hide (show EntV w2 (entOf .le) (clV 95 b) from ⟨b, rfl, hc⟩); clear hg hc) | (go_at_call 58; refine (tells_mk 105 _).mono ?_; rintro e w2 ⟨b, rfl, hg, hc⟩; replace HG := hide (gr_then0 HG.out hg); replace HM := hide (HM.out.g hg); have HV := hide (show EntV w2 (entOf .gt) (clV 95 b) from ⟨b, rfl, hc⟩); clear hg hc) | (go_at_call 58; refine (tells_mk 106 _).mono ?_; rintro e w2 ⟨b, rfl, hg, hc⟩; replace HG := hide (gr_then0 HG.out hg); replace HM := hide (HM.out.g hg); have HV := hide (show EntV w2 (entOf .ge) (clV 95 b) from ⟨b, rfl, hc⟩); clear hg hc) | (refine wl_put (c := .lt) (k := (6, 6, [60])) rfl rfl rfl rfl rfl HM.out (by have := HL.out; have := HLE.out; simp only [List.length_append, List.length_cons, List.length_nil]; omega) (kok_of _ (by decide)) HV.out ?_; intro w' hg hm; replace HG := hide (gr_then HG.out hg); replace HM := hide hm; clear HV hg hm) | (refine wl_put (c := .le) (k := (6, 6, [60, 61])) rfl rfl rfl rfl rfl HM.out (by have := HL.out; have := HLE.out; simp only [List.length_append, List.length_cons, List.length_nil]; omega) (kok_of _ (by decide)) HV.out ?_; intro w' hg hm; replace HG := hide (gr_then HG.out hg); replace HM := hide hm; clear HV hg hm) | (refine wl_put (c := .gt) (k := (6, 6, [62])) rfl rfl rfl rfl rfl HM.out (by have := HL.out; have := HLE.out; simp only [List.length_append, List.length_cons, List.length_nil]; omega) (kok_of _ (by decide)) HV.out ?_; intro w' hg hm; replace HG := hide (gr_then HG.out hg); replace HM := hide hm; clear HV hg hm) | (refine wl_put (c := .ge) (k := (6, 6, [62, 61])) rfl rfl rfl rfl rfl HM.out (by have := HL.out; have := HLE.out; simp only [List.length_append, List.length_cons, List.length_nil]; omega) (kok_of _ (by decide)) HV.out ?_; intro w' hg hm; replace HG := hide (gr_then HG.out hg); replace HM := hide hm; clear HV hg hm))
          go_roundw
          case rel => exact ⟨3, by omega, rfl, HG, hide (by have := HM.out; rw [List.append_assoc, List.append_assoc, List.append_assoc, List.append_assoc] at this; exact this)⟩
          case measure => simp [intOf]
        · go_wp2
          go_end0
          exact ⟨rfl, HG.out, by have := HM.out; rw [List.append_assoc] at this; exact this⟩
end Go.Proofs.Ytgdpcdpkaaefbaa.Cn
