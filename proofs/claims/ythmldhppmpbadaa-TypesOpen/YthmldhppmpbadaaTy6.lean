/-
  Package types: fields, parameters.
-/
import Derived.Test.YthmldhppmpbadaaTy5
namespace Go.Proofs.Ythmldhppmpbadaa.Ty
open Go.RowKit hiding Hid
open Go.Proofs.Ythmldhppmpbadaa.Tx Go.Proofs.Ythmldhppmpbadaa.Lx Go.Proofs.Ythmldhppmpbadaa.Tr
set_option linter.unusedVariables false
set_option linter.unusedSimpArgs false
set_option maxRecDepth 100000

def flB (T : List Tt) (f : Fl) : Bool := wordB f.n && elemF (fmA T f.t)
def pmB (T : List Tt) (p : Pm) : Bool := openF (fmA T p.t)
def flsB (T : List Tt) (l : List Fl) : Bool := decide (l.length ≤ 64) && l.all (flB T)
def pmsB (T : List Tt) (l : List Pm) : Bool := decide (l.length ≤ 64) && l.all (pmB T)
theorem all_no {α : Type} {f : α → Bool} {s : List α} {q : Nat} {c : α} (h : s[q]? = some c) (hf : f c = false) : s.all f = false := by
  obtain ⟨hq, rfl⟩ := List.getElem?_eq_some_iff.1 h
  rw [Bool.eq_false_iff]
  intro ha
  have := List.all_eq_true.1 ha _ (List.getElem_mem hq)
  rw [hf] at this
  cases this
theorem all_go {α : Type} {f : α → Bool} {s : List α} {q : Nat} {c : α} (h : s[q]? = some c) (ha : (s.take q).all f = true) (hf : f c = true) : (s.take (q + 1)).all f = true := by
  obtain ⟨hq, rfl⟩ := List.getElem?_eq_some_iff.1 h
  rw [List.take_succ_eq_append_getElem hq, List.all_append, ha]
  simp [hf]
set_option maxHeartbeats 4000000 in
theorem fields_at {w : World} {o fo : Option Addr} {T : List Tt} {fl : List Fl} (cp fc : Nat) (H : Tab w o T) (h : Cls w fo (fl.flatMap flC)) (hl : fl.length ≤ 1000000) (hn : ∀ f ∈ fl, f.n.length ≤ lim) : Calls Try.prog 94 #[.slice o T.length cp, .slice fo fl.length fc] w fun e w' => e = .returned (.bool (flsB T fl)) ∧ w.grownBy w' none := by
  have k0 : (fl.length : Int) ≤ 1000000 := by omega
  by_cases h64 : 64 < fl.length
  · have k1 : (64 : Int) < fl.length := by omega
    have HE := hide (show flsB T fl = false by unfold flsB; rw [decide_eq_false (by omega)]; rfl)
    clear H h hn
    go_enter Try.func94, Try.ntmps94
    go_wp2
    go_ret
    exact ⟨by rw [HE.out]; rfl, grown_refl w _⟩
  have k1 : ¬ (64 : Int) < fl.length := by omega
  have HE := hide (show flsB T fl = fl.all (flB T) by unfold flsB; rw [decide_eq_true (by omega)]; rfl)
  have HC := hide (Cx.start w (fun _ => False))
  have HT := hide H
  have HO := hide h
  have HN := hide hn
  clear H h hn h64
  go_enter Try.func94, Try.ntmps94
  go_wp2
  go_loopw [12] (fun iv W => ∃ (i : Nat), i ≤ fl.length ∧ iv = .int .i64 i ∧ Hid ((fl.take i).all (flB T) = true) ∧ Hid (Cx w (fun _ => False) none [] [] [] W)) (fun iv _ => fl.length - (intOf iv).toNat)
  case atStart => exact ⟨0, by omega, rfl, hide rfl, HC⟩
  case round =>
    clear HC
    obtain ⟨i, hi, rfl, HA, HC⟩ := hrel
    by_cases hlt : i < fl.length
    · have j1 : (i : Int) < fl.length := by omega
      obtain ⟨⟨n, x, t⟩, hx⟩ : ∃ p, fl[i]? = some p := ⟨fl[i], List.getElem?_eq_getElem hlt⟩
      obtain ⟨ad, rfl, hel⟩ := HO.out.el flC_len (by decide) hx
      have HEL := hide (fun W (hW : w.grownBy W none) j u (hu : (flC ⟨n, x, t⟩)[j]? = some u) => hW.cell (hel j u hu) (by simp))
      unfold flC at HEL
      dsimp only at HEL
      obtain ⟨B, hB⟩ : ∃ B, ad.add (i * 3) = B := ⟨_, rfl⟩
      rw [hB] at HEL
      have H1 := hide (fun W : World => isName_any n W (HN.out _ (List.mem_of_getElem? hx)))
      have HX := hide hx
      clear hel hx
      cases hw1 : wordB n with
      | false =>
        have HF := hide (show flB T ⟨n, x, t⟩ = false by unfold flB; rw [hw1]; rfl)
        rw [hw1] at H1
        clear hw1
        go_wp2_with (first | (refine at_load 75 rfl ?_; refine wl_run rfl 75 _ rfl rfl (run_load_s tyF _ [.string (bs n), .bool x, .int .i64 t] rfl (HEL.out _ HC.out.grown)) ?_) | (refine at_alloc 75 rfl ?_; refine wl_alloc rfl 75 rfl _ zF HC.out ?_; intro b w' hn hc; (replace HC := hide hc; clear hc)) | ((refine at_store 75 rfl ?_; refine wl_store rfl 75 _ _ rfl rfl rfl tyF.sz rfl HC.out (by repeat (first | exact List.Mem.head _ | apply List.Mem.tail)) (by exact PutS.all _ _ rfl) (by repeat (first | exact Upd.here _ _ _ | apply Upd.there)) ?_; intro w' hc; (replace HC := hide hc; clear hc)); obtain ⟨c0, c1, c2⟩ := three_f HC.out) | (go_at_call 90; refine (H1.out _).mono ?_; rintro e w' ⟨rfl, hw⟩; replace hw := hw.symm; subst hw))
        go_ret
        exact ⟨by rw [HE.out, all_no HX.out HF.out]; rfl, HC.out.grown⟩
      | true =>
        rw [hw1] at H1
        cases hw2 : elemF (fmA T t) with
        | false =>
          have H2 := hide hw2
          have HF := hide (show flB T ⟨n, x, t⟩ = false by unfold flB; rw [hw1, hw2]; rfl)
          clear hw1 hw2
          go_wp2_with (first | (refine at_load 75 rfl ?_; refine wl_run rfl 75 _ rfl rfl (run_load_s tyF _ [.string (bs n), .bool x, .int .i64 t] rfl (HEL.out _ HC.out.grown)) ?_) | (refine at_alloc 75 rfl ?_; refine wl_alloc rfl 75 rfl _ zF HC.out ?_; intro b w' hn hc; (replace HC := hide hc; clear hc)) | ((refine at_store 75 rfl ?_; refine wl_store rfl 75 _ _ rfl rfl rfl tyF.sz rfl HC.out (by repeat (first | exact List.Mem.head _ | apply List.Mem.tail)) (by exact PutS.all _ _ rfl) (by repeat (first | exact Upd.here _ _ _ | apply Upd.there)) ?_; intro w' hc; (replace HC := hide hc; clear hc)); obtain ⟨c0, c1, c2⟩ := three_f HC.out) | (go_at_call 90; refine (H1.out _).mono ?_; rintro e w' ⟨rfl, hw⟩; replace hw := hw.symm; subst hw) | (go_at_call 91; refine (element_at _ _ (HT.out.kept HC.out.grown)).mono ?_; rw [H2.out]; rintro e w' ⟨rfl, hw⟩; replace hw := hw.symm; subst hw))
          go_ret
          exact ⟨by rw [HE.out, all_no HX.out HF.out]; rfl, HC.out.grown⟩
        | true =>
          have H2 := hide hw2
          have HF := hide (show flB T ⟨n, x, t⟩ = true by unfold flB; rw [hw1, hw2]; rfl)
          clear hw1 hw2
          go_wp2_with (first | (refine at_load 75 rfl ?_; refine wl_run rfl 75 _ rfl rfl (run_load_s tyF _ [.string (bs n), .bool x, .int .i64 t] rfl (HEL.out _ HC.out.grown)) ?_) | (refine at_alloc 75 rfl ?_; refine wl_alloc rfl 75 rfl _ zF HC.out ?_; intro b w' hn hc; (replace HC := hide hc; clear hc)) | ((refine at_store 75 rfl ?_; refine wl_store rfl 75 _ _ rfl rfl rfl tyF.sz rfl HC.out (by repeat (first | exact List.Mem.head _ | apply List.Mem.tail)) (by exact PutS.all _ _ rfl) (by repeat (first | exact Upd.here _ _ _ | apply Upd.there)) ?_; intro w' hc; (replace HC := hide hc; clear hc)); obtain ⟨c0, c1, c2⟩ := three_f HC.out) | (go_at_call 90; refine (H1.out _).mono ?_; rintro e w' ⟨rfl, hw⟩; replace hw := hw.symm; subst hw) | (go_at_call 91; refine (element_at _ _ (HT.out.kept HC.out.grown)).mono ?_; rw [H2.out]; rintro e w' ⟨rfl, hw⟩; replace hw := hw.symm; subst hw))
          exact ⟨⟨i + 1, by omega, by go_num, hide (all_go HX.out HA.out HF.out), hide HC.out.drop⟩, by simp [intOf]; omega⟩
    · obtain rfl : i = fl.length := by omega
      go_wp2
      go_ret
      refine ⟨?_, HC.out.grown⟩
      have := HA.out
      rw [List.take_of_length_le (Nat.le_refl _)] at this
      rw [HE.out, this]
      rfl
set_option maxHeartbeats 4000000 in
theorem params_at {w : World} {o fo : Option Addr} {T : List Tt} {fl : List Pm} (cp fc : Nat) (H : Tab w o T) (h : Cls w fo (fl.flatMap pmC)) (hl : fl.length ≤ 1000000) : Calls Try.prog 96 #[.slice o T.length cp, .slice fo fl.length fc] w fun e w' => e = .returned (.bool (pmsB T fl)) ∧ w.grownBy w' none := by
  have k0 : (fl.length : Int) ≤ 1000000 := by omega
  by_cases h64 : 64 < fl.length
  · have k1 : (64 : Int) < fl.length := by omega
    have HE := hide (show pmsB T fl = false by unfold pmsB; rw [decide_eq_false (by omega)]; rfl)
    clear H h
    go_enter Try.func96, Try.ntmps96
    go_wp2
    go_ret
    exact ⟨by rw [HE.out]; rfl, grown_refl w _⟩
  have k1 : ¬ (64 : Int) < fl.length := by omega
  have HE := hide (show pmsB T fl = fl.all (pmB T) by unfold pmsB; rw [decide_eq_true (by omega)]; rfl)
  have HC := hide (Cx.start w (fun _ => False))
  have HT := hide H
  have HO := hide h
  clear H h h64
  go_enter Try.func96, Try.ntmps96
  go_wp2
  go_loopw [12] (fun iv W => ∃ (i : Nat), i ≤ fl.length ∧ iv = .int .i64 i ∧ Hid ((fl.take i).all (pmB T) = true) ∧ Hid (Cx w (fun _ => False) none [] [] [] W)) (fun iv _ => fl.length - (intOf iv).toNat)
  case atStart => exact ⟨0, by omega, rfl, hide rfl, HC⟩
  case round =>
    clear HC
    obtain ⟨i, hi, rfl, HA, HC⟩ := hrel
    by_cases hlt : i < fl.length
    · have j1 : (i : Int) < fl.length := by omega
      obtain ⟨⟨v, t⟩, hx⟩ : ∃ p, fl[i]? = some p := ⟨fl[i], List.getElem?_eq_getElem hlt⟩
      obtain ⟨ad, rfl, hel⟩ := HO.out.el pmC_len (by decide) hx
      have HEL := hide (fun W (hW : w.grownBy W none) j u (hu : (pmC ⟨v, t⟩)[j]? = some u) => hW.cell (hel j u hu) (by simp))
      unfold pmC at HEL
      dsimp only at HEL
      obtain ⟨B, hB⟩ : ∃ B, ad.add (i * 2) = B := ⟨_, rfl⟩
      rw [hB] at HEL
      have HX := hide hx
      clear hel hx
      cases hw2 : openF (fmA T t) with
      | false =>
        have H2 := hide hw2
        have HF := hide (show pmB T ⟨v, t⟩ = false from hw2)
        clear hw2
        go_wp2_with (first | (refine at_load 55 rfl ?_; refine wl_run rfl 55 _ rfl rfl (run_load_s tyP _ [.bool v, .int .i64 t] rfl (HEL.out _ HC.out.grown)) ?_) | (refine at_alloc 55 rfl ?_; refine wl_alloc rfl 55 rfl _ zP HC.out ?_; intro b w' hn hc; (replace HC := hide hc; clear hc)) | ((refine at_store 55 rfl ?_; refine wl_store rfl 55 _ _ rfl rfl rfl tyP.sz rfl HC.out (by repeat (first | exact List.Mem.head _ | apply List.Mem.tail)) (by exact PutS.all _ _ rfl) (by repeat (first | exact Upd.here _ _ _ | apply Upd.there)) ?_; intro w' hc; (replace HC := hide hc; clear hc)); obtain ⟨c0, c1⟩ := two_f HC.out) | (go_at_call 92; refine (open_at _ _ (HT.out.kept HC.out.grown)).mono ?_; rw [H2.out]; rintro e w' ⟨rfl, hw⟩; replace hw := hw.symm; subst hw))
        go_ret
        exact ⟨by rw [HE.out, all_no HX.out HF.out]; rfl, HC.out.grown⟩
      | true =>
        have H2 := hide hw2
        have HF := hide (show pmB T ⟨v, t⟩ = true from hw2)
        clear hw2
        go_wp2_with (first | (refine at_load 55 rfl ?_; refine wl_run rfl 55 _ rfl rfl (run_load_s tyP _ [.bool v, .int .i64 t] rfl (HEL.out _ HC.out.grown)) ?_) | (refine at_alloc 55 rfl ?_; refine wl_alloc rfl 55 rfl _ zP HC.out ?_; intro b w' hn hc; (replace HC := hide hc; clear hc)) | ((refine at_store 55 rfl ?_; refine wl_store rfl 55 _ _ rfl rfl rfl tyP.sz rfl HC.out (by repeat (first | exact List.Mem.head _ | apply List.Mem.tail)) (by exact PutS.all _ _ rfl) (by repeat (first | exact Upd.here _ _ _ | apply Upd.there)) ?_; intro w' hc; (replace HC := hide hc; clear hc)); obtain ⟨c0, c1⟩ := two_f HC.out) | (go_at_call 92; refine (open_at _ _ (HT.out.kept HC.out.grown)).mono ?_; rw [H2.out]; rintro e w' ⟨rfl, hw⟩; replace hw := hw.symm; subst hw))
        exact ⟨⟨i + 1, by omega, by go_num, hide (all_go HX.out HA.out HF.out), hide HC.out.drop⟩, by simp [intOf]; omega⟩
    · obtain rfl : i = fl.length := by omega
      go_wp2
      go_ret
      refine ⟨?_, HC.out.grown⟩
      have := HA.out
      rw [List.take_of_length_le (Nat.le_refl _)] at this
      rw [HE.out, this]
      rfl
end Go.Proofs.Ythmldhppmpbadaa.Ty
