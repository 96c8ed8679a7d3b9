/-
  The document's own tables (package spinetref13): a record's bases and fields.
  The document's own tables (package spinetref13): a record's fields, its bases' with them.
-/
import Derived.Test.YthmldhppmpbadaaY15
namespace Go.Proofs.Ythmldhppmpbadaa.Ty
open Go.RowKit hiding Hid
open Go.Maps Go.Proofs.Ythmldhppmpbadaa.Tx Go.Proofs.Ythmldhppmpbadaa.Lx Go.Proofs.Ythmldhppmpbadaa.Tr Go.Proofs.Ythmldhppmpbadaa.Mp
set_option linter.unusedVariables false
set_option linter.unusedSimpArgs false
set_option maxRecDepth 100000

/- Fields of several types, one behind the other: each a word of its own, of a type that may stand there. -/
def fdsA (T : List Tt) (a : Int) : List Fl := match T[a.toNat]? with
  | some x => x.fl
  | none => []
def fdB (T : List Tt) (f : Fl) : Bool := wordB f.n && holdsA T f.t
def RcP (T : List Tt) (l : List Int) : Prop := (∀ a ∈ l, (fdsA T a).length ≤ 64 ∧ (fdsA T a).all (fdB T) = true) ∧ (l.flatMap (fun a => (fdsA T a).map Fl.n)).Nodup
def RdP (T : List Tt) (i : Nat) (x : Tt) : Prop := ∃ l, basesR T i = some l ∧ l.length ≤ 5 ∧ x.fl.length ≤ 64 ∧ RcP T l
def RdO (w : World) (p : Prop) (e : Ending) (w' : World) : Prop := ∃ d, e = .returned (.bool d) ∧ w.grownBy w' none ∧ (d = true ↔ p)
theorem rd_no {p : Prop} (h : ¬ p) : (false = true) ↔ p := ⟨(fun e => by cases e), fun g => absurd g h⟩
set_option maxHeartbeats 8000000 in
theorem record_none {w : World} {ad : Addr} {T : List Tt} {i cp : Nat} {x : Tt} (H : Tab w (some ad) T) (hx : T[i]? = some x) (hb : basesR T i = none) : Calls Try.prog 82 #[.slice (some ad) T.length cp, .int .i64 i] w (RdO w (RdP T i x)) := by
  have HT := hide H
  have HI0 := hide (List.getElem?_eq_some_iff.1 hx).1
  have HR := hide hb
  have HN := hide (show ¬ RdP T i x from fun ⟨l, h, _⟩ => by rw [hb] at h; cases h)
  clear H hx hb
  go_enter Try.func82, Try.ntmps82
  go_wp2_with (go_at_call 111; refine (bases_at _ HT.out HI0.out).mono ?_; rw [HR.out]; rintro e w2 ⟨hg, ⟨_, rfl⟩ | ⟨l, lo, lc, hl, hl6, rfl, hcl⟩⟩ <;> (first | (cases hl; done) | (have HG := hide hg; clear hg)))
  go_ret
  exact ⟨false, rfl, HG.out, rd_no HN.out⟩
set_option maxHeartbeats 8000000 in
theorem record_far {w : World} {ad : Addr} {T : List Tt} {i cp : Nat} {x : Tt} {l : List Int} (H : Tab w (some ad) T) (hx : T[i]? = some x) (hb : basesR T i = some l) (h5 : ¬ l.length ≤ 5 ∨ ¬ x.fl.length ≤ 64) : Calls Try.prog 82 #[.slice (some ad) T.length cp, .int .i64 i] w (RdO w (RdP T i x)) := by
  have HT := hide H
  have hi := (List.getElem?_eq_some_iff.1 hx).1
  have HI0 := hide hi
  have HR := hide hb
  have HN := hide (show ¬ RdP T i x from fun ⟨l', h, h1, h2, _⟩ => by
    rw [hb] at h
    cases h
    rcases h5 with h5 | h5
    · exact h5 h1
    · exact h5 h2)
  have j1 : (i : Int) < T.length := by omega
  obtain ⟨ad', la, e1, rfl, hcl, hp⟩ := H.at hx
  cases e1
  obtain ⟨B, hB⟩ : ∃ B, ad.add (i * 10) = B := ⟨_, rfl⟩
  rw [hB] at hcl
  obtain ⟨_, _, _, _, _, _, c6, _⟩ := ten_of hcl
  have bl := block_lt_of_cell c6
  have k6 := hp.sm.fl
  clear H hx hb hcl hp
  by_cases q5 : l.length ≤ 5
  · have q6 : ¬ la.x.fl.length ≤ 64 := h5.resolve_left (fun h => h q5)
    have k5 : (l.length : Int) ≤ 5 := by omega
    have k7 : (64 : Int) < la.x.fl.length := by omega
    clear h5
    go_enter Try.func82, Try.ntmps82
    go_wp2_with (go_at_call 111; refine (bases_at _ HT.out HI0.out).mono ?_; rw [HR.out]; rintro e w2 ⟨hg, ⟨hl, _⟩ | ⟨l', lo, lc, hl, hl6, rfl, hcl⟩⟩ <;> (first | (cases hl; done) | (injection hl with hl; subst hl; have HG := hide hg; have HLs := hide hcl; have d6 := hg.cell c6 (by simp); clear hg hcl)))
    go_ret
    exact ⟨false, rfl, HG.out, rd_no HN.out⟩
  · have k5 : ¬ (l.length : Int) ≤ 5 := by omega
    clear h5
    go_enter Try.func82, Try.ntmps82
    go_wp2_with (go_at_call 111; refine (bases_at _ HT.out HI0.out).mono ?_; rw [HR.out]; rintro e w2 ⟨hg, ⟨hl, _⟩ | ⟨l', lo, lc, hl, hl6, rfl, hcl⟩⟩ <;> (first | (cases hl; done) | (injection hl with hl; subst hl; have HG := hide hg; have HLs := hide hcl; have d6 := hg.cell c6 (by simp); clear hg hcl)))
    go_ret
    exact ⟨false, rfl, HG.out, rd_no HN.out⟩
end Go.Proofs.Ythmldhppmpbadaa.Ty
namespace Go.Proofs.Ythmldhppmpbadaa.Ty
open Go.RowKit hiding Hid
open Go.Maps Go.Proofs.Ythmldhppmpbadaa.Tx Go.Proofs.Ythmldhppmpbadaa.Lx Go.Proofs.Ythmldhppmpbadaa.Tr Go.Proofs.Ythmldhppmpbadaa.Mp
set_option linter.unusedVariables false
set_option linter.unusedSimpArgs false
set_option maxRecDepth 100000

theorem bsR_in {T : List Tt} : ∀ (k : Nat) (l : List Int) (a : Nat) (r : List Int), bsR T k l a = some r → (∀ b ∈ l, 0 ≤ b ∧ b < T.length) → ∀ b ∈ r, 0 ≤ b ∧ b < T.length
  | 0, l, a, r, h, _ => by simp [bsR] at h
  | k + 1, l, a, r, h, hl => by
    rw [bsR] at h
    split at h
    · cases h
    · rename_i x hx
      by_cases h0 : x.ba = 0
      · rw [if_pos h0] at h
        cases h
        exact hl
      · rw [if_neg h0] at h
        by_cases h1 : fmA T x.ba = 9 ∧ l.length ≤ 5
        · rw [if_pos h1] at h
          refine bsR_in k _ _ r h (fun b hb => ?_)
          rcases List.mem_append.1 hb with hb | hb
          · exact hl b hb
          · rw [List.mem_singleton] at hb
            subst hb
            have := fmA_in (T := T) (a := x.ba) (by rw [h1.1]; decide)
            exact ⟨this.1, this.2.1⟩
        · rw [if_neg h1] at h
          cases h
theorem bases_in {T : List Tt} {i : Nat} {r : List Int} (h : basesR T i = some r) (hi : i < T.length) : ∀ b ∈ r, 0 ≤ b ∧ b < T.length :=
  bsR_in 8 _ _ r h (fun b hb => by rw [List.mem_singleton] at hb; subst hb; omega)
def nmF (T : List Tt) (a : Int) : List Txt := (fdsA T a).map Fl.n
theorem rc_one {T : List Tt} {l : List Int} {k : Nat} {a : Int} (h : l[k]? = some a) : l.flatMap (nmF T) = (l.take k).flatMap (nmF T) ++ (nmF T a ++ (l.drop (k + 1)).flatMap (nmF T)) := by
  obtain ⟨hk, rfl⟩ := List.getElem?_eq_some_iff.1 h
  conv => lhs; rw [← List.take_append_drop k l, List.flatMap_append, List.drop_eq_getElem_cons hk, List.flatMap_cons]
theorem rc_len {T : List Tt} {l : List Int} {a : Int} (h : a ∈ l) (hb : ¬ (fdsA T a).length ≤ 64) : ¬ RcP T l := fun ⟨g, _⟩ => hb (g a h).1
theorem rc_all {T : List Tt} {l : List Int} {a : Int} {f : Fl} (h : a ∈ l) (hf : f ∈ fdsA T a) (hb : fdB T f = false) : ¬ RcP T l := fun ⟨g, _⟩ => by
  have := List.all_eq_true.1 (g a h).2 f hf
  rw [hb] at this
  cases this
theorem two_fl {w : World} {A : Addr} {f : Fl} (h : ∀ j u, (flC f)[j]? = some u → w.cell? (A.add j) = some u) : w.cell? A = some (.string (bs f.n)) ∧ w.cell? ⟨A.block, A.off + 2, none⟩ = some (.int .i64 f.t) := by
  have h0 := h 0 _ rfl
  have h2 := h 2 _ rfl
  rw [Addr.add_zero'] at h0
  rw [Addr.add_succ'] at h2
  simp only [Nat.zero_add, Nat.reduceAdd] at h2
  exact ⟨h0, h2⟩
set_option maxHeartbeats 16000000 in
theorem record_go {w : World} {ad : Addr} {T : List Tt} {i cp : Nat} {x : Tt} {l : List Int} (H : Tab w (some ad) T) (hx : T[i]? = some x) (hb : basesR T i = some l) (h5 : l.length ≤ 5) (h64 : x.fl.length ≤ 64) : Calls Try.prog 82 #[.slice (some ad) T.length cp, .int .i64 i] w (RdO w (RcP T l)) := by
  have HT := hide H
  have hi := (List.getElem?_eq_some_iff.1 hx).1
  have HI0 := hide hi
  have HR := hide hb
  have HIn := hide (bases_in hb hi)
  have j1 : (i : Int) < T.length := by omega
  obtain ⟨ad', la, e1, rfl, hcl, hp⟩ := H.at hx
  cases e1
  obtain ⟨B, hB⟩ : ∃ B, ad.add (i * 10) = B := ⟨_, rfl⟩
  rw [hB] at hcl
  obtain ⟨_, _, _, _, _, _, c6, _⟩ := ten_of hcl
  have bl := block_lt_of_cell c6
  have k5 : (l.length : Int) ≤ 5 := by omega
  have k7 : ¬ (64 : Int) < la.x.fl.length := by omega
  have hlen := H.1
  clear H hx hb hcl hp
  go_enter Try.func82, Try.ntmps82
  go_wp2_with (first | (go_at_call 111; refine (bases_at _ HT.out HI0.out).mono ?_; rw [HR.out]; rintro e w2 ⟨hg, ⟨hl, _⟩ | ⟨l', lo, lc, hl, hl6, rfl, hcl⟩⟩ <;> (first | (cases hl; done) | (injection hl with hl; subst hl; have HG := hide hg; have HLs := hide hcl; have d6 := hg.cell c6 (by simp); have HT2 := hide (HT.out.kept hg); have HC := hide (Cf.of (Cx.start w2 (fun _ => False))); clear hg hcl))) | (refine at_mkmap 112 rfl ?_; refine cf_mkmap rfl 112 rfl (fun b W => MapI W b (fun _ => 0) 0) MapI.made (fun b => stabI b _ _) HC.out ?_; intro mb w' hc; (replace HC := hide hc; clear hc)))
  clear c6 bl d6 hB
  go_loopw [8] (fun iv W => ∃ (k : Nat) (P : List Txt), k ≤ l.length ∧ iv = .int .i64 k ∧ Hid (P = (l.take k).flatMap (nmF T) ∧ P.length ≤ 64 * k ∧ P.Nodup) ∧ Hid (∀ a ∈ l.take k, (fdsA T a).length ≤ 64 ∧ (fdsA T a).all (fdB T) = true) ∧ Hid (Cf w2 (fun _ => False) none [] [] [⟨mb, fun W => MapI W mb (pm (fun _ => 0) 1 P) P.length⟩] W)) (fun iv _ => l.length - (intOf iv).toNat)
  case atStart => exact ⟨0, [], by omega, rfl, hide ⟨rfl, by simp, List.nodup_nil⟩, hide (by simp), hide (by rw [pm_nil]; exact HC.out)⟩
  case round =>
    clear HC
    obtain ⟨k, P, hk, rfl, HP, HA, HC⟩ := hrel
    by_cases hlt : k < l.length
    · have q1 : (k : Int) < l.length := by omega
      obtain ⟨a, ha⟩ : ∃ a, l[k]? = some a := ⟨l[k], List.getElem?_eq_getElem hlt⟩
      have hmem := List.mem_of_getElem? ha
      obtain ⟨a0, a1⟩ := HIn.out a hmem
      obtain ⟨q, rfl⟩ := Int.eq_ofNat_of_zero_le a0
      have q2 : q < T.length := by omega
      obtain ⟨y, hy⟩ : ∃ y, T[q]? = some y := ⟨T[q], List.getElem?_eq_getElem q2⟩
      obtain ⟨ad', lb, e1, rfl, hcl, hp⟩ := HT2.out.at hy
      cases e1
      obtain ⟨B2, hB2⟩ : ∃ B, ad.add (q * 10) = B := ⟨_, rfl⟩
      rw [hB2] at hcl
      obtain ⟨_, _, _, _, _, _, b6, _⟩ := ten_of hcl
      have d6 := HC.out.cx.grown.cell b6 (by simp)
      have bl := block_lt_of_cell d6
      have HFd := hide (show fdsA T (q : Int) = lb.x.fl by unfold fdsA; rw [Int.toNat_natCast, hy])
      obtain ⟨la9, hlo, hlc⟩ := HLs.out k (.int .i64 (q : Int)) (by rw [List.getElem?_map, ha]; rfl)
      subst hlo
      have e8 := HC.out.cx.grown.cell hlc (by simp)
      have bl8 := block_lt_of_cell e8
      have HA0 := hide ha
      have HMem := hide hmem
      have HLp := hide hp
      have k9 := hp.sm.fl
      clear hcl hp ha hmem b6 hlc hy
      by_cases hb : lb.x.fl.length ≤ 64
      case neg =>
        have kb : (64 : Int) < lb.x.fl.length := by omega
        have HN := hide (rc_len HMem.out (by rw [HFd.out]; exact hb))
        go_wp2
        go_ret
        exact ⟨false, rfl, grown_then HG.out HC.out.cx.grown (fun y e => by cases e), rd_no HN.out⟩
      have kb : ¬ (64 : Int) < lb.x.fl.length := by omega
      go_wp2
      clear d6 bl e8 bl8
      go_loopw [10] (fun jv W => ∃ (j : Nat), j ≤ lb.x.fl.length ∧ jv = .int .i64 j ∧ Hid (∀ f ∈ lb.x.fl.take j, fdB T f = true) ∧ Hid (P ++ (lb.x.fl.take j).map Fl.n).Nodup ∧ Hid (Cf w2 (fun _ => False) none [] [] [⟨mb, fun W => MapI W mb (pm (fun _ => 0) 1 (P ++ (lb.x.fl.take j).map Fl.n)) (P ++ (lb.x.fl.take j).map Fl.n).length⟩] W)) (fun jv _ => lb.x.fl.length - (intOf jv).toNat)
      case atStart => exact ⟨0, by omega, rfl, hide (by simp), hide (by simpa using HP.out.2.2), hide (by simpa using HC.out)⟩
      case round =>
        clear HC
        obtain ⟨j, hj, rfl, HAf, HND, HC⟩ := hrel
        by_cases hlj : j < lb.x.fl.length
        · have r1 : (j : Int) < lb.x.fl.length := by omega
          obtain ⟨⟨nm, x, t⟩, hxj⟩ : ∃ p, lb.x.fl[j]? = some p := ⟨lb.x.fl[j], List.getElem?_eq_getElem hlj⟩
          obtain ⟨fd, hfo, hel⟩ := HLp.out.fl.el flC_len (by decide) hxj
          obtain ⟨B3, hB3⟩ : ∃ B, fd.add (j * 3) = B := ⟨_, rfl⟩
          rw [hB3] at hel
          obtain ⟨g0', g2'⟩ := two_fl hel
          have g0 := HC.out.cx.grown.cell g0' (by simp)
          have g2 := HC.out.cx.grown.cell g2' (by simp)
          have gl := block_lt_of_cell g0
          have HNl := hide (show nm.length ≤ maxLen from HLp.out.sm.fn _ (List.mem_of_getElem? hxj))
          have hst := take_one (f := Fl.n) hxj
          have hrs := rest_one (f := Fl.n) hxj
          have HXj := hide hxj
          obtain ⟨P', hP'⟩ : ∃ P', P ++ (lb.x.fl.take j).map Fl.n = P' := ⟨_, rfl⟩
          rw [hP'] at HND HC
          have HN2 := hide (show ∃ R, l.flatMap (nmF T) = P' ++ nm :: R by
            refine ⟨(lb.x.fl.drop (j + 1)).map Fl.n ++ (l.drop (k + 1)).flatMap (nmF T), ?_⟩
            rw [rc_one HA0.out, ← HP.out.1, ← hP']
            unfold nmF
            rw [HFd.out, hrs]
            simp only [List.append_assoc, List.cons_append])
          have HCn := hide (show P'.length < 1000000 by
            have := HP.out.2.1
            rw [← hP', List.length_append, List.length_map, List.length_take]
            omega)
          have HP' := hide hP'
          have HST := hide hst
          have HW := hide (fun W : World => rword_at nm W (by have := HNl.out; unfold maxLen at this; exact this))
          rw [hfo]
          clear hel hxj hst hrs hP' hfo g0' g2'
          by_cases hin : nm ∈ P'
          · have HV := hide (show pm (fun _ => 0) 1 P' nm = 1 by unfold pm; rw [if_pos hin])
            have HN := hide (show ¬ RcP T l from fun ⟨_, hn⟩ => by
              obtain ⟨R, hR⟩ := HN2.out
              have hn' : (l.flatMap (nmF T)).Nodup := hn
              rw [hR] at hn'
              exact nodup_not hin hn')
            clear hin
            go_wp2_with (refine at_lookup 112 rfl ?_; refine wl_look rfl rfl rfl rfl ((HC.out.fs _ (.head _)).look HNl.out) ?_; rw [HV.out])
            go_ret
            exact ⟨false, rfl, grown_then HG.out HC.out.cx.grown (fun y e => by cases e), rd_no HN.out⟩
          · have HV := hide (show pm (fun _ => 0) 1 P' nm = 0 by unfold pm; rw [if_neg hin])
            have HIn2 := hide hin
            clear hin
            cases hw1 : wordB nm with
            | false =>
              have HN := hide (rc_all HMem.out (by rw [HFd.out]; exact List.mem_of_getElem? HXj.out) (show fdB T ⟨nm, x, t⟩ = false by unfold fdB; rw [hw1]; rfl))
              rw [hw1] at HW
              clear hw1
              go_wp2_with (first | (refine at_lookup 112 rfl ?_; refine wl_look rfl rfl rfl rfl ((HC.out.fs _ (.head _)).look HNl.out) ?_; rw [HV.out]) | (go_at_call 79; refine (HW.out _).mono ?_; rintro e w' ⟨rfl, hw⟩; replace hw := hw.symm; subst hw))
              go_ret
              exact ⟨false, rfl, grown_then HG.out HC.out.cx.grown (fun y e => by cases e), rd_no HN.out⟩
            | true =>
              rw [hw1] at HW
              cases hw2 : holdsA T t with
              | false =>
                have HN := hide (rc_all HMem.out (by rw [HFd.out]; exact List.mem_of_getElem? HXj.out) (show fdB T ⟨nm, x, t⟩ = false by unfold fdB; rw [hw1, hw2]; rfl))
                have HH := hide hw2
                clear hw1 hw2
                go_wp2_with (first | (refine at_lookup 112 rfl ?_; refine wl_look rfl rfl rfl rfl ((HC.out.fs _ (.head _)).look HNl.out) ?_; rw [HV.out]) | (go_at_call 79; refine (HW.out _).mono ?_; rintro e w' ⟨rfl, hw⟩; replace hw := hw.symm; subst hw) | (go_at_call 80; refine (holds_at _ _ (HT2.out.kept HC.out.cx.grown)).mono ?_; rw [HH.out]; rintro e w' ⟨rfl, hw⟩; replace hw := hw.symm; subst hw))
                go_ret
                exact ⟨false, rfl, grown_then HG.out HC.out.cx.grown (fun y e => by cases e), rd_no HN.out⟩
              | true =>
                have HF := hide (show fdB T ⟨nm, x, t⟩ = true by unfold fdB; rw [hw1, hw2]; rfl)
                have HH := hide hw2
                clear hw1 hw2
                go_wp2_with (first | (refine at_lookup 112 rfl ?_; refine wl_look rfl rfl rfl rfl ((HC.out.fs _ (.head _)).look HNl.out) ?_; rw [HV.out]) | (go_at_call 79; refine (HW.out _).mono ?_; rintro e w' ⟨rfl, hw⟩; replace hw := hw.symm; subst hw) | (go_at_call 80; refine (holds_at _ _ (HT2.out.kept HC.out.cx.grown)).mono ?_; rw [HH.out]; rintro e w' ⟨rfl, hw⟩; replace hw := hw.symm; subst hw) | (refine at_put 112 rfl ?_; obtain ⟨w9, hr9, hm9, hg9⟩ := (HC.out.fs _ (.head _)).put HCn.out HNl.out 1; refine wl_put rfl rfl rfl rfl rfl hr9 ?_; replace HC := hide (HC.out.turn (Fs' := []) hg9 hm9 (stabI _ _ _)); clear hr9 hm9 hg9))
                refine ⟨⟨j + 1, by omega, by go_num, hide (fun f hf => ?_), hide ?_, hide ?_⟩, by simp [intOf]; omega⟩
                · rw [List.take_add_one, HXj.out] at hf
                  rcases List.mem_append.1 hf with hf | hf
                  · exact HAf.out f hf
                  · simp at hf
                    subst hf
                    exact HF.out
                · rw [HST.out, ← List.append_assoc, HP'.out]
                  exact nodup_snoc HND.out HIn2.out
                · have h := HC.out
                  rw [pm_put] at h
                  rw [HST.out, ← List.append_assoc, HP'.out, List.length_append]
                  exact h
        · obtain rfl : j = lb.x.fl.length := by omega
          rw [List.take_of_length_le (Nat.le_refl _)] at HND HC HAf
          have HNx := hide (show P ++ lb.x.fl.map Fl.n = (l.take (k + 1)).flatMap (nmF T) by
            rw [List.take_add_one, HA0.out, List.flatMap_append, ← HP.out.1]
            show _ = P ++ [(q : Int)].flatMap (nmF T)
            rw [List.flatMap_cons, List.flatMap_nil, List.append_nil]
            unfold nmF
            rw [HFd.out])
          go_wp2
          refine ⟨⟨k + 1, P ++ lb.x.fl.map Fl.n, by omega, by go_num, hide ⟨HNx.out, ?_, HND.out⟩, hide (fun a ha => ?_), HC⟩, by simp [intOf]; omega⟩
          · have := HP.out.2.1
            rw [List.length_append, List.length_map]
            omega
          · rw [List.take_add_one, HA0.out] at ha
            rcases List.mem_append.1 ha with ha | ha
            · exact HA.out a ha
            · simp at ha
              subst ha
              rw [HFd.out]
              exact ⟨hb, List.all_eq_true.2 HAf.out⟩
    · obtain rfl : k = l.length := by omega
      go_wp2
      go_ret
      have h1 := HP.out.1
      have h2 := HA.out
      rw [List.take_of_length_le (Nat.le_refl _)] at h1 h2
      exact ⟨true, rfl, grown_then HG.out HC.out.cx.grown (fun y e => by cases e), ⟨fun _ => ⟨h2, by have := HP.out.2.2; rw [h1] at this; exact this⟩, fun _ => rfl⟩⟩
end Go.Proofs.Ythmldhppmpbadaa.Ty
