/-
  The document's own tables (package spinetref13): a type held against a basic one; two tables that are equal.
-/
import Derived.Test.YthmldhppmpbadaaTg20
import Derived.Test.YthmldhppmpbadaaTg21
import Derived.Test.YthmldhppmpbadaaTg22
import Derived.Test.YthmldhppmpbadaaY1
import Derived.Test.YthmldhppmpbadaaTp2
namespace Go.Proofs.Ythmldhppmpbadaa.Ty
open Go.RowKit hiding Hid
open Go.Maps Go.Proofs.Ythmldhppmpbadaa.Tx Go.Proofs.Ythmldhppmpbadaa.Lx Go.Proofs.Ythmldhppmpbadaa.Tr Go.Proofs.Ythmldhppmpbadaa.Mp
set_option linter.unusedVariables false
set_option linter.unusedSimpArgs false
set_option maxRecDepth 100000

def headB (x y : Tt) : Bool := x.fm == y.fm && (x.md == y.md && (x.nm == y.nm && (x.ln == y.ln && (x.el == y.el && (x.ba == y.ba && (x.rs == y.rs && (x.ds == y.ds && (x.fl.length == y.fl.length && x.pm.length == y.pm.length))))))))
theorem alike_h {w : World} {a b : La} (ha : Sm a.x) (hb : Sm b.x) (h : headB a.x b.x = false) : Calls Try.prog 50 #[.agg (laC a).toArray, .agg (laC b).toArray] w fun e w' => e = .returned (.bool false) ∧ w.grownBy w' none := by
  obtain ⟨⟨fm, md, nm, ln, el, ba, fl, pr, rs, ds⟩, fo, fc, po, pc⟩ := a
  obtain ⟨⟨fm2, md2, nm2, ln2, el2, ba2, fl2, pr2, rs2, ds2⟩, fo2, fc2, po2, pc2⟩ := b
  have q1 := ha.fl
  have q2 := ha.pm
  have q3 := hb.fl
  have q4 := hb.pm
  dsimp only at q1 q2 q3 q4
  by_cases e0 : fm = fm2
  case neg => exact alike_n0 e0 q1 q2 q3 q4
  by_cases e1 : md = md2
  case neg => subst e0; exact alike_n1 e1 q1 q2 q3 q4
  by_cases e2 : nm = nm2
  case neg => subst e0 e1; exact alike_n2 e2 q1 q2 q3 q4
  by_cases e3 : ln = ln2
  case neg => subst e0 e1 e2; exact alike_n3 e3 q1 q2 q3 q4
  by_cases e4 : el = el2
  case neg => subst e0 e1 e2 e3; exact alike_n4 e4 q1 q2 q3 q4
  by_cases e5 : ba = ba2
  case neg => subst e0 e1 e2 e3 e4; exact alike_n5 e5 q1 q2 q3 q4
  by_cases e6 : rs = rs2
  case neg => subst e0 e1 e2 e3 e4 e5; exact alike_n6 e6 q1 q2 q3 q4
  by_cases e7 : ds = ds2
  case neg => subst e0 e1 e2 e3 e4 e5 e6; exact alike_n7 e7 q1 q2 q3 q4
  subst e0 e1 e2 e3 e4 e5 e6 e7
  by_cases e8 : fl.length = fl2.length
  case neg => exact alike_n8 e8 q1 q2 q3 q4
  by_cases e9 : pr.length = pr2.length
  case neg => exact alike_n9 e8 e9 q1 q2 q3 q4
  unfold headB at h
  simp [e8, e9] at h
theorem head_bas {i : Nat} {x : Tt} : headB x (bT i) = basicB i x := by
  unfold headB basicB bareB bT
  rw [Bool.eq_iff_iff]
  simp only [Bool.and_eq_true, beq_iff_eq, List.length_nil]
  constructor
  · rintro ⟨h0, h1, h2, h3, h4, h5, h6, h7, h8, h9⟩; exact ⟨h0, h1, h2, ⟨⟨⟨⟨⟨h3, h4⟩, h5⟩, h8⟩, h9⟩, h6⟩, h7⟩
  · rintro ⟨h0, h1, h2, ⟨⟨⟨⟨⟨h3, h4⟩, h5⟩, h8⟩, h9⟩, h6⟩, h7⟩; exact ⟨h0, h1, h2, h3, h4, h5, h6, h7, h8, h9⟩
theorem bas_is {i : Nat} {x : Tt} (h : basicB i x = true) : x = bT i := by
  obtain ⟨fm, md, nm, ln, el, ba, fl, pr, rs, ds⟩ := x
  unfold basicB bareB at h
  simp only [Bool.and_eq_true, beq_iff_eq] at h
  obtain ⟨h0, h1, h2, ⟨⟨⟨⟨⟨h3, h4⟩, h5⟩, h8⟩, h9⟩, h6⟩, h7⟩ := h
  rw [List.length_eq_zero_iff] at h8 h9
  subst h0 h1 h2 h3 h4 h5 h6 h7 h8 h9
  rfl
theorem alike_b {w : World} {a b : La} {i : Nat} (ha : Lp w a) (hb : Lp w b) (hi : b.x = bT i) : Calls Try.prog 50 #[.agg (laC a).toArray, .agg (laC b).toArray] w fun e w' => e = .returned (.bool (basicB i a.x)) ∧ w.grownBy w' none := by
  cases h : basicB i a.x with
  | true => exact alike_e ha hb (by rw [hi]; exact bas_is h)
  | false => exact alike_h ha.sm hb.sm (by rw [hi, head_bas]; exact h)
set_option maxHeartbeats 4000000 in
theorem tables_e {w : World} {o o2 : Option Addr} {T : List Tt} (cp cp2 : Nat) (h1 : Tab w o T) (h2 : Tab w o2 T) : Calls Try.prog 38 #[.slice o T.length cp, .slice o2 T.length cp2] w fun e w' => e = .returned (.bool true) ∧ w.grownBy w' none := by
  have hlen := h1.1
  have HT1 := hide h1
  have HT2 := hide h2
  have HC := hide (Cx.start w (fun _ => False))
  have k0 : (T.length : Int) ≤ 1000000 := by omega
  clear h1 h2 hlen
  go_enter Try.func38, Try.ntmps38
  go_wp2
  go_loopw [5] (fun iv W => ∃ i : Nat, i ≤ T.length ∧ iv = .int .i64 i ∧ Hid (Cx w (fun _ => False) none [] [] [] W)) (fun iv _ => T.length - (intOf iv).toNat)
  case atStart => exact ⟨0, by omega, rfl, HC⟩
  case round =>
    clear HC
    obtain ⟨i, hi, rfl, HC⟩ := hrel
    by_cases hlt : i < T.length
    · have r1 : (i : Int) < T.length := by omega
      obtain ⟨x, hx⟩ : ∃ x, T[i]? = some x := ⟨T[i], List.getElem?_eq_getElem hlt⟩
      obtain ⟨ad, la, rfl, e1, hc1, hp1⟩ := HT1.out.at hx
      obtain ⟨ad2, la2, rfl, e2, hc2, hp2⟩ := HT2.out.at hx
      obtain ⟨B, hB⟩ : ∃ B, ad.add (i * 10) = B := ⟨_, rfl⟩
      obtain ⟨B2, hB2⟩ : ∃ B, ad2.add (i * 10) = B := ⟨_, rfl⟩
      rw [hB] at hc1
      rw [hB2] at hc2
      have HE1 := hide (fun W (hW : w.grownBy W none) j u (hu : (laC la)[j]? = some u) => hW.cell (hc1 j u hu) (by simp))
      have HE2 := hide (fun W (hW : w.grownBy W none) j u (hu : (laC la2)[j]? = some u) => hW.cell (hc2 j u hu) (by simp))
      have HP1 := hide hp1
      have HP2 := hide hp2
      have HX := hide (e1.trans e2.symm)
      clear hx e1 e2 hc1 hc2 hp1 hp2
      go_wp2
      (replace HC := hide (HC.out.g (d1_g _)); have HC0 := HC; refine wp_region_inO (fun W => World.grownBy _ W none) 99 [0, 1, 2, 3, 4, 5, 6, 7, 9] [0, 1, 2, 3, 4, 5, 6, 7, 8, 9] (by kernel_rfl) (by kernel_rfl) (by kernel_rfl) (by kernel_rfl) (fun _ _ d _ _ h => by cases d <;> exact h) (gr_ref _ _) ?_; have HS := hide (gr_of HC.out none))
      (refine inO_read (v := ?_) rfl rfl (Or.inl ⟨by rfl, ?_⟩) ?_; rotate_left 1; (focus (intro W hSW; clear hSW; go_simp; (try (with_reducible rfl)))); (try simp only [Act.put, List.getElem_toArray, List.getElem_cons_zero, List.getElem_cons_succ, List.setIfInBounds_toArray, List.set_cons_zero, List.set_cons_succ]))
      (refine inO_read (v := ?_) rfl rfl (Or.inl ⟨by rfl, ?_⟩) ?_; rotate_left 1; (focus (intro W hSW; clear hSW; go_simp; (try (with_reducible rfl)))); (try simp only [Act.put, List.getElem_toArray, List.getElem_cons_zero, List.getElem_cons_succ, List.setIfInBounds_toArray, List.set_cons_zero, List.set_cons_succ]))
      (refine inO_read (v := ?_) rfl rfl (Or.inl ⟨by rfl, ?_⟩) ?_; rotate_left 1; (focus (intro W hSW; clear hSW; go_simp; (try (with_reducible rfl)))); (try simp only [Act.put, List.getElem_toArray, List.getElem_cons_zero, List.getElem_cons_succ, List.setIfInBounds_toArray, List.set_cons_zero, List.set_cons_succ]))
      (refine inO_read rfl rfl (yl_load rfl rfl rfl (fun W hW => run_load_s tyT B (laC la) rfl (HE1.out W (gr_then HC0.out.grown hW)))) ?_; (try simp only [Act.put, List.getElem_toArray, List.getElem_cons_zero, List.getElem_cons_succ, List.setIfInBounds_toArray, List.set_cons_zero, List.set_cons_succ]))
      (refine inO_read (v := ?_) rfl rfl (Or.inl ⟨by rfl, ?_⟩) ?_; rotate_left 1; (focus (intro W hSW; clear hSW; go_simp; (try (with_reducible rfl)))); (try simp only [Act.put, List.getElem_toArray, List.getElem_cons_zero, List.getElem_cons_succ, List.setIfInBounds_toArray, List.set_cons_zero, List.set_cons_succ]))
      (refine inO_read (v := ?_) rfl rfl (Or.inl ⟨by rfl, ?_⟩) ?_; rotate_left 1; (focus (intro W hSW; clear hSW; go_simp; (try (with_reducible rfl)))); (try simp only [Act.put, List.getElem_toArray, List.getElem_cons_zero, List.getElem_cons_succ, List.setIfInBounds_toArray, List.set_cons_zero, List.set_cons_succ]))
      (refine inO_read (v := ?_) rfl rfl (Or.inl ⟨by rfl, ?_⟩) ?_; rotate_left 1; (focus (intro W hSW; clear hSW; go_simp; (try (with_reducible rfl)))); (try simp only [Act.put, List.getElem_toArray, List.getElem_cons_zero, List.getElem_cons_succ, List.setIfInBounds_toArray, List.set_cons_zero, List.set_cons_succ]))
      (refine inO_read rfl rfl (yl_load rfl rfl rfl (fun W hW => run_load_s tyT B2 (laC la2) rfl (HE2.out W (gr_then HC0.out.grown hW)))) ?_; (try simp only [Act.put, List.getElem_toArray, List.getElem_cons_zero, List.getElem_cons_succ, List.setIfInBounds_toArray, List.set_cons_zero, List.set_cons_succ]))
      (refine inO_act rfl rfl rfl (fun K' hK => ?_))
      go_simp
      refine (alike_e (HP1.out.kept HC.out.grown) (HP2.out.kept HC.out.grown) HX.out).mono ?_
      rintro e w1 ⟨rfl, hg⟩
      (replace HC := hide (HC.out.g hg); refine hK _ _ (.inr (gr_then0 HS.out hg)) ?_; replace HS := hide (gr_then0 HS.out hg); clear hK K' hg; (try simp only [Act.put, List.getElem_toArray, List.getElem_cons_zero, List.getElem_cons_succ, List.setIfInBounds_toArray, List.set_cons_zero, List.set_cons_succ]))
      (refine inO_read (v := ?_) rfl rfl (Or.inl ⟨by rfl, ?_⟩) ?_; rotate_left 1; (focus (intro W hSW; clear hSW; go_simp; (try (with_reducible rfl)))); (try simp only [Act.put, List.getElem_toArray, List.getElem_cons_zero, List.getElem_cons_succ, List.setIfInBounds_toArray, List.set_cons_zero, List.set_cons_succ]))
      (refine inO_end ?_)
      clear HC0 HS
      go_wp2
      exact ⟨⟨i + 1, by omega, by go_num, HC⟩, by simp [intOf]; omega⟩
    · obtain rfl : i = T.length := by omega
      go_wp2
      go_ret
      exact ⟨rfl, HC.out.grown⟩
end Go.Proofs.Ythmldhppmpbadaa.Ty
