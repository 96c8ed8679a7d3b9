/-
  Package consts: what each operation tells, and that what its maps hold tells it.
-/
import Derived.Test.YtgdpcdpkaaefbaaCn11
import Derived.Test.YtgdpcdpkaaefbaaCn12
import Derived.Test.YtgdpcdpkaaefbaaCn14
namespace Go.Proofs.Ytgdpcdpkaaefbaa.Cn
open Go.RowKit hiding Hid
open Go.Maps Go.Proofs.Ytgdpcdpkaaefbaa.Tx Go.Proofs.Ytgdpcdpkaaefbaa.Lx Go.Proofs.Ytgdpcdpkaaefbaa.Mp Go.Proofs.Ytgdpcdpkaaefbaa.Bits Go.Proofs.Ytgdpcdpkaaefbaa.Tr
set_option linter.unusedVariables false
set_option linter.unusedSimpArgs false
set_option maxRecDepth 100000

def ev (c : Cd) (a b : Vl) : Rs := match c with
  | .pos => intR a.n
  | .neg => intR (-a.n)
  | .cpl => setR (Go.bits .xor .u32 IntKind.u32.max (a.n % 4294967296))
  | .not => bolR (a.n == 0)
  | .add => intR (a.n + b.n)
  | .sub => intR (a.n - b.n)
  | .mul => intR (a.n * b.n)
  | .quo => divR b.n (a.n / b.n)
  | .rem => divR b.n (a.n % b.n)
  | .sor => setR (Go.bits .or .u32 (a.n % 4294967296) (b.n % 4294967296))
  | .sdf => setR (Go.bits .andNot .u32 (a.n % 4294967296) (b.n % 4294967296))
  | .san => setR (Go.bits .and .u32 (a.n % 4294967296) (b.n % 4294967296))
  | .sxo => setR (Go.bits .xor .u32 (a.n % 4294967296) (b.n % 4294967296))
  | .and => bolR ((a.n == 1) && (b.n == 1))
  | .or => bolR ((a.n == 1) || (b.n == 1))
  | .isin => memR a b
  | .eq => bolR (eqB a b)
  | .ne => bolR (!eqB a b)
  | .lt => bolR (decide (ordI a b < 0))
  | .le => bolR (decide (ordI a b ≤ 0))
  | .gt => bolR (decide (0 < ordI a b))
  | .ge => bolR (decide (0 ≤ ordI a b))
  | .abs => intR (if 0 ≤ a.n then a.n else -a.n)
  | .odd => bolR (a.n.tmod 2 != 0)
  | .lsl => intR (wrap32 (lslI (a.n % 4294967296) (b.n % 4294967296)))
  | .asr => intR (wrap32 (asrI (a.n % 4294967296) (b.n % 4294967296)))
  | .ror => intR (wrap32 (rorI (a.n % 4294967296) (b.n % 4294967296)))
  | .wi1 => intR (wrap32 (a.n % 4294967296))
  | .wi2 => intR (wrap32 (a.n % 4294967296))
  | .wi3 => intR (wrap32 (a.n % 4294967296))
  | .otx => otxR a b
  | .chr => chrR a b
structure Pre (c : Cd) (a b : Vl) : Prop where
  a0 : -4294967296 ≤ a.n
  a1 : a.n < 4294967296
  b0 : -4294967296 ≤ b.n
  b1 : b.n < 4294967296
  at_ : a.t.length ≤ 9223372036854775807
  mul : c = .mul → (-2147483648 ≤ a.n ∧ a.n < 2147483648) ∧ -2147483648 ≤ b.n ∧ b.n < 2147483648
theorem m0 (x : Int) : 0 ≤ x % 4294967296 := by omega
theorem m1 (x : Int) : x % 4294967296 < 4294967296 := by omega
theorem wr_rg (x : Int) : 0 ≤ IntKind.u32.wrap x ∧ IntKind.u32.wrap x < 4294967296 := by rw [IntKind.wrap_u32']; omega
theorem bits_xor (a b : Int) : 0 ≤ Go.bits .xor .u32 a b ∧ Go.bits .xor .u32 a b < 4294967296 := wr_rg _
theorem bits_or (a b : Int) : 0 ≤ Go.bits .or .u32 a b ∧ Go.bits .or .u32 a b < 4294967296 := wr_rg _
theorem bits_and (a b : Int) : 0 ≤ Go.bits .and .u32 a b ∧ Go.bits .and .u32 a b < 4294967296 := wr_rg _
theorem bits_an (a b : Int) : 0 ≤ Go.bits .andNot .u32 a b ∧ Go.bits .andNot .u32 a b < 4294967296 := wr_rg _
theorem mul_rg {a b : Int} (h : (-2147483648 ≤ a ∧ a < 2147483648) ∧ -2147483648 ≤ b ∧ b < 2147483648) : -9223372036854775808 ≤ a * b ∧ a * b < 9223372036854775808 := by
  obtain ⟨⟨h1, h2⟩, h3, h4⟩ := h
  have ha : a.natAbs ≤ 2147483648 := by omega
  have hb : b.natAbs ≤ 2147483648 := by omega
  have := Nat.mul_le_mul ha hb
  rw [← Int.natAbs_mul] at this
  omega
theorem told_of {w : World} {v : Value} (e : Ending) (w' : World) (h : e = .returned v ∧ w' = w) : Told w v e w' := ⟨h.1, by rw [h.2]; exact gr_ref w none⟩
/- What is held may be called, and tells what it should. -/
def Does (w : World) (a b : Vl) (r : Rs) (v : Value) : Prop :=
  (∃ F cb, v = clV F cb ∧ Cbv F #[vV a, vV b, .pointer (some ⟨cb, 0, none⟩)] ∧ ∀ W, w.grownBy W none → Calls Try.prog F #[vV a, vV b, .pointer (some ⟨cb, 0, none⟩)] W (Told W (rsV r))) ∨
  ∃ F, v = fnV F ∧ Cbv F #[vV a, vV b] ∧ ∀ W, w.grownBy W none → Calls Try.prog F #[vV a, vV b] W (Told W (rsV r))
theorem does {w : World} {c : Cd} {a b : Vl} {v : Value} (hv : EntV w (entOf c) v) (H : Pre c a b) : Does w a b (ev c a b) v := by
  cases c with
  | pos => obtain ⟨b, rfl, hc⟩ := hv; exact .inl ⟨91, b, rfl, fun _ => rfl, fun W hg => ofInts_at (hg.cell hc (by simp)) (fun _ => rfl) (fun W => pos_at _ _ H.a0 H.a1 H.b0 H.b1 W)⟩
  | neg => obtain ⟨b, rfl, hc⟩ := hv; exact .inl ⟨91, b, rfl, fun _ => rfl, fun W hg => ofInts_at (hg.cell hc (by simp)) (fun _ => rfl) (fun W => neg_at _ _ H.a0 H.a1 H.b0 H.b1 W)⟩
  | cpl => obtain ⟨b, rfl, hc⟩ := hv; exact .inl ⟨93, b, rfl, fun _ => rfl, fun W hg => ofSets_at (hg.cell hc (by simp)) (fun _ => rfl) (bits_xor _ _).1 (bits_xor _ _).2 (fun W => cpl_at _ _ (m0 _) (m1 _) (m0 _) (m1 _) W)⟩
  | not => obtain ⟨b, rfl, hc⟩ := hv; exact .inl ⟨95, b, rfl, fun _ => rfl, fun W hg => tells_at (hg.cell hc (by simp)) (fun _ => rfl) (fun W => not_at _ _ W)⟩
  | add => obtain ⟨b, rfl, hc⟩ := hv; exact .inl ⟨91, b, rfl, fun _ => rfl, fun W hg => ofInts_at (hg.cell hc (by simp)) (fun _ => rfl) (fun W => add_at _ _ H.a0 H.a1 H.b0 H.b1 W)⟩
  | sub => obtain ⟨b, rfl, hc⟩ := hv; exact .inl ⟨91, b, rfl, fun _ => rfl, fun W hg => ofInts_at (hg.cell hc (by simp)) (fun _ => rfl) (fun W => sub_at _ _ H.a0 H.a1 H.b0 H.b1 W)⟩
  | mul => obtain ⟨b, rfl, hc⟩ := hv; exact .inl ⟨91, b, rfl, fun _ => rfl, fun W hg => ofInts_at (hg.cell hc (by simp)) (fun _ => rfl) (fun W => mul_at _ _ rfl (mul_rg (H.mul rfl)).1 (mul_rg (H.mul rfl)).2 H.a0 H.a1 H.b0 H.b1 W)⟩
  | quo => obtain ⟨b, rfl, hc⟩ := hv; exact .inl ⟨98, b, rfl, fun _ => rfl, fun W hg => division_at (hg.cell hc (by simp)) (fun _ => rfl) (fun h W => (quo_at _ _ H.a0 H.a1 h H.b1 W).mono told_of)⟩
  | rem => obtain ⟨b, rfl, hc⟩ := hv; exact .inl ⟨98, b, rfl, fun _ => rfl, fun W hg => division_at (hg.cell hc (by simp)) (fun _ => rfl) (fun h W => (rest_at _ _ H.a0 H.a1 h H.b1 W).mono told_of)⟩
  | sor => obtain ⟨b, rfl, hc⟩ := hv; exact .inl ⟨93, b, rfl, fun _ => rfl, fun W hg => ofSets_at (hg.cell hc (by simp)) (fun _ => rfl) (bits_or _ _).1 (bits_or _ _).2 (fun W => sor_at _ _ (m0 _) (m1 _) (m0 _) (m1 _) W)⟩
  | sdf => obtain ⟨b, rfl, hc⟩ := hv; exact .inl ⟨93, b, rfl, fun _ => rfl, fun W hg => ofSets_at (hg.cell hc (by simp)) (fun _ => rfl) (bits_an _ _).1 (bits_an _ _).2 (fun W => sdf_at _ _ (m0 _) (m1 _) (m0 _) (m1 _) W)⟩
  | san => obtain ⟨b, rfl, hc⟩ := hv; exact .inl ⟨93, b, rfl, fun _ => rfl, fun W hg => ofSets_at (hg.cell hc (by simp)) (fun _ => rfl) (bits_and _ _).1 (bits_and _ _).2 (fun W => san_at _ _ (m0 _) (m1 _) (m0 _) (m1 _) W)⟩
  | sxo => obtain ⟨b, rfl, hc⟩ := hv; exact .inl ⟨93, b, rfl, fun _ => rfl, fun W hg => ofSets_at (hg.cell hc (by simp)) (fun _ => rfl) (bits_xor _ _).1 (bits_xor _ _).2 (fun W => sxo_at _ _ (m0 _) (m1 _) (m0 _) (m1 _) W)⟩
  | and => obtain ⟨b, rfl, hc⟩ := hv; exact .inl ⟨95, b, rfl, fun _ => rfl, fun W hg => tells_at (hg.cell hc (by simp)) (fun _ => rfl) (fun W => and_at _ _ W)⟩
  | or => obtain ⟨b, rfl, hc⟩ := hv; exact .inl ⟨95, b, rfl, fun _ => rfl, fun W hg => tells_at (hg.cell hc (by simp)) (fun _ => rfl) (fun W => or_at _ _ W)⟩
  | isin => exact .inr ⟨74, hv, fun _ => rfl, fun W hg => member_at _ _ W⟩
  | eq => obtain ⟨b, rfl, hc⟩ := hv; exact .inl ⟨95, b, rfl, fun _ => rfl, fun W hg => tells_at (hg.cell hc (by simp)) (fun _ => rfl) (fun W => eq_at _ _ W)⟩
  | ne => obtain ⟨b, rfl, hc⟩ := hv; exact .inl ⟨95, b, rfl, fun _ => rfl, fun W hg => tells_at (hg.cell hc (by simp)) (fun _ => rfl) (fun W => ne_at _ _ W)⟩
  | lt => obtain ⟨b, rfl, hc⟩ := hv; exact .inl ⟨95, b, rfl, fun _ => rfl, fun W hg => tells_at (hg.cell hc (by simp)) (fun _ => rfl) (fun W => lt_at _ _ W)⟩
  | le => obtain ⟨b, rfl, hc⟩ := hv; exact .inl ⟨95, b, rfl, fun _ => rfl, fun W hg => tells_at (hg.cell hc (by simp)) (fun _ => rfl) (fun W => le_at _ _ W)⟩
  | gt => obtain ⟨b, rfl, hc⟩ := hv; exact .inl ⟨95, b, rfl, fun _ => rfl, fun W hg => tells_at (hg.cell hc (by simp)) (fun _ => rfl) (fun W => gt_at _ _ W)⟩
  | ge => obtain ⟨b, rfl, hc⟩ := hv; exact .inl ⟨95, b, rfl, fun _ => rfl, fun W hg => tells_at (hg.cell hc (by simp)) (fun _ => rfl) (fun W => ge_at _ _ W)⟩
  | abs => obtain ⟨b, rfl, hc⟩ := hv; exact .inl ⟨91, b, rfl, fun _ => rfl, fun W hg => ofInts_at (hg.cell hc (by simp)) (fun _ => rfl) (fun W => abs_at _ _ H.a0 H.a1 H.b0 H.b1 W)⟩
  | odd => obtain ⟨b, rfl, hc⟩ := hv; exact .inl ⟨95, b, rfl, fun _ => rfl, fun W hg => tells_at (hg.cell hc (by simp)) (fun _ => rfl) (fun W => odd_at _ _ W)⟩
  | lsl => obtain ⟨b, rfl, hc⟩ := hv; exact .inl ⟨109, b, rfl, fun _ => rfl, fun W hg => ofWords_at (hg.cell hc (by simp)) (fun _ => rfl) (fun W => (lsl_any _ _ W (m0 _) (m0 _) (m1 _)).mono told_of)⟩
  | asr => obtain ⟨b, rfl, hc⟩ := hv; exact .inl ⟨109, b, rfl, fun _ => rfl, fun W hg => ofWords_at (hg.cell hc (by simp)) (fun _ => rfl) (fun W => (asr_any _ _ W (m0 _) (m1 _)).mono told_of)⟩
  | ror => obtain ⟨b, rfl, hc⟩ := hv; exact .inl ⟨109, b, rfl, fun _ => rfl, fun W hg => ofWords_at (hg.cell hc (by simp)) (fun _ => rfl) (fun W => (ror_any _ _ W (m0 _) (m1 _) (m0 _) (m1 _)).mono told_of)⟩
  | wi1 => obtain ⟨b, rfl, hc⟩ := hv; exact .inl ⟨109, b, rfl, fun _ => rfl, fun W hg => ofWords_at (hg.cell hc (by simp)) (fun _ => rfl) (fun W => wi1_at _ _ (m0 _) (m1 _) (m0 _) (m1 _) W)⟩
  | wi2 => obtain ⟨b, rfl, hc⟩ := hv; exact .inl ⟨109, b, rfl, fun _ => rfl, fun W hg => ofWords_at (hg.cell hc (by simp)) (fun _ => rfl) (fun W => wi2_at _ _ (m0 _) (m1 _) (m0 _) (m1 _) W)⟩
  | wi3 => obtain ⟨b, rfl, hc⟩ := hv; exact .inl ⟨109, b, rfl, fun _ => rfl, fun W hg => ofWords_at (hg.cell hc (by simp)) (fun _ => rfl) (fun W => wi3_at _ _ (m0 _) (m1 _) (m0 _) (m1 _) W)⟩
  | otx => exact .inr ⟨87, hv, fun _ => rfl, fun W hg => otx_at _ _ H.at_ W⟩
  | chr => exact .inr ⟨88, hv, fun _ => rfl, fun W hg => chr_at _ _ W⟩
end Go.Proofs.Ytgdpcdpkaaefbaa.Cn
