/-
  The seven basic types: the document's own (package spinetref13).
-/
import Derived.Test.YthmldhppmpbadaaY15
namespace Go.Proofs.Ythmldhppmpbadaa.Ty
open Go.RowKit hiding Hid
open Go.Maps Go.Proofs.Ythmldhppmpbadaa.Tx Go.Proofs.Ythmldhppmpbadaa.Lx Go.Proofs.Ythmldhppmpbadaa.Tr Go.Proofs.Ythmldhppmpbadaa.Mp
set_option linter.unusedVariables false
set_option linter.unusedSimpArgs false
set_option maxRecDepth 100000

def bT (i : Nat) : Tt := ⟨i, [], [], 0, 0, 0, [], [], 0, 0⟩
def bL (i : Nat) : La := ⟨bT i, none, 0, none, 0⟩
def basT : List Tt := (List.range 7).map bT
theorem basT_len : basT.length = 7 := by simp [basT]
theorem row_clsK {w : World} {b0 k : Nat} {e : TypeId} {v : Value} {n : Nat} {xs : List Value} (h : w.ownsRow b0 e k v n xs) : ∃ o c, v = .slice o n c ∧ n ≤ c ∧ Cls w o xs := by
  have hc := fun g hg => h.cells (g := g) hg
  rcases h.2 with ⟨rfl, rfl⟩ | ⟨g, cap, cur, rfl, hbg, hgg, hcap, _⟩
  · have hl : xs = [] := List.eq_nil_of_length_eq_zero (by simpa using h.1)
    exact ⟨none, 0, rfl, Nat.le_refl _, fun j u hu => by rw [hl] at hu; simp at hu⟩
  · exact ⟨_, cap, rfl, hcap, fun j u hu => ⟨_, rfl, hc g rfl j u hu⟩⟩
theorem sm_b (i : Nat) : Sm (bT i) := ⟨Nat.zero_le _, Nat.zero_le _, Nat.zero_le _, Nat.zero_le _, fun f hf => by cases hf⟩
theorem tab_b {w : World} {o : Option Addr} (h : Cls w o (((List.range 7).map bL).flatMap laC)) : Tab w o basT := by
  refine ⟨by rw [basT_len]; decide, (List.range 7).map bL, by rw [List.map_map]; rfl, h, fun a ha => ?_⟩
  obtain ⟨i, _, rfl⟩ := List.mem_map.1 ha
  exact ⟨fun j u hu => by simp [bL, bT] at hu, fun j u hu => by simp [bL, bT] at hu, sm_b i⟩
def BaO (w : World) (e : Ending) (w' : World) : Prop := ∃ o cp, e = .returned (.slice o 7 cp) ∧ 7 ≤ cp ∧ w.grownBy w' none ∧ Tab w' o basT
theorem infoT : (Try.prog.info? 48).map (fun i => (i.zero.map (·.cells.size), i.size, i.bytes)) = some (some 10, 10, 128) := by kernel_rfl
theorem range_one (i : Nat) : ((List.range (i + 1)).map bL).flatMap laC = ((List.range i).map bL).flatMap laC ++ laC (bL i) := by
  rw [List.range_succ, List.map_append, List.flatMap_append]
  simp
set_option maxHeartbeats 8000000 in
theorem rbasic_at (w : World) : Calls Try.prog 49 #[] w (BaO w) := by
  have HC := hide ((Cx.start w (fun _ => False)).row_nil 48 10)
  go_enter Try.func49, Try.ntmps49
  go_wp2
  go_loopw [1, 2] (fun lv iv W => ∃ (i : Nat) (oc : Option Addr) (cc : Nat), i ≤ 7 ∧ iv = .int .i64 i ∧ lv = .slice oc i cc ∧ Hid (Cx w (fun _ => False) none [] [⟨.slice oc i cc, 48, 10, i, ((List.range i).map bL).flatMap laC⟩] [] W)) (fun _ iv _ => 7 - (intOf iv).toNat)
  case atStart => exact ⟨0, none, 0, by omega, rfl, rfl, HC⟩
  case round =>
    clear HC
    obtain ⟨i, oc, cc, hi, rfl, rfl, HC⟩ := hrel
    by_cases hlt : i < 7
    · have q1 : (i : Int) < 7 := by omega
      go_wp2_with (first | (refine at_bs 24 rfl ?_; refine wl_bl rfl 24 _ _ rfl 48 (laC (bL i)) HC.out (by kernel_rfl) ?_; intro b w' hn hc; (replace HC := hide hc; clear hc)) | (refine wl_ap rfl _ _ rfl Try.underlying24 infoT (by decide) (by decide) rfl rfl HC.out rfl rfl (by omega) ?_; intro d9 cp9 w' hc; (replace HC := hide hc; clear hc)))
      refine ⟨⟨i + 1, _, _, by omega, by go_num, rfl, hide ?_⟩, by simp [intOf]; omega⟩
      rw [range_one]
      exact HC.out
    · obtain rfl : i = 7 := by omega
      go_wp2
      go_ret
      obtain ⟨o9, c9, e9, h9, hc9⟩ := row_clsK (HC.out.row _ (.head _))
      cases e9
      exact ⟨_, _, rfl, h9, HC.out.grown, tab_b hc9⟩
end Go.Proofs.Ythmldhppmpbadaa.Ty
