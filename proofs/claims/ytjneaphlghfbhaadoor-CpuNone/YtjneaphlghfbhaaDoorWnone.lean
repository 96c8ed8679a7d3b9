/-
  The walk of CpuNone.
-/
import Derived.Test.YtjneaphlghfbhaaDoorCwak
namespace Go.Proofs.YtjneaphlghfbhaaDoor.Cpu
open Go.RowKit Go.Proofs.YtjneaphlghfbhaaDoor.Bits Go.Proofs.YtjneaphlghfbhaaDoor.Gw Go.Proofs.YtjneaphlghfbhaaDoor.Risc Go.Proofs.YtjneaphlghfbhaaDoor.Alu Go.Proofs.YtjneaphlghfbhaaDoor.Mem
set_option linter.unusedVariables false
theorem oc_by {W w' : World} {X i : Nat} {v : Value} (h : W.cell? ⟨X, i, none⟩ = some v) (g : W.grownBy w' none) : w'.cell? ⟨X, i, none⟩ = some v := g.cell h (by simp)
set_option maxHeartbeats 4000000 in
set_option maxRecDepth 100000 in
theorem none_walk (w : World) (L : Laid w) (a0 : Int) (s1 : ByteArray) :
    Calls Tryd.prog 4 #[.int .i64 a0, .string s1] w fun e w' => e = .returned (.bool true) ∧ w.grownBy w' none := by
  have HL := hd L
  obtain ⟨S, hS⟩ : ∃ S, it ⟨#[]⟩ 1 (Ms.init [] 0) = S := ⟨_, rfl⟩
  have h1 : S.en = 5 := by rw [← hS]; kernel_rfl
  have h2 : ct ⟨#[]⟩ 1 (Ms.init [] 0) = 1 := by kernel_rfl
  have HS := hd hS
  have H1 := hd h1
  have H2 := hd h2
  clear L hS h1 h2
  go_enter Tryd.func4, Tryd.ntmps4
  go_upto_region 3 with (go_at_call 10; refine (run_no _ _ _ (.inl rfl)).mono ?_; rintro e w1 ⟨rfl, hg⟩; have HG1 := hd (grown_g hg none); clear hg)
  have x0 : (w1.alloc (Obj.cells #[Value.int IntKind.i64 0, Value.int IntKind.i64 0, Value.string { data := #[] }, Value.int IntKind.i64 0, Value.int IntKind.i64 0] 31)).cell? ⟨w1.heap.size, 0, none⟩ = some (.int .i64 0) := by simp
  have HG2 := hd (grown_trans HG1.out (World.grownBy_alloc w1 (Obj.cells #[Value.int IntKind.i64 0, Value.int IntKind.i64 0, Value.string { data := #[] }, Value.int IntKind.i64 0, Value.int IntKind.i64 0] 31) none))
  generalize (w1.alloc (Obj.cells #[Value.int IntKind.i64 0, Value.int IntKind.i64 0, Value.string { data := #[] }, Value.int IntKind.i64 0, Value.int IntKind.i64 0] 31)) = W at x0 HG2 ⊢
  generalize w1.heap.size = X at x0 ⊢
  have xl : X < W.heap.size := World.block_lt_of_cell? W ⟨X, 0, none⟩ x0
  go_upto_region 5 with (first
    | (go_at_call 9; refine (cnew_ok (xs := []) (inp := ⟨#[]⟩) (laid_chg HL.out (F := []) (Chg.still HG2.out) (by simp)) (Src.nil _) inR_nil rfl (by decide) (by decide) (by decide) (by decide)).mono ?_; rintro e w2 ⟨a, hb, b, rfl, hm, hg, ha, hh, hb'⟩; replace x0 := oc_by x0 hg; have HM := hd hm; have HGb := hd (And.intro hg (And.intro ha hb')); have NX : Hid (X ∉ fp a b (.slice none 0 0)) := hd (fun e => by have := fp_ge ha hb' (fun k hk => (nil_own hk).elim) X e; omega); clear hm hg ha hh hb')
    | (go_at_call 10; refine (run_at HM.out 1 1 rfl (by decide) HS.out H2.out).mono ?_; rw [H1.out]; rintro e w3 ⟨o1, rfl, hm, hc, hn⟩; replace x0 := oc_kept x0 hc NX.out; have HC := hd hc; clear hm hc hn))
  have xl3 : X < w3.heap.size := World.block_lt_of_cell? w3 ⟨X, 0, none⟩ x0
  obtain ⟨hg2, ha, hb'⟩ := HGb.out
  have s2 := HG2.out.size
  have HK := hd (far (grown_trans HG2.out hg2) HC.out (fp_ge (by omega) (by omega) (fun k hk => (nil_own hk).elim)))
  clear hg2 ha hb' s2
  go_wp2_with (first
    | (go_at_call 13; refine (reg_nil _ _).mono ?_; rintro e w' ⟨rfl, rfl⟩)
    | (go_at_call 11; refine (pc_nil _).mono ?_; rintro e w' ⟨rfl, rfl⟩)
    | (go_at_call 14; refine (mem_nil _).mono ?_; rintro e w' ⟨rfl, rfl⟩)
    | (go_at_call 8; refine (wakes_any _ (laid_chg HL.out (F := []) (Chg.still (grown_trans HK.out (World.grownBy_alloc _ _ none))) (by simp))).mono ?_; rintro e w5 ⟨rfl, hg⟩; have HW := hd hg; clear hg))
  go_ret
  exact ⟨rfl, grown_trans (grown_trans HK.out (World.grownBy_alloc _ _ none)) HW.out⟩
end Go.Proofs.YtjneaphlghfbhaaDoor.Cpu
