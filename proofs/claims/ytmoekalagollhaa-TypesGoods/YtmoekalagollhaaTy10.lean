/-
  Package types: no type stands in itself, the whole table.
-/
import Derived.Test.YtmoekalagollhaaTy9
namespace Go.Proofs.Ytmoekalagollhaa.Ty
open Go.RowKit hiding Hid
open Go.Proofs.Ytmoekalagollhaa.Tx Go.Proofs.Ytmoekalagollhaa.Lx Go.Proofs.Ytmoekalagollhaa.Tr
set_option linter.unusedVariables false
set_option linter.unusedSimpArgs false
set_option maxRecDepth 100000

/- A call that turns a variable of the caller's own. -/
theorem own_call {w w1 w2 : World} {b : Nat} {cs cs' : List Value} {t : TypeId} (H : Cx w (fun _ => False) none [⟨b, cs, t⟩] [] [] w1) (hg : w1.grownBy w2 (some b)) (hb : w2.heap[b]? = some (.cells cs'.toArray t (0, 0))) : Cx w (fun _ => False) none [⟨b, cs', t⟩] [] [] w2 :=
  ⟨grown_then H.grown hg (fun y e => by cases e; exact .inr ((H.old _ (.head _)).resolve_right (by simp))), fun p hp => by rw [List.mem_singleton] at hp; subst hp; exact hb, fun p hp => by rw [List.mem_singleton] at hp; subst hp; exact H.old ⟨b, cs, t⟩ (.head _), List.pairwise_singleton _ _, by simp, by simp, List.Pairwise.nil, by simp, by simp⟩
theorem cov_all (M : List Int) : Cov (List.range 256) M := fun i hi _ => List.mem_range.2 hi
set_option maxHeartbeats 8000000 in
theorem none_at {w : World} {o : Option Addr} {T : List Tt} (cp : Nat) (H : Tab w o T) (hin : InP T) (hT : T.length ≤ 256) : Calls Try.prog 45 #[.slice o T.length cp] w fun e w' => ∃ c, e = .returned (.bool c) ∧ w.grownBy w' none ∧ (c = true ↔ ∃ r, RankOf T r) := by
  have HE := hide (fun b => ends_all (w0 := w) (o := o) (cp := cp) (b := b) hin hT 256 (List.range 256) (by rw [List.length_range]; exact Nat.le_refl _))
  have HT := hide H
  have HC := hide (Cx.start w (fun _ => False))
  have k0 : (T.length : Int) ≤ 256 := by omega
  clear H hin
  go_enter Try.func45, Try.ntmps45
  go_wp2_with (first | (refine at_alloc 90 rfl ?_; refine wl_alloc rfl 90 rfl _ zS HC.out ?_; intro b w' hn hc; (replace HC := hide hc; clear hc)) | (refine at_store 90 rfl ?_; refine wl_store (us := srC o T.length cp (List.replicate 256 0)) rfl 90 _ _ rfl rfl rfl tyS.sz rfl HC.out (by repeat (first | exact List.Mem.head _ | apply List.Mem.tail)) (by exact PutS.all _ _ rfl) (by repeat (first | exact Upd.here _ _ _ | apply Upd.there)) ?_; intro w' hc; (replace HC := hide hc; clear hc)))
  go_loopw [9] (fun iv W => ∃ (i : Nat) (M : List Int), i ≤ T.length ∧ iv = .int .i64 i ∧ Hid (Dn T M ∧ Vm M ∧ (∀ k, mk M k ≠ 1) ∧ (∀ k, k < i → mk M k = 2) ∧ M.length = 256) ∧ Hid (Cx w (fun _ => False) none [⟨b, srC o T.length cp M, 90⟩] [] [] W)) (fun iv _ => T.length - (intOf iv).toNat)
  case atStart => exact ⟨0, _, by omega, rfl, hide ⟨⟨fun _ => 0, (fun i x hx e => by rw [mk_zero] at e; cases e)⟩, fun i => .inl (mk_zero i), (fun k e => by rw [mk_zero] at e; cases e), (fun k hk => by omega), List.length_replicate⟩, HC⟩
  case round =>
    clear HC
    obtain ⟨i, M, hi, rfl, HA, HC⟩ := hrel
    by_cases hlt : i < T.length
    · have j1 : (i : Int) < T.length := by omega
      have HJ := hide hlt
      go_wp2_with (go_at_call 70; refine (HE.out b M _ i ⟨HT.out, HC.out.grown, (HC.out.old _ (.head _)).resolve_right (by simp), HC.out.loc ⟨b, srC o T.length cp M, 90⟩ (by repeat (first | exact List.Mem.head _ | apply List.Mem.tail)), HA.out.2.2.2.2⟩ HJ.out HA.out.2.1 HA.out.1 (cov_all M)).mono ?_; rintro e w2 ⟨c, M', rfl, hg, hs, hy, hn⟩; have HG := hide hg; have HZ := hide hs; have HC1 := hide (own_call HC.out hg hs.blk); cases c <;> (first | (have HQ := hide (hy rfl); clear hy hn hg hs) | (have HN := hide (hn rfl); clear hy hn hg hs)))
      · go_ret
        refine ⟨false, rfl, HC1.out.grown, fun e => (by cases e), fun ⟨r, hr⟩ => (HN.out r hr (fun k e => absurd e (HA.out.2.2.1 k))).elim⟩
      · refine ⟨⟨i + 1, M', by omega, by go_num, hide ⟨HQ.out.1.dn, HQ.out.1.vm, fun k e => HA.out.2.2.1 k ((HQ.out.1.le.one k).2 e), fun k hk => ?_, HZ.out.len⟩, hide ?_⟩, by simp [intOf]; omega⟩
        · by_cases e : k = i
          · rw [e]; exact HQ.out.2
          · exact HQ.out.1.le.two k (HA.out.2.2.2.1 k (by omega))
        · exact HC1.out
    · obtain rfl : i = T.length := by omega
      go_wp2
      go_ret
      exact ⟨true, rfl, HC.out.grown, fun _ => rank_of_dn HA.out.1 HA.out.2.2.2.1, fun _ => rfl⟩
end Go.Proofs.Ytmoekalagollhaa.Ty
