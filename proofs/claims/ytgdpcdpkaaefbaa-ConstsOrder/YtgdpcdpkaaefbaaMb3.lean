/-
  A map literal, whatever the order of its entries.
-/
import Derived.Test.YtgdpcdpkaaefbaaMb2
namespace Go.Proofs.Ytgdpcdpkaaefbaa.Mb
open Go.RowKit Go.Maps Go.Proofs.Ytgdpcdpkaaefbaa.Tx Go.Proofs.Ytgdpcdpkaaefbaa.Mp Go.Proofs.Ytgdpcdpkaaefbaa.Tr
set_option linter.unusedVariables false
set_option linter.unusedSimpArgs false

section
variable {P : Program} {K T El N : Nat} {ops : Array Oper} {w0 : World} {Φ : Nat → Value → World → Prop} {a0 : Act} {Q : Exit → Act → World → Prop}
theorem unl_zero {listed : Array Bool} (h : unl listed = 0) (j : Nat) : ¬ listed.getD j true = false := fun hj => by have := unl_set hj; omega
theorem ready_all (hc : chkM ops T N = true) {listed : Array Bool} (hs : listed.size = ops.size) (hr : Region.ready .any ops listed = []) : ∀ i, i < ops.size → listed.getD i false = true := by
  intro i
  induction i using Nat.strongRecOn with
  | ind i ih =>
    intro hi
    cases hv : listed.getD i true with
    | true => simpa [Array.getD, hs, hi] using hv
    | false =>
      exfalso
      have ho : ops[i]? = some ops[i] := Array.getElem?_eq_getElem hi
      have : i ∈ Region.ready .any ops listed := mem_ready.2 ⟨hv, ops[i], ho, fun e he _ => ih e.on (chk_lt hc ho e he) (Nat.lt_trans (chk_lt hc ho e he) hi)⟩
      rw [hr] at this
      cases this
theorem wanted_of {o : Oper} (h : o.guard.isNone = true) (y : Nat → Option Bool) : Region.wanted o y = true := by
  unfold Region.wanted
  cases hg : o.guard with
  | none => rfl
  | some x => rw [hg] at h; cases h
theorem map_any (LK : Keyed P K) (hT : P.underlying T = some (.map K El)) (hc : chkM ops T N = true)
    (hS : ∀ d v w w', Φ d v w → w.grownBy w' none → Φ d v w') (hM : ∀ d v w w' mb l, Φ d v w → MapL P K w mb l → w.grownBy w' (some mb) → Φ d v w')
    (hv : ∀ (i : Nat) o d, ops[i]? = some o → rl o = .vl d → ∀ a w K', w0.grownBy w none → (∀ v w', w.grownBy w' none → Φ d v w' → K' (a.put (some d) v) w') → Oper.wp P o a w K' Q)
    (hk : ∀ (i : Nat) o kd v, ops[i]? = some o → rl o = .ins kd v → ∀ u w, Φ kd u w → IsK P K u)
    (hend : ∀ a w mb l, a.defers = a0.defers → a.tmps.size = N → a.tmps.getD 1 undef = .map (some mb) → w0.grownBy w none → w0.heap.size ≤ mb → MapL P K w mb l → l.length ≤ 1000 → (∀ p ∈ l, ∃ (i : Nat) (o : Oper) (kd : Nat) (v : Operand), ops[i]? = some o ∧ rl o = .ins kd v ∧ p = (a.tmps.getD kd undef, a.eval v)) → (∀ (i : Nat) o kd v, ops[i]? = some o → rl o = .ins kd v → (a.tmps.getD kd undef, a.eval v) ∈ l) → (∀ (i : Nat) o d, ops[i]? = some o → rl o = .vl d → Φ d (a.tmps.getD d undef) w) → Q .normal a w)
    (hmk : ∃ (i : Nat) (o : Oper), ops[i]? = some o ∧ rl o = .mk) (hen : ∃ (i : Nat) (o : Oper) (d : Nat), ops[i]? = some o ∧ rl o = .en d) :
    ∀ fuel listed a w l, MInv P K N ops w0 Φ a0 listed a w l → unl listed ≤ fuel → listed.size = ops.size → wpAny P .any ops Q fuel listed a w := by
  have fin : ∀ listed a w l, MInv P K N ops w0 Φ a0 listed a w l → listed.size = ops.size → Region.ready .any ops listed = [] → Q .normal a w := by
    intro listed a w l H hs hr
    have all := ready_all hc hs hr
    have al : ∀ i o, ops[i]? = some o → listed.getD i false = true := fun i o ho => all i (Array.getElem?_eq_some_iff.1 ho).1
    obtain ⟨i, o, ho, hmk⟩ := hmk
    obtain ⟨mb, m1, m2, m3⟩ := H.mm i o (al i o ho) ho hmk
    obtain ⟨j, p, d, hp, hen⟩ := hen
    have e0 := H.en0 j p d (al j p hp) hp hen
    exact hend a w mb l H.df H.sz (by rw [e0, m1]) H.gr m2 m3 (by have := H.ls; have := (chk_N hc).2; omega) (fun q hq => by
      obtain ⟨i, o, kd, v, _, h2, h3, h4⟩ := H.en q hq
      exact ⟨i, o, kd, v, h2, h3, h4⟩) (fun i o kd v ho hr => H.ex i o kd v (al i o ho) ho hr) (fun i o d ho hr => H.vs i o d (al i o ho) ho hr)
  intro fuel
  induction fuel with
  | zero =>
    intro listed a w l H hu hs
    have hr : Region.ready .any ops listed = [] := by
      rw [List.eq_nil_iff_forall_not_mem]
      intro j hj
      exact unl_zero (by omega) j (mem_ready.1 hj).1
    exact ⟨hr, fin listed a w l H hs hr⟩
  | succ fuel ih =>
    intro listed a w l H hu hs
    refine ⟨fin listed a w l H hs, fun i hr => ?_⟩
    obtain ⟨hi, o, ho, hall⟩ := mem_ready.1 hr
    have hu2 := unl_set hi
    have ck := chk_of hc ho
    have hN := (chk_N hc).1
    unfold chkO at ck
    rw [Bool.and_eq_true] at ck
    refine wpOp_step ho (fun K' hK => ?_)
    rw [if_pos (wanted_of ck.1 _)]
    have go : ∀ a' w' l', MInv P K N ops w0 Φ a0 (listed.setIfInBounds i true) a' w' l' → K' a' w' := fun a' w' l' H' => hK a' w' (ih _ a' w' l' H' (by omega) (by simpa using hs))
    cases hrl : rl o with
    | no => rw [hrl] at ck; exact absurd ck.2 (by simp)
    | mk =>
      obtain ⟨t, hop⟩ := (@rl_op o).1 hrl
      have hd := (@rl_dst o).1 hrl
      have hl : l = [] := by
        rw [List.eq_nil_iff_forall_not_mem]
        intro q hq
        obtain ⟨j, p, kd, v, hj, hp, hpr, _⟩ := H.en q hq
        have ck2 := chk_of hc hp
        unfold chkO at ck2
        rw [hpr] at ck2
        simp only [Bool.and_eq_true] at ck2
        obtain ⟨j2, p2, k1, k2, k3⟩ := dep_of ck2.2.1.1.1.2 (H.cl j p hj hp)
        have := apart_of (chk_ap hc) ho k1 hd k2
        subst this
        rcases Nat.lt_or_ge i listed.size with h' | h'
        · simp [Array.getD, h'] at hi k3; rw [hi] at k3; cases k3
        · simp [Array.getD, Nat.not_lt.2 h'] at hi
      subst hl
      refine op_val (v := .map (some w.heap.size)) (w' := w.alloc (.map #[] 0)) ?_ ?_
      · unfold execOp
        simp [hop, run_makeMap]
      · rw [hd]
        exact go _ _ [] (H.put hS hc hr ho hd _ (World.grownBy_alloc w _ none) (fun e h => by rw [hrl] at h; cases h) (fun _ => ⟨_, rfl, H.gr.size, MapL.made K w⟩) (fun e h => by rw [hrl] at h; cases h) (fun e h => by rw [hrl] at h; cases h) (by omega) (fun kd v h => by rw [hrl] at h; cases h) (fun h => absurd hrl h))
    | vl d =>
      have hd := (@rl_dst o).2.1 d hrl
      rw [hrl] at ck
      simp only [Bool.and_eq_true, decide_eq_true_eq] at ck
      refine hv i o d ho hrl a w K' H.gr (fun v w' hg hp => ?_)
      exact go _ _ l (H.put hS hc hr ho hd v hg (fun e h => by rw [hrl] at h; injection h with h; subst h; exact hp) (fun h => by rw [hrl] at h; cases h) (fun e h => by rw [hrl] at h; cases h) (fun e h => by rw [hrl] at h; cases h) ck.2.2 (fun kd v h => by rw [hrl] at h; cases h) (fun _ => by omega))
    | mv d =>
      have hd := (@rl_dst o).2.2.2.1 d hrl
      have hop := (@rl_op o).2.2.1 d hrl
      rw [hrl] at ck
      simp only [Bool.and_eq_true, decide_eq_true_eq] at ck
      refine op_val (v := a.tmps.getD 2 undef) (w' := w) ?_ ?_
      · unfold execOp
        simp [hop, Act.eval]
      · rw [hd]
        exact go _ _ l (H.put hS hc hr ho hd _ (grown_refl w none) (fun e h => by rw [hrl] at h; cases h) (fun h => by rw [hrl] at h; cases h) (fun e h => rfl) (fun e h => rfl) ck.2.1.2 (fun kd v h => by rw [hrl] at h; cases h) (fun _ => by omega))
    | en d =>
      have hd := (@rl_dst o).2.2.2.2 d hrl
      have hop := (@rl_op o).2.2.2 d hrl
      rw [hrl] at ck
      simp only [Bool.and_eq_true, decide_eq_true_eq] at ck
      obtain ⟨j2, p2, k1, k2, k3⟩ := dep_of ck.2.1.1 hall
      have hr2 : ∃ e', rl p2 = .mv e' := by
        have hf := ck.2.2
        cases hfd : ops.find? (fun o' => o'.dst == some d) with
        | none => rw [hfd] at hf; simp at hf
        | some p3 =>
          rw [hfd] at hf
          obtain ⟨h5, j3, h7⟩ := Array.find?_eq_some_iff_getElem.1 hfd
          obtain ⟨h8, h9, _⟩ := h7
          have e3 : ops[j3]? = some p3 := by rw [Array.getElem?_eq_getElem h8, h9]
          have := apart_of (chk_ap hc) k1 e3 k2 (by simpa using h5)
          subst this
          rw [k1] at e3
          injection e3 with e3
          subst e3
          cases hx : rl p2 with
          | mv e' => exact ⟨e', rfl⟩
          | mk => simp [hx] at hf
          | vl _ => simp [hx] at hf
          | ins _ _ => simp [hx] at hf
          | en _ => simp [hx] at hf
          | no => simp [hx] at hf
      obtain ⟨e', hr2⟩ := hr2
      have hd2 := (@rl_dst p2).2.2.2.1 e' hr2
      rw [k2] at hd2
      injection hd2 with hd2
      subst hd2
      have hmv := H.mv j2 p2 d k3 k1 hr2
      refine op_val (v := a.tmps.getD d undef) (w' := w) ?_ ?_
      · unfold execOp
        simp [hop, Act.eval]
      · rw [hd]
        exact go _ _ l (H.put hS hc hr ho hd _ (grown_refl w none) (fun e h => by rw [hrl] at h; cases h) (fun h => by rw [hrl] at h; cases h) (fun e h => by rw [hrl] at h; cases h) (fun e h => hmv) (by omega) (fun kd v h => by rw [hrl] at h; cases h) (fun _ => by decide))
    | ins kd v =>
      have hd := (@rl_dst o).2.2.1 kd v hrl
      obtain ⟨t, hop⟩ := (@rl_op o).2.1 kd v hrl
      rw [hrl] at ck
      simp only [Bool.and_eq_true, decide_eq_true_eq] at ck
      rw [hop] at ck
      have ht : t = T := by simpa using ck.2.1.1.1.1
      subst ht
      obtain ⟨j1, p1, a1, a2, a3⟩ := dep_of ck.2.1.1.1.2 hall
      obtain ⟨j2, p2, b1, b2, b3⟩ := depV_of ck.2.1.1.2 hall
      have hm1 : rl p1 = .mk := by
        have ck2 := chk_of hc a1
        unfold chkO at ck2
        cases hx : rl p1 with
        | mk => rfl
        | vl e => rw [hx] at ck2; have := (@rl_dst p1).2.1 e hx; rw [a2] at this; injection this with this; subst this; simp at ck2
        | ins _ _ => have := (@rl_dst p1).2.2.1 _ _ hx; rw [a2] at this; cases this
        | mv e => rw [hx] at ck2; have := (@rl_dst p1).2.2.2.1 e hx; rw [a2] at this; injection this with this; subst this; simp at ck2
        | en e => have := (@rl_dst p1).2.2.2.2 e hx; rw [a2] at this; cases this
        | no => rw [hx] at ck2; simp at ck2
      obtain ⟨mb, m1, m2, m3⟩ := H.mm j1 p1 a3 a1 hm1
      have hph := H.vs j2 p2 kd b3 b1 b2
      have hln : l.length < 1000000 := by have := H.ls; have := (chk_N hc).2; omega
      obtain ⟨w', hrun, hml, hg⟩ := m3.update LK hT hln (hk i o kd v ho hrl _ _ hph) (val := a.eval v)
      refine op_skip (w' := w') ?_ ?_
      · have e1 : a.eval (.tmp 2) = .map (some mb) := m1
        have e2 : a.eval (.tmp kd) = a.tmps.getD kd undef := rfl
        unfold execOp
        simp only [hop]
        rw [e1, e2]
        rw [Array.getD_eq_getD_getElem?] at hrun
        simp [hrun]
      · rw [hd]
        refine go _ _ (l ++ [(a.tmps.getD kd undef, a.eval v)]) ⟨H.sz, H.df, ?_, grown_then H.gr hg (fun y e => by cases e; exact .inr m2), H.cl' hr, ?_, ?_, ?_, ?_, ?_, ?_⟩
        · rw [List.length_append]; simp only [List.length_cons, List.length_nil]; have := H.ls; omega
        · intro j p e hj hp hpr
          rcases upd_listed hi hj with rfl | hj
          · rw [ho] at hp; injection hp with hp; subst hp; rw [hrl] at hpr; cases hpr
          · exact hM _ _ _ _ _ _ (H.vs j p e hj hp hpr) m3 hg
        · intro j p hj hp hpr
          rcases upd_listed hi hj with rfl | hj
          · rw [ho] at hp; injection hp with hp; subst hp; rw [hrl] at hpr; cases hpr
          · exact ⟨mb, m1, m2, hml⟩
        · intro q hq
          rcases List.mem_append.1 hq with hq | hq
          · obtain ⟨j, p, kd', v', hj, hp, hpr, rfl⟩ := H.en q hq
            exact ⟨j, p, kd', v', upd_old hi hj, hp, hpr, rfl⟩
          · rw [List.mem_singleton] at hq
            subst hq
            exact ⟨i, o, kd, v, upd_self hi, ho, hrl, rfl⟩
        · intro j p kd' v' hj hp hpr
          rcases upd_listed hi hj with rfl | hj
          · rw [ho] at hp; injection hp with hp; subst hp; rw [hrl] at hpr; injection hpr with h1 h2; subst h1; subst h2
            exact List.mem_append.2 (.inr (List.mem_singleton.2 rfl))
          · exact List.mem_append.2 (.inl (H.ex j p kd' v' hj hp hpr))
        · intro j p e hj hp hpr
          rcases upd_listed hi hj with rfl | hj
          · rw [ho] at hp; injection hp with hp; subst hp; rw [hrl] at hpr; cases hpr
          · exact H.mv j p e hj hp hpr
        · intro j p e hj hp hpr
          rcases upd_listed hi hj with rfl | hj
          · rw [ho] at hp; injection hp with hp; subst hp; rw [hrl] at hpr; cases hpr
          · exact H.en0 j p e hj hp hpr
end
end Go.Proofs.Ytgdpcdpkaaefbaa.Mb
