/-
  A map literal, whose entries may come up in any order: whatever the order, all of them stand in the map behind it.
-/
import Derived.Test.YtgdpcdpkaaefbaaMb1
namespace Go.Proofs.Ytgdpcdpkaaefbaa.Mb
open Go.RowKit Go.Maps Go.Proofs.Ytgdpcdpkaaefbaa.Tx Go.Proofs.Ytgdpcdpkaaefbaa.Mp Go.Proofs.Ytgdpcdpkaaefbaa.Tr
set_option linter.unusedVariables false
set_option linter.unusedSimpArgs false

section
variable {P : Program} {K T El N : Nat} {ops : Array Oper} {w0 : World} {Φ : Nat → Value → World → Prop} {a0 : Act} {Q : Exit → Act → World → Prop}
/- What is evaluated stays, where a slot is written that nobody has written yet. -/
theorem MInv.stay (hc : chkM ops T N = true) {listed : Array Bool} {a : Act} {w : World} {l : List (Value × Value)} (H : MInv P K N ops w0 Φ a0 listed a w l) {i : Nat} {o : Oper} (ho : ops[i]? = some o) (hi : listed.getD i true = false) {d : Nat} (hd : o.dst = some d) (v : Value) {e : Nat} {j : Nat} {p : Oper} (hp : ops[j]? = some p) (hpe : p.dst = some e) (hj : listed.getD j false = true) : (a.put (some d) v).tmps.getD e undef = a.tmps.getD e undef := by
  refine put_ne a v (fun he => ?_)
  subst he
  have hap : apartD ops = true := chk_ap hc
  have := apart_of hap ho hp hd hpe
  subst this
  rcases Nat.lt_or_ge i listed.size with h' | h'
  · simp [Array.getD, h'] at hi hj; rw [hi] at hj; cases hj
  · simp [Array.getD, Nat.not_lt.2 h'] at hi
theorem MInv.ins (hc : chkM ops T N = true) {listed : Array Bool} {a : Act} {w : World} {l : List (Value × Value)} (H : MInv P K N ops w0 Φ a0 listed a w l) {i : Nat} {o : Oper} (ho : ops[i]? = some o) (hi : listed.getD i true = false) {d : Nat} (hd : o.dst = some d) (u : Value) {j : Nat} {p : Oper} {kd : Nat} {v : Operand} (hj : listed.getD j false = true) (hp : ops[j]? = some p) (hr : rl p = .ins kd v) : ((a.put (some d) u).tmps.getD kd undef, (a.put (some d) u).eval v) = (a.tmps.getD kd undef, a.eval v) := by
  have hk := chk_of hc hp
  unfold chkO at hk
  rw [hr] at hk
  simp only [Bool.and_eq_true] at hk
  obtain ⟨_, ⟨⟨⟨_, h1⟩, h2⟩, _⟩, h3⟩ := hk
  obtain ⟨j2, p2, k1, k2, k3⟩ := depV_of h2 (H.cl j p hj hp)
  rw [H.stay hc ho hi hd u k1 ((@rl_dst p2).2.1 _ k2) k3]
  congr 1
  cases v with
  | tmp e =>
    obtain ⟨j3, p3, m1, m2, m3⟩ := depV_of h3 (H.cl j p hj hp)
    exact H.stay hc ho hi hd u m1 ((@rl_dst p3).2.1 _ m2) m3
  | const c => rfl
  | global g => rfl
  | func f => rfl
theorem upd_listed {listed : Array Bool} {i j : Nat} (hi : listed.getD i true = false) (h : (listed.setIfInBounds i true).getD j false = true) : j = i ∨ listed.getD j false = true := by
  rw [set_getD hi] at h
  by_cases e : j = i
  · exact .inl e
  · rw [if_neg e] at h; exact .inr h
theorem upd_self {listed : Array Bool} {i : Nat} (hi : listed.getD i true = false) : (listed.setIfInBounds i true).getD i false = true := by rw [set_getD hi, if_pos rfl]
theorem upd_old {listed : Array Bool} {i j : Nat} (hi : listed.getD i true = false) (h : listed.getD j false = true) : (listed.setIfInBounds i true).getD j false = true := by rw [set_getD hi]; split <;> simp_all
theorem MInv.cl' {listed : Array Bool} {a : Act} {w : World} {l : List (Value × Value)} (H : MInv P K N ops w0 Φ a0 listed a w l) {i : Nat} (hr : i ∈ Region.ready .any ops listed) : ∀ j o, (listed.setIfInBounds i true).getD j false = true → ops[j]? = some o → ∀ e ∈ o.after, Region.binds .any e = true → (listed.setIfInBounds i true).getD e.on false = true := by
  obtain ⟨hi, o, ho, hall⟩ := mem_ready.1 hr
  intro j p hj hp e he hb
  rcases upd_listed hi hj with rfl | hj
  · rw [ho] at hp
    injection hp with hp
    subst hp
    exact upd_old hi (hall e he hb)
  · exact upd_old hi (H.cl j p hj hp e he hb)
/- A slot is written, and the world grows. -/
theorem MInv.put (hS : ∀ d v w w', Φ d v w → w.grownBy w' none → Φ d v w') (hc : chkM ops T N = true) {listed : Array Bool} {a : Act} {w w' : World} {l : List (Value × Value)} (H : MInv P K N ops w0 Φ a0 listed a w l) {i : Nat} {o : Oper} (hr : i ∈ Region.ready .any ops listed) (ho : ops[i]? = some o) {d : Nat} (hd : o.dst = some d) (u : Value) (hg : w.grownBy w' none)
    (h1 : ∀ e, rl o = .vl e → Φ e u w') (h2 : rl o = .mk → ∃ mb, u = .map (some mb) ∧ w0.heap.size ≤ mb ∧ MapL P K w' mb l) (h3 : ∀ e, rl o = .mv e → u = a.tmps.getD 2 undef) (h4 : ∀ e, rl o = .en e → u = a.tmps.getD 2 undef) (hdN : d < N) (hins : ∀ kd v, rl o ≠ .ins kd v) (hmk : rl o ≠ .mk → d ≠ 2) :
    MInv P K N ops w0 Φ a0 (listed.setIfInBounds i true) (a.put (some d) u) w' l := by
  obtain ⟨hi, o', ho', hall⟩ := mem_ready.1 hr
  rw [ho] at ho'
  injection ho' with ho'
  subst ho'
  have hdst := @rl_dst o
  have pe : (a.put (some d) u).tmps.getD d undef = u := put_eq a u (by rw [H.sz]; exact hdN)
  have st := fun {e j p} (hp : ops[j]? = some p) (hpe : p.dst = some e) hj => H.stay hc ho hi hd u (e := e) (j := j) (p := p) hp hpe hj
  refine ⟨by rw [put_sz]; exact H.sz, by rw [put_df]; exact H.df, by have := unl_set hi; have := H.ls; omega, grown_then H.gr hg (fun y e => by cases e), H.cl' hr, ?_, ?_, ?_, ?_, ?_, ?_⟩
  · intro j p e hj hp hrl
    rcases upd_listed hi hj with rfl | hj
    · rw [ho] at hp
      injection hp with hp
      subst hp
      have := hdst.2.1 e hrl
      rw [hd] at this
      injection this with this
      subst this
      rw [pe]
      exact h1 d hrl
    · rw [st hp ((@rl_dst p).2.1 e hrl) hj]
      exact hS _ _ _ _ (H.vs j p e hj hp hrl) hg
  · intro j p hj hp hrl
    rcases upd_listed hi hj with rfl | hj
    · rw [ho] at hp
      injection hp with hp
      subst hp
      have := hdst.1 hrl
      rw [hd] at this
      injection this with this
      subst this
      rw [pe]
      exact h2 hrl
    · obtain ⟨mb, m1, m2, m3⟩ := H.mm j p hj hp hrl
      exact ⟨mb, by rw [st hp ((@rl_dst p).1 hrl) hj]; exact m1, m2, m3.kept hg (by simp)⟩
  · intro q hq
    obtain ⟨j, p, kd, v, hj, hp, hrl, rfl⟩ := H.en q hq
    exact ⟨j, p, kd, v, upd_old hi hj, hp, hrl, (H.ins hc ho hi hd u hj hp hrl).symm⟩
  · intro j p kd v hj hp hrl
    rcases upd_listed hi hj with rfl | hj
    · rw [ho] at hp
      injection hp with hp
      subst hp
      exact absurd hrl (hins kd v)
    · rw [H.ins hc ho hi hd u hj hp hrl]
      exact H.ex j p kd v hj hp hrl
  · intro j p e hj hp hrl
    rcases upd_listed hi hj with rfl | hj
    · rw [ho] at hp
      injection hp with hp
      subst hp
      have := hdst.2.2.2.1 e hrl
      rw [hd] at this
      injection this with this
      subst this
      rw [pe, put_ne a u (fun x => hmk (by rw [hrl]; simp) x.symm)]
      exact h3 d hrl
    · have hk := chk_of hc hp
      unfold chkO at hk
      rw [hrl] at hk
      simp only [Bool.and_eq_true] at hk
      obtain ⟨j2, p2, k1, k2, k3⟩ := dep_of hk.2.2 (H.cl j p hj hp)
      rw [st hp ((@rl_dst p).2.2.2.1 e hrl) hj, st k1 k2 k3]
      exact H.mv j p e hj hp hrl
  · intro j p e hj hp hrl
    rcases upd_listed hi hj with rfl | hj
    · rw [ho] at hp
      injection hp with hp
      subst hp
      have := hdst.2.2.2.2 e hrl
      rw [hd] at this
      injection this with this
      subst this
      rw [pe, put_ne a u (by decide)]
      exact h4 e hrl
    · have hk := chk_of hc hp
      unfold chkO at hk
      rw [hrl] at hk
      simp only [Bool.and_eq_true] at hk
      obtain ⟨j2, p2, k1, k2, k3⟩ := dep_of hk.2.1.1 (H.cl j p hj hp)
      -- the move is listed, so is what it waits for
      have hr2 : ∃ e', rl p2 = .mv e' := by
        have hf := hk.2.2
        cases hfd : ops.find? (fun o' => o'.dst == some e) with
        | none => rw [hfd] at hf; simp at hf
        | some p3 =>
          rw [hfd] at hf
          obtain ⟨h5, j3, h7⟩ := Array.find?_eq_some_iff_getElem.1 hfd
          obtain ⟨h8, h9, _⟩ := h7
          have e3 : ops[j3]? = some p3 := by rw [Array.getElem?_eq_getElem h8, h9]
          have hap : apartD ops = true := chk_ap hc
          have := apart_of hap k1 e3 k2 (by simpa using h5)
          subst this
          rw [k1] at e3
          injection e3 with e3
          subst e3
          cases hx : rl p2 with
          | mv e' => exact ⟨e', rfl⟩
          | mk => simp [hx] at hf
          | vl _ => simp [hx] at hf
          | ins _ _ => simp [hx] at hf
          | en _ => simp [hx] at hf
          | no => simp [hx] at hf
      obtain ⟨e', hr2⟩ := hr2
      have hk2 := chk_of hc k1
      unfold chkO at hk2
      rw [hr2] at hk2
      simp only [Bool.and_eq_true] at hk2
      obtain ⟨j4, p4, q1, q2, q3⟩ := dep_of hk2.2.2 (H.cl j2 p2 k3 k1)
      rw [st hp ((@rl_dst p).2.2.2.2 e hrl) hj, st q1 q2 q3]
      exact H.en0 j p e hj hp hrl
end
end Go.Proofs.Ytgdpcdpkaaefbaa.Mb
