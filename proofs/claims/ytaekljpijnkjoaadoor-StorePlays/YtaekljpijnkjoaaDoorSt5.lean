/-
  Package store's Get, Delete and Put, of a store that was made.
-/
import Derived.Test.YtaekljpijnkjoaaDoorSt4
namespace Go.Proofs.YtaekljpijnkjoaaDoor.St
open Go.RowKit Go.Maps Go.Proofs.YtaekljpijnkjoaaDoor.Tx
set_option linter.unusedVariables false
set_option linter.unusedSimpArgs false
set_option maxRecDepth 100000

def getL (n : List UInt8) (l : List Pr) : List UInt8 × Bool := match l.find? (fun p => p.1 == n) with
  | some p => (p.2, true)
  | none => ([], false)
def hasL (n : List UInt8) (l : List Pr) : Bool := (getL n l).2
theorem getL_no {n : List UInt8} {l : List Pr} (h : ∀ p ∈ l, p.1 ≠ n) : getL n l = ([], false) := by
  have : l.find? (fun p => p.1 == n) = none := List.find?_eq_none.2 (fun p hp => by simpa using h p hp)
  rw [getL, this]
theorem getL_is {n t : List UInt8} {l : List Pr} (hd : Nd l) (h : (n, t) ∈ l) : getL n l = (t, true) := by
  unfold getL
  cases hf : l.find? (fun p => p.1 == n) with
  | none =>
    have := List.find?_eq_none.1 hf (n, t) h
    simp at this
  | some p =>
    have h1 : p.1 = n := by simpa using List.find?_some hf
    have h2 := List.mem_of_find?_eq_some hf
    have : ∀ (l : List Pr), Nd l → ∀ q ∈ l, ∀ r ∈ l, q.1 = r.1 → q = r := by
      intro l
      induction l with
      | nil => intro _ q hq; cases hq
      | cons x l ih =>
        intro hn q hq r hr e
        unfold Nd at hn
        rw [List.map_cons, List.nodup_cons] at hn
        rcases List.mem_cons.1 hq with rfl | hq1 <;> rcases List.mem_cons.1 hr with rfl | hr1
        · rfl
        · exact absurd (List.mem_map.2 ⟨r, hr1, e.symm⟩) hn.1
        · exact absurd (List.mem_map.2 ⟨q, hq1, e⟩) hn.1
        · exact ih hn.2 q hq1 r hr1 e
    have e := this l hd p h2 (n, t) h h1
    rw [e]
theorem getL_none {n : List UInt8} {l : List Pr} (h : hasL n l = false) : ∀ p ∈ l, p.1 ≠ n := by
  intro p hp e
  unfold hasL getL at h
  cases hf : l.find? (fun p => p.1 == n) with
  | none => have := List.find?_eq_none.1 hf p hp; simp [e] at this
  | some p => rw [hf] at h; cases h
theorem getL_bad {n : List UInt8} {l : List Pr} (hn : ∀ p ∈ l, nmB p.1 = true) (h : nmB n = false) : getL n l = ([], false) :=
  getL_no fun p hp e => by rw [← e, hn p hp] at h; cases h
theorem FM.look2 {w : World} {b : Nat} {l : List Pr} (h : FM w b l) {n : List UInt8} (hn : nmB n = true) :
    (Instr.lookup 48 (.map (some b)) (.agg (padV n)) true).run Tryd.prog w = .ok (.tuple #[fileV (getL n l).1, .bool (hasL n l)]) w := by
  unfold hasL
  rcases h.look hn with ⟨h1, h2⟩ | ⟨t, h1, h2⟩
  · rw [getL_no h1]; exact h2
  · rw [getL_is h.nd h1]; exact h2
def kkV (n : List UInt8) : List UInt8 := if nmB n = true then n else []
theorem kk_len (n : List UInt8) : (kkV n).length ≤ 24 := by
  unfold kkV
  split
  · exact nm_len (by assumption)
  · simp
theorem find_any {w : World} {h b : Nat} {l : List Pr} (s : Sto w h b l) (n : List UInt8) (hm : n.length ≤ maxLen) :
    Calls Tryd.prog 25 #[.pointer (some ⟨h, 0, none⟩), .string (bs n)] w fun e w' => e = .returned (.tuple #[.agg (padV (kkV n)), .agg #[.string (bs (getL n l).1)], .bool (hasL n l)]) ∧ w.grownBy w' none := by
  cases hn : nmB n
  · have := find_no hn hm w (.pointer (some ⟨h, 0, none⟩))
    unfold hasL
    rw [getL_bad s.files.nms hn, show kkV n = [] by simp [kkV, hn]]
    exact this
  · rw [show kkV n = n by simp [kkV, hn]]
    exact find_is hn w _ (some b) (getL n l).1 (hasL n l) (fun W hg => all_at W h _ (s.kept hg (by simp) (by simp)).cell) (fun W hg => (s.kept hg (by simp) (by simp)).files.look2 hn)
theorem grown_then {a b c : World} (h : a.grownBy b none) {k : Nat} (hg : b.grownBy c (some k)) : a.grownBy c (some k) :=
  World.grownBy.andThen ⟨h.os, h.tape, h.output, h.size, fun i hi _ => h.block i hi (by simp)⟩ hg (fun j hj => .inr hj)
theorem FM.ne {w : World} {b : Nat} {l : List Pr} (f : FM w b l) {k : Nat} {c : Array Value} {t : TypeId} {fr : Nat × Nat} (h : w.heap[k]? = some (.cells c t fr)) : k ≠ b := by
  intro e
  obtain ⟨es, cl, hb, _⟩ := f.ex
  rw [← e, h] at hb
  cases hb
theorem FM.held {w w' : World} {b : Nat} {l : List Pr} (f : FM w b l) {k : Nat} {c : Array Value} {t : TypeId} {fr : Nat × Nat} (h : w.heap[k]? = some (.cells c t fr)) (hg : w.grownBy w' (some b)) : w'.heap[k]? = some (.cells c t fr) :=
  (hg.block k (Array.getElem?_eq_some_iff.1 h).1 (fun e => f.ne h (Option.some.inj e))).trans h
theorem setRow_mid (W : World) (Z K : Array Value) (t : TypeId) (o : Obj) : ((W.alloc (.cells Z t)).alloc o).setRow W.heap.size K = (W.alloc (.cells K t)).alloc o := by
  simp only [World.setRow, World.alloc]
  congr 1
  apply Array.ext_getElem?
  intro i
  rw [Array.getElem?_modify]
  by_cases h : W.heap.size = i
  · subst h
    simp [Array.getElem?_push]
  · have h' : ¬ i = W.heap.size := fun e => h e.symm
    simp [h, h', Array.getElem?_push]
theorem stores_mid (W : World) {Z K : Array Value} (o : Obj) (hZ : Z.size = 24) (hK : K.size = 24) (h1 : K.all (·.oneCell') = true) :
    (storeCells ⟨W.heap.size, 0, none⟩ K.toList 0).run Tryd.prog ((W.alloc (.cells Z 52)).alloc o) = .ok () ((W.alloc (.cells K 52)).alloc o) := by
  rw [stores_at (by rw [heap_alloc_old _ _ (by simp)]; exact heap_alloc_last _ _) hZ hK h1, setRow_mid]
set_option maxHeartbeats 1000000 in
theorem get_at {w : World} {h b : Nat} {l : List Pr} (s : Sto w h b l) (n : List UInt8) (hm : n.length ≤ maxLen) :
    Calls Tryd.prog 10 #[.pointer (some ⟨h, 0, none⟩), .string (bs n)] w fun e w' => e = .returned (.tuple #[.string (bs (getL n l).1), .bool (hasL n l)]) ∧ w.grownBy w' none := by
  obtain ⟨Z, hZ⟩ : ∃ Z, padV [] = Z := ⟨_, rfl⟩
  have hpz : Z.size = 24 := by rw [← hZ]; exact padV_size (by simp)
  have b0' : (⟨#[]⟩ : ByteArray) = bs [] := rfl
  rw [padV_nil] at hZ
  have HF := hide (find_any s n hm)
  have hps := padV_size (kk_len n)
  have hp1 := padV_one (kkV n)
  generalize padV (kkV n) = K at HF hps hp1
  have hsc := fun (W : World) (o : Obj) => stores_mid W (Z := Z) (K := K) o hpz hps hp1
  clear s hp1 hm
  go_enter Tryd.func10, Tryd.ntmps10
  go_wp2_with (go_at_call 25; refine HF.out.mono ?_; rintro e w1 ⟨rfl, hg⟩; have HG := hide hg; clear hg)
  go_ret2
  exact ⟨rfl, grown_trans HG.out (grown_trans (alloc_g _ _) (alloc_g _ _))⟩
set_option maxHeartbeats 1000000 in
theorem del_no {w : World} {h b : Nat} {l : List Pr} (s : Sto w h b l) (n : List UInt8) (hm : n.length ≤ maxLen) (hh : hasL n l = false) :
    Calls Tryd.prog 12 #[.pointer (some ⟨h, 0, none⟩), .string (bs n)] w fun e w' => e = .returned (.bool false) ∧ w.grownBy w' none := by
  obtain ⟨Z, hZ⟩ : ∃ Z, padV [] = Z := ⟨_, rfl⟩
  have hpz : Z.size = 24 := by rw [← hZ]; exact padV_size (by simp)
  have b0' : (⟨#[]⟩ : ByteArray) = bs [] := rfl
  rw [padV_nil] at hZ
  have HF := hide (find_any s n hm)
  have hps := padV_size (kk_len n)
  have hp1 := padV_one (kkV n)
  generalize padV (kkV n) = K at HF hps hp1
  have hsc := fun (W : World) (o : Obj) => stores_mid W (Z := Z) (K := K) o hpz hps hp1
  rw [hh] at HF
  clear s hp1 hm hh
  go_enter Tryd.func12, Tryd.ntmps12
  go_wp2_with (go_at_call 25; refine HF.out.mono ?_; rintro e w1 ⟨rfl, hg⟩; have HG := hide hg; clear hg)
  go_ret
  exact ⟨rfl, grown_trans HG.out (grown_trans (alloc_g _ _) (alloc_g _ _))⟩
theorem has_nm {w : World} {h b : Nat} {l : List Pr} (s : Sto w h b l) {n : List UInt8} (hh : hasL n l = true) : nmB n = true := by
  cases hn : nmB n with
  | true => rfl
  | false => rw [hasL, getL_bad s.files.nms hn] at hh; cases hh
set_option maxHeartbeats 2000000 in
theorem del_yes {w : World} {h b : Nat} {l : List Pr} (s : Sto w h b l) (n : List UInt8) (hm : n.length ≤ maxLen) (hh : hasL n l = true) :
    Calls Tryd.prog 12 #[.pointer (some ⟨h, 0, none⟩), .string (bs n)] w fun e w' => e = .returned (.bool true) ∧ w.grownBy w' (some b) ∧ Sto w' h b (without n l) := by
  have hn := has_nm s hh
  obtain ⟨Z, hZ⟩ : ∃ Z, padV [] = Z := ⟨_, rfl⟩
  have hpz : Z.size = 24 := by rw [← hZ]; exact padV_size (by simp)
  have b0' : (⟨#[]⟩ : ByteArray) = bs [] := rfl
  rw [padV_nil] at hZ
  have HF := hide (find_any s n hm)
  rw [show kkV n = n by simp [kkV, hn], hh] at HF
  have hps := padV_size (nm_len hn)
  have hp1 := padV_one n
  have HD := hide (fun (W : World) (f : FM W b l) => f.drop hn 0)
  generalize padV n = K at HF hps hp1 HD
  have hsc := fun (W : World) (o : Obj) => stores_mid W (Z := Z) (K := K) o hpz hps hp1
  have HS := hide s
  clear s hp1 hm hh hn
  go_enter Tryd.func12, Tryd.ntmps12
  go_upto_region 3 with (go_at_call 25; refine HF.out.mono ?_; rintro e w1 ⟨rfl, hg⟩; have HG := hide hg; clear hg)
  obtain ⟨V, hV⟩ : ∃ V, (w1.alloc (.cells K 52)).alloc (.cells #[.string (bs (getL n l).1)] 56) = V := ⟨_, rfl⟩
  have g1 : w.grownBy V none := by rw [← hV]; exact grown_trans HG.out (grown_trans (alloc_g _ _) (alloc_g _ _))
  have k1 : V.heap[w1.heap.size]? = some (.cells K 52 (0, 0)) := by rw [← hV, heap_alloc_old _ _ (by simp)]; exact heap_alloc_last _ _
  have s1 : Sto V.drew h b l := (HS.out.kept g1 (by simp) (by simp)).kept (drew_g _) (by simp) (by simp)
  obtain ⟨w2, hrun, hfm, hg2⟩ := HD.out V.drew s1.files
  simp only [hV]
  generalize w1.heap.size = kb at k1 ⊢
  have HK := hide k1
  have HC := hide s1.cell
  have HR := hide (s1.turn hg2 hfm)
  have HG2 := hide (grown_then (grown_trans g1 (drew_g V)) hg2)
  have HK2 := hide (s1.files.held (k := kb) (by exact k1) hg2)
  clear g1 k1 s1 hfm hg2 HG HD HF hV
  refine wp_region_held_drew (S := fun W => (W.cell? ⟨h, 0, none⟩ = some (.map (some b)) ∧ Hid (W.heap[kb]? = some (.cells K 52 (0, 0))))) (by kernel_rfl) ⟨HC.out, hide HK.out⟩ (fun hHeld => ?_)
  (refine wpAnyH_take (i := 0) (v := ?_) rfl (by kernel_rfl) (by kernel_rfl) (by kernel_rfl) (fun _ _ _ h => h) (Or.inl ⟨by rfl, ?_⟩) (by assumption) ?_; rotate_left 1; (focus (intro w hSw; (try dsimp only at hSw); go_simp; (try (with_reducible rfl)))); (try simp only [Act.put, List.getElem_toArray, List.getElem_cons_zero, List.getElem_cons_succ, List.setIfInBounds_toArray, List.set_cons_zero, List.set_cons_succ]))
  (refine wpAnyH_take (i := 1) (v := ?_) rfl (by kernel_rfl) (by kernel_rfl) (by kernel_rfl) (fun _ _ _ h => h) (Or.inl ⟨by rfl, ?_⟩) (by assumption) ?_; rotate_left 1; (focus (intro w hSw; (try dsimp only at hSw); go_simp; (try (with_reducible rfl)))); (try simp only [Act.put, List.getElem_toArray, List.getElem_cons_zero, List.getElem_cons_succ, List.setIfInBounds_toArray, List.set_cons_zero, List.set_cons_succ]))
  (refine wpAnyH_take (i := 2) (v := ?_) rfl (by kernel_rfl) (by kernel_rfl) (by kernel_rfl) (fun _ _ _ h => h) (Or.inl ⟨by rfl, ?_⟩) (by assumption) ?_; rotate_left 1; (focus (intro w hSw; (try dsimp only at hSw); go_simp; (try (with_reducible rfl)))); (try simp only [Act.put, List.getElem_toArray, List.getElem_cons_zero, List.getElem_cons_succ, List.setIfInBounds_toArray, List.set_cons_zero, List.set_cons_succ]))
  (refine wpAnyH_take (i := 3) (v := ?_) rfl (by kernel_rfl) (by kernel_rfl) (by kernel_rfl) (fun _ _ _ h => h) (Or.inl ⟨by rfl, ?_⟩) (by assumption) ?_; rotate_left 1; (focus (intro w hSw; (try dsimp only at hSw); go_simp; (try (with_reducible rfl)))); (try simp only [Act.put, List.getElem_toArray, List.getElem_cons_zero, List.getElem_cons_succ, List.setIfInBounds_toArray, List.set_cons_zero, List.set_cons_succ]))
  (refine wpAnyH_take (i := 4) (v := .agg K) rfl (by kernel_rfl) (by kernel_rfl) (by kernel_rfl) (fun _ _ _ h => h) (yk (by rfl) _ rfl _ rfl K (fun w hSw => hSw.2.out) hps) (by assumption) ?_; (try simp only [Act.put, List.getElem_toArray, List.getElem_cons_zero, List.getElem_cons_succ, List.setIfInBounds_toArray, List.set_cons_zero, List.set_cons_succ]))
  refine ready_turn (i := 5) rfl (by kernel_rfl) (fun Q hQ => ?_)
  go_simp
  refine hQ.out _ _ (fun W => (W.cell? ⟨h, 0, none⟩ = some (.map (some b)) ∧ Hid (W.heap[kb]? = some (.cells K 52 (0, 0))))) (fun _ h => h) ⟨HR.out.cell, hide HK2.out⟩ (fun hHeld => ?_)
  clear hQ Q
  (try simp only [Act.put, List.getElem_toArray, List.getElem_cons_zero, List.getElem_cons_succ, List.setIfInBounds_toArray, List.set_cons_zero, List.set_cons_succ])
  refine wpAnyH_done (by kernel_rfl) ?_ _
  go_wp2
  go_ret
  exact ⟨rfl, HG2.out, HR.out⟩
end Go.Proofs.YtaekljpijnkjoaaDoor.St
