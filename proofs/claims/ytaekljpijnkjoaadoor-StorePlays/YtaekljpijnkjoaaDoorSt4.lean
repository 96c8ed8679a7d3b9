/-
  A store in memory; package store's New, all, full, find.
-/
import Derived.Test.YtaekljpijnkjoaaDoorSt3
import Derived.Deep.RegionHeld3
import Derived.Deep.Cut
namespace Go.Proofs.YtaekljpijnkjoaaDoor.St
open Go.RowKit Go.Maps Go.Proofs.YtaekljpijnkjoaaDoor.Tx
set_option linter.unusedVariables false
set_option linter.unusedSimpArgs false
set_option maxRecDepth 100000

/- Block h of w is a store whose map is block b, with the files l. -/
structure Sto (w : World) (h b : Nat) (l : List Pr) : Prop where
  head : w.heap[h]? = some (.cells #[.map (some b)] 50 (0, 0))
  files : FM w b l
theorem Sto.ne {w : World} {h b : Nat} {l : List Pr} (s : Sto w h b l) : h ≠ b := by
  intro e
  obtain ⟨es, c, hb, _⟩ := s.files.ex
  rw [← e, s.head] at hb
  cases hb
theorem Sto.lt {w : World} {h b : Nat} {l : List Pr} (s : Sto w h b l) : h < w.heap.size := (Array.getElem?_eq_some_iff.1 s.head).1
theorem Sto.kept {w w' : World} {h b : Nat} {l : List Pr} (s : Sto w h b l) {row : Option Nat} (hg : w.grownBy w' row) (hh : some h ≠ row) (hb : some b ≠ row) : Sto w' h b l :=
  ⟨(hg.block h s.lt hh).trans s.head, s.files.kept hg hb⟩
theorem Sto.cell {w : World} {h b : Nat} {l : List Pr} (s : Sto w h b l) : w.cell? ⟨h, 0, none⟩ = some (.map (some b)) := by
  rw [cell_of_row _ _ _ _ _ _ s.head]; rfl
theorem Sto.perm {w : World} {h b : Nat} {l l' : List Pr} (s : Sto w h b l) (hp : l.Perm l') : Sto w h b l' := ⟨s.head, s.files.perm hp⟩
theorem Sto.turn {w w' : World} {h b : Nat} {l l' : List Pr} (s : Sto w h b l) (hg : w.grownBy w' (some b)) (f : FM w' b l') : Sto w' h b l' :=
  ⟨(hg.block h s.lt (fun e => s.ne (Option.some.inj e))).trans s.head, f⟩
theorem grown_trans {a b c : World} (h : a.grownBy b none) (k : b.grownBy c none) : a.grownBy c none := h.andThen k (fun j hj => by cases hj)
theorem drew_g (w : World) : w.grownBy w.drew none := ⟨rfl, rfl, rfl, Nat.le_refl _, fun i _ _ => rfl⟩
theorem alloc_g (w : World) (o : Obj) : w.grownBy (w.alloc o) none := World.grownBy_alloc w o none

/- A whole key into a block that lies anywhere. -/
theorem stores_at {V : World} {b : Nat} {Z K : Array Value} (hb : V.heap[b]? = some (.cells Z 52 (0, 0))) (hZ : Z.size = 24) (hK : K.size = 24) (h1 : K.all (·.oneCell') = true) :
    (storeCells ⟨b, 0, none⟩ K.toList 0).run Tryd.prog V = .ok () (V.setRow b K) := by
  have := run_storeVar_row (P := Tryd.prog) V b 52 52 Z K hb (by rw [hK]; exact info_key) (by rw [hZ, hK]) h1
  cases hq : Tryd.prog.info? 52 with
  | none => have := info_key; simp [hq] at this
  | some i =>
    have hs : i.size = 24 := by have := info_key; simpa [hq] using this
    simpa [storeVar, sizeOf, typeInfo, hq, Value.cells, hs, hK] using this
theorem setRow_g (w : World) (b : Nat) (K : Array Value) : w.grownBy (w.setRow b K) (some b) :=
  ⟨rfl, rfl, rfl, by simp [World.setRow], fun i _ hi => setRow_other w b i K (fun e => hi (by rw [e]))⟩
theorem setCell_g (w : World) (b k : Nat) (u : Value) : w.grownBy (w.setCell ⟨b, k, none⟩ u) (some b) :=
  ⟨rfl, rfl, rfl, by simp [World.setCell], fun j _ hj => Below.heap_setCell w ⟨b, k, none⟩ u j (fun e => hj (by simp [e]))⟩
/- What was written is new since w. -/
theorem grown_own {a b c : World} (h : a.grownBy b none) {k : Nat} (hk : a.heap.size ≤ k) (hg : b.grownBy c (some k)) : a.grownBy c none := h.andThen hg (fun j hj => by cases hj; exact .inl hk)
theorem new_any (w : World) : Calls Tryd.prog 7 #[] w fun e w' => e = .returned (.pointer (some ⟨w.heap.size + 1, 0, none⟩)) ∧ Sto w' (w.heap.size + 1) w.heap.size [] ∧ w.grownBy w' none := by
  have hmk := fun W => run_makeMap (P := Tryd.prog) 48 W
  go_enter Tryd.func7, Tryd.ntmps7
  go_wp2
  go_ret
  refine ⟨rfl, ⟨?_, ?_⟩, grown_trans (alloc_g _ _) (alloc_g _ _)⟩
  · have := heap_alloc_last (w.alloc (.map #[] 0)) (.cells #[.map (some w.heap.size)] 50)
    simpa using this
  · exact (FM.made w).kept (alloc_g _ _) (by simp)
theorem all_nil (w : World) : Calls Tryd.prog 26 #[.pointer none] w fun e w' => e = .returned (.map none) ∧ w' = w := by
  go_enter Tryd.func26, Tryd.ntmps26
  go_wp2
  go_ret
  exact ⟨rfl, rfl⟩
theorem all_at (w : World) (h : Nat) (v : Value) (hc : w.cell? ⟨h, 0, none⟩ = some v) : Calls Tryd.prog 26 #[.pointer (some ⟨h, 0, none⟩)] w fun e w' => e = .returned v ∧ w' = w := by
  go_enter Tryd.func26, Tryd.ntmps26
  go_wp2
  go_ret
  exact ⟨rfl, rfl⟩
theorem full_at {w : World} {h b : Nat} {l : List Pr} (s : Sto w h b l) : Calls Tryd.prog 23 #[.pointer (some ⟨h, 0, none⟩)] w fun e w' => e = .returned (.bool (decide (64 ≤ l.length))) ∧ w' = w := by
  have hc := s.cell
  have hl := s.files.len 3
  have hm := s.files.size
  have hm' : (l.length : Int) ≤ 9223372036854775807 := by unfold maxLen at hm; omega
  have HS := hide s
  clear s hm
  by_cases h64 : 64 ≤ l.length
  · go_enter Tryd.func23, Tryd.ntmps23
    go_wp2
    go_ret
    exact ⟨by simp; omega, rfl⟩
  · go_enter Tryd.func23, Tryd.ntmps23
    go_wp2
    go_ret
    exact ⟨by simp; omega, rfl⟩
/- The class of worlds may be turned at a call. -/
theorem wpAnyH_sub {P : Program} {md : Region.Mode} {ops : Array Oper} {Q : Exit → Act → World → Prop} {S S' : World → Prop} (hSS : ∀ w, S' w → S w) :
    ∀ (fuel : Nat) (listed : Array Bool) (a : Act) (w : World), wpAnyH P md ops Q S' fuel listed a w → wpAnyH P md ops Q S fuel listed a w
  | 0, _, _, _, h => h
  | fuel + 1, _, _, _, h => ⟨h.1, fun i hi => wpOp_mono (fun a' w' h' => ⟨hSS w' h'.1, wpAnyH_sub hSS fuel _ a' w' h'.2⟩) (h.2 i hi)⟩
theorem ready_turn {P : Program} {md : Region.Mode} {ops : Array Oper} {Q : Exit → Act → World → Prop} {S : World → Prop} {fuel : Nat} {listed : Array Bool} {a : Act} {w : World} {i : Nat} {o : Oper} (ho : ops[i]? = some o)
    (hr : Region.ready md ops listed = [i])
    (h : ∀ K' : Act → World → Prop, Shut (∀ a w, ∀ S' : World → Prop, (∀ w, S' w → S w) → S' w → (S' w → wpAnyH P md ops Q S' fuel (listed.setIfInBounds i true) a w) → K' a w) → if Region.wanted o (yielded ops a.tmps) = true then Oper.wp P o a w K' Q else K' (a.put o.dst undef) w) :
    wpAnyH P md ops Q S (fuel + 1) listed a w := by
  refine wpAnyH_ready hr (by simp) (AllReadyH.cons ho (fun K' hK => ?_) AllReadyH.nil)
  refine h K' (fun a w S' hSS hS' hW => ?_)
  exact hK.out a w (hSS w hS') (fun _ => wpAnyH_sub hSS _ _ _ _ (hW hS'))
/- What a world is good for, between a key that lies in block kb and a store. -/
structure Rdy (W : World) (h b kb : Nat) (K : Array Value) (r : Value) : Prop where
  cell : W.cell? ⟨h, 0, none⟩ = some (.map (some b))
  key : W.heap[kb]? = some (.cells K 52 (0, 0))
  look : (Instr.lookup 48 (.map (some b)) (.agg K) true).run Tryd.prog W = .ok r W
theorem setRow_same {V : World} {b : Nat} {K : Array Value} {t : TypeId} {fr : Nat × Nat} (hb : V.heap[b]? = some (.cells K t fr)) : V.setRow b K = V := by
  have : (V.setRow b K).heap = V.heap := by
    apply Array.ext_getElem?
    intro i
    by_cases e : i = b
    · subst e
      rw [setRow_heap V i _ _ _ _ hb, hb]
    · exact setRow_other V b i K e
  cases V
  simp only [World.setRow] at this ⊢
  rw [this]
theorem setCell_same {V : World} {b : Nat} {v : Value} {t : TypeId} {fr : Nat × Nat} (hb : V.heap[b]? = some (.cells #[v] t fr)) : V.setCell ⟨b, 0, none⟩ v = V := by
  have hlt := (Array.getElem?_eq_some_iff.1 hb).1
  have : (V.setCell ⟨b, 0, none⟩ v).heap = V.heap := by
    apply Array.ext_getElem?
    intro i
    by_cases e : i = b
    · subst e
      have h' : V.heap[i] = .cells #[v] t fr := by simpa [Array.getElem?_eq_getElem hlt] using hb
      show (V.heap.modify i _)[i]? = _
      rw [Array.getElem?_eq_getElem (by simpa using hlt), Array.getElem_modify_self, h', hb]
      rfl
    · exact Below.heap_setCell V ⟨b, 0, none⟩ v i (fun h => e h)
  cases V
  simp only [World.setCell] at this ⊢
  rw [this]
theorem info_file : (Tryd.prog.info? 56).map (·.size) = some 1 := by kernel_rfl
theorem loadv_file {V : World} {b : Nat} {v : Value} {t : TypeId} {fr : Nat × Nat} (hb : V.heap[b]? = some (.cells #[v] t fr)) : (loadVar 56 ⟨b, 0, none⟩).run Tryd.prog V = .ok (.agg #[v]) V :=
  run_loadVar_row V b t 56 #[v] fr _ hb Tryd.underlying56 rfl info_file
/- How find begins: its two boxes, and the key's own behind them. -/
structure Fnd (w V : World) (K : Array Value) : Prop where
  key : V.heap[w.heap.size]? = some (.cells K 52 (0, 0))
  file : V.heap[w.heap.size + 1]? = some (.cells #[.string (bs [])] 56 (0, 0))
  grown : w.grownBy V none
theorem fnd_made (w : World) (Z K : Array Value) : Fnd w (((w.alloc (.cells Z 52)).alloc (.cells #[.string (bs [])] 56)).alloc (.cells K 52)) Z :=
  ⟨by rw [heap_alloc_old _ _ (by simp; omega), heap_alloc_old _ _ (by simp)]; exact heap_alloc_last _ _,
   by rw [heap_alloc_old _ _ (by simp)]; have := heap_alloc_last (w.alloc (.cells Z 52)) (.cells #[.string (bs [])] 56); simpa using this,
   grown_trans (grown_trans (alloc_g _ _) (alloc_g _ _)) (alloc_g _ _)⟩
theorem Fnd.set {w V : World} {Z : Array Value} (f : Fnd w V Z) (K : Array Value) : Fnd w (V.setRow w.heap.size K) K :=
  ⟨setRow_heap V _ _ _ _ _ f.key, (setRow_other V _ _ K (by omega)).trans f.file, grown_own f.grown (Nat.le_refl _) (setRow_g _ _ _)⟩
set_option maxHeartbeats 1000000 in
theorem find_no {s : List UInt8} (hs : nmB s = false) (hm : s.length ≤ maxLen) (w : World) (p : Value) : Calls Tryd.prog 25 #[p, .string (bs s)] w fun e w' => e = .returned (.tuple #[keyV [], fileV [], .bool false]) ∧ w.grownBy w' none := by
  obtain ⟨Z, hZ⟩ : ∃ Z, padV [] = Z := ⟨_, rfl⟩
  have hps : Z.size = 24 := by rw [← hZ]; exact padV_size (by simp)
  have hp1 : Z.all (·.oneCell') = true := by rw [← hZ]; exact padV_one []
  have b0' : (⟨#[]⟩ : ByteArray) = bs [] := rfl
  have hKO := fun W => keyOf_no s hs hm W
  unfold keyV at hKO ⊢
  rw [hZ] at hKO ⊢
  rw [padV_nil] at hZ
  obtain ⟨V1, hV1⟩ : ∃ V1, ((w.alloc (.cells Z 52)).alloc (.cells #[.string (bs [])] 56)).alloc (.cells Z 52) = V1 := ⟨_, rfl⟩
  have f1 : Fnd w V1 Z := by rw [← hV1]; exact fnd_made w Z Z
  have hsc := stores_at f1.key hps hps hp1
  rw [setRow_same f1.key] at hsc
  have hfc : V1.cell? ⟨w.heap.size + 1, 0, none⟩ = some (.string (bs [])) := by rw [cell_of_row _ _ _ _ _ _ f1.file]; rfl
  have hff : V1.frozen? ⟨w.heap.size + 1, 0, none⟩ = false := by simp [World.frozen?, f1.file]
  have hse := setCell_same f1.file
  have HF := hide f1
  have HK := hide hKO
  clear f1 hKO hp1
  go_enter Tryd.func25, Tryd.ntmps25
  go_wp2_with (go_at_call 22; refine (HK.out _).mono ?_; rintro e w1 ⟨rfl, h1⟩; rw [hV1] at h1; subst h1)
  refine bodyPost_ret (v := .tuple #[.agg Z, fileV [], .bool false]) (res3 Tryd.results25 rfl (loadv_key HF.out.key hps) rfl (loadv_file HF.out.file) rfl) rfl ?_
  exact ⟨rfl, HF.out.grown⟩
theorem Fnd.setFile {w V : World} {K : Array Value} (f : Fnd w V K) (v : Value) : (V.setCell ⟨w.heap.size + 1, 0, none⟩ v).heap[w.heap.size]? = some (.cells K 52 (0, 0)) ∧ (V.setCell ⟨w.heap.size + 1, 0, none⟩ v).heap[w.heap.size + 1]? = some (.cells #[v] 56 (0, 0)) ∧ w.grownBy (V.setCell ⟨w.heap.size + 1, 0, none⟩ v) none := by
  refine ⟨(Below.heap_setCell V ⟨w.heap.size + 1, 0, none⟩ v _ (by simp)).trans f.key, ?_, grown_own f.grown (by omega) (setCell_g _ _ _ _)⟩
  have hb := f.file
  have hlt := (Array.getElem?_eq_some_iff.1 hb).1
  have h' : V.heap[w.heap.size + 1] = .cells #[.string (bs [])] 56 (0, 0) := by simpa [Array.getElem?_eq_getElem hlt] using hb
  show (V.heap.modify (w.heap.size + 1) _)[w.heap.size + 1]? = _
  rw [Array.getElem?_eq_getElem (by simpa using hlt), Array.getElem_modify_self, h']
  rfl
set_option maxHeartbeats 2000000 in
/- A name: what the store's map tells of it. -/
theorem find_is {s : List UInt8} (hs : nmB s = true) (w : World) (p : Value) (m : Option Nat) (t : List UInt8) (ok : Bool)
    (hall : ∀ W : World, w.grownBy W none → Calls Tryd.prog 26 #[p] W fun e w' => e = .returned (.map m) ∧ w' = W)
    (hlook : ∀ W : World, w.grownBy W none → (Instr.lookup 48 (.map m) (.agg (padV s)) true).run Tryd.prog W = .ok (.tuple #[fileV t, .bool ok]) W) :
    Calls Tryd.prog 25 #[p, .string (bs s)] w fun e w' => e = .returned (.tuple #[keyV s, fileV t, .bool ok]) ∧ w.grownBy w' none := by
  obtain ⟨Z, hZ⟩ : ∃ Z, padV [] = Z := ⟨_, rfl⟩
  have hpz : Z.size = 24 := by rw [← hZ]; exact padV_size (by simp)
  have b0' : (⟨#[]⟩ : ByteArray) = bs [] := rfl
  have hKO := fun W => keyOf_yes s hs W
  have hps := padV_size (nm_len hs)
  have hp1 := padV_one s
  unfold keyV at hKO ⊢
  unfold fileV at hlook ⊢
  rw [padV_nil] at hZ
  obtain ⟨K, hK⟩ : ∃ K, K = padV s := ⟨_, rfl⟩
  rw [← hK] at hKO hps hp1 hlook ⊢
  clear hK
  obtain ⟨V1, hV1⟩ : ∃ V1, ((w.alloc (.cells Z 52)).alloc (.cells #[.string (bs [])] 56)).alloc (.cells K 52) = V1 := ⟨_, rfl⟩
  have f1 : Fnd w V1 Z := by rw [← hV1]; exact fnd_made w Z K
  have hsc := stores_at f1.key hpz hps hp1
  have f2 := f1.set K
  obtain ⟨V2, hV2⟩ : ∃ V2, V1.setRow w.heap.size K = V2 := ⟨_, rfl⟩
  rw [hV2] at hsc f2
  have HF := hide f2
  have HK := hide hKO
  have HA := hide hall
  have HL := hide hlook
  have HP := hide hp1
  clear f1 f2 hKO hp1 hall hlook hV2
  go_enter Tryd.func25, Tryd.ntmps25
  go_upto_region 4 with (go_at_call 22; refine (HK.out _).mono ?_; rintro e w1 ⟨rfl, h1⟩; rw [hV1] at h1; subst h1)
  have f2 : Fnd w V2.drew K := ⟨HF.out.key, HF.out.file, grown_trans HF.out.grown (drew_g _)⟩
  refine wp_region_held_drew (S := fun W => ((Instr.lookup 48 (.map m) (.agg K) true).run Tryd.prog W = .ok (.tuple #[.agg #[.string (bs t)], .bool ok]) W ∧ Hid (W.heap[w.heap.size]? = some (.cells K 52 (0, 0)) ∧ w.grownBy W none))) (by kernel_rfl) ⟨HL.out _ f2.grown, hide ⟨f2.key, f2.grown⟩⟩ (fun hHeld => ?_)
  (refine wpAnyH_take (i := 0) (v := ?_) rfl (by kernel_rfl) (by kernel_rfl) (by kernel_rfl) (fun _ _ _ h => h) (Or.inl ⟨by rfl, ?_⟩) (by assumption) ?_; rotate_left 1; (focus (intro w hSw; (try dsimp only at hSw); go_simp; (try (with_reducible rfl)))); (try simp only [Act.put, List.getElem_toArray, List.getElem_cons_zero, List.getElem_cons_succ, List.setIfInBounds_toArray, List.set_cons_zero, List.set_cons_succ]))
  (refine wpAnyH_take (i := 2) (v := .agg K) rfl (by kernel_rfl) (by kernel_rfl) (by kernel_rfl) (fun _ _ _ h => h) (yk (by rfl) _ rfl _ rfl K (fun w hSw => hSw.2.out.1) hps) (by assumption) ?_; (try simp only [Act.put, List.getElem_toArray, List.getElem_cons_zero, List.getElem_cons_succ, List.setIfInBounds_toArray, List.set_cons_zero, List.set_cons_succ]))
  refine ready_turn (i := 1) rfl (by kernel_rfl) (fun Q hQ => ?_)
  go_simp
  refine (HA.out _ hHeld.2.out.2).mono ?_
  rintro e w1 ⟨rfl, rfl⟩
  refine hQ.out _ _ (fun W => ((Instr.lookup 48 (.map m) (.agg K) true).run Tryd.prog W = .ok (.tuple #[.agg #[.string (bs t)], .bool ok]) W ∧ Hid (W.heap[w.heap.size]? = some (.cells K 52 (0, 0)) ∧ w.grownBy W none))) (fun _ h => h) hHeld (fun hHeld => ?_)
  clear hQ Q
  (try simp only [Act.put, List.getElem_toArray, List.getElem_cons_zero, List.getElem_cons_succ, List.setIfInBounds_toArray, List.set_cons_zero, List.set_cons_succ])
  (refine wpAnyH_take (i := 3) (v := ?_) rfl (by kernel_rfl) (by kernel_rfl) (by kernel_rfl) (fun _ _ _ h => h) (Or.inl ⟨by rfl, ?_⟩) (by assumption) ?_; rotate_left 1; (focus (intro w hSw; (try dsimp only at hSw); go_simp; (try (with_reducible rfl)))); (try simp only [Act.put, List.getElem_toArray, List.getElem_cons_zero, List.getElem_cons_succ, List.setIfInBounds_toArray, List.set_cons_zero, List.set_cons_succ]))
  (refine wpAnyH_take (i := 4) (v := ?_) rfl (by kernel_rfl) (by kernel_rfl) (by kernel_rfl) (fun _ _ _ h => h) (Or.inl ⟨by rfl, ?_⟩) (by assumption) ?_; rotate_left 1; (focus (intro w hSw; (try dsimp only at hSw); go_simp; (try (with_reducible rfl)))); (try simp only [Act.put, List.getElem_toArray, List.getElem_cons_zero, List.getElem_cons_succ, List.setIfInBounds_toArray, List.set_cons_zero, List.set_cons_succ]))
  (refine wpAnyH_take (i := 5) (v := ?_) rfl (by kernel_rfl) (by kernel_rfl) (by kernel_rfl) (fun _ _ _ h => h) (Or.inl ⟨by rfl, ?_⟩) (by assumption) ?_; rotate_left 1; (focus (intro w hSw; (try dsimp only at hSw); go_simp; (try (with_reducible rfl)))); (try simp only [Act.put, List.getElem_toArray, List.getElem_cons_zero, List.getElem_cons_succ, List.setIfInBounds_toArray, List.set_cons_zero, List.set_cons_succ]))
  (refine wpAnyH_take (i := 6) (v := ?_) rfl (by kernel_rfl) (by kernel_rfl) (by kernel_rfl) (fun _ _ _ h => h) (Or.inl ⟨by rfl, ?_⟩) (by assumption) ?_; rotate_left 1; (focus (intro w hSw; (try dsimp only at hSw); go_simp; (try (with_reducible rfl)))); (try simp only [Act.put, List.getElem_toArray, List.getElem_cons_zero, List.getElem_cons_succ, List.setIfInBounds_toArray, List.set_cons_zero, List.set_cons_succ]))
  have hfc : V2.cell? ⟨w.heap.size + 1, 0, none⟩ = some (.string (bs [])) := by rw [cell_of_row _ _ _ _ _ _ HF.out.file]; rfl
  have hff : V2.frozen? ⟨w.heap.size + 1, 0, none⟩ = false := by simp [World.frozen?, HF.out.file]
  obtain ⟨x1, x2, x3⟩ := HF.out.setFile (.string (bs t))
  obtain ⟨V3, hV3⟩ : ∃ V3, V2.setCell ⟨w.heap.size + 1, 0, none⟩ (.string (bs t)) = V3 := ⟨_, rfl⟩
  rw [hV3] at x1 x2 x3
  have X1 := hide x1
  have X2 := hide x2
  have X3 := hide x3
  clear x1 x2 x3
  refine ready_turn (i := 7) rfl (by kernel_rfl) (fun Q hQ => ?_)
  go_simp
  refine hQ.out _ _ (fun W => ((Instr.lookup 48 (.map m) (.agg K) true).run Tryd.prog W = .ok (.tuple #[.agg #[.string (bs t)], .bool ok]) W ∧ Hid (W.heap[w.heap.size]? = some (.cells K 52 (0, 0)) ∧ w.grownBy W none))) (fun _ h => h) ⟨HL.out _ (grown_trans X3.out (drew_g _)), hide ⟨X1.out, grown_trans X3.out (drew_g _)⟩⟩ (fun hHeld => ?_)
  clear hQ Q
  (try simp only [Act.put, List.getElem_toArray, List.getElem_cons_zero, List.getElem_cons_succ, List.setIfInBounds_toArray, List.set_cons_zero, List.set_cons_succ])
  (refine wpAnyH_take (i := 8) (v := ?_) rfl (by kernel_rfl) (by kernel_rfl) (by kernel_rfl) (fun _ _ _ h => h) (Or.inl ⟨by rfl, ?_⟩) (by assumption) ?_; rotate_left 1; (focus (intro w hSw; (try dsimp only at hSw); go_simp; (try (with_reducible rfl)))); (try simp only [Act.put, List.getElem_toArray, List.getElem_cons_zero, List.getElem_cons_succ, List.setIfInBounds_toArray, List.set_cons_zero, List.set_cons_succ]))
  refine wpAnyH_done (by kernel_rfl) ?_ _
  clear hHeld hff hfc hsc HF f2 hV1 hV3
  obtain ⟨V4, hV4⟩ : ∃ V4, V3.drew = V4 := ⟨_, rfl⟩
  have y1 : V4.heap[w.heap.size]? = some (.cells K 52 (0, 0)) := by rw [← hV4]; exact X1.out
  have y2 : V4.heap[w.heap.size + 1]? = some (.cells #[.string (bs t)] 56 (0, 0)) := by rw [← hV4]; exact X2.out
  have y3 : w.grownBy V4 none := by rw [← hV4]; exact grown_trans X3.out (drew_g _)
  simp only [hV4]
  clear hV4 X1 X2 X3
  go_upto_region 5 with fail
  have hsc := stores_at (V := V4.drew) y1 hps hps HP.out
  rw [setRow_same (V := V4.drew) y1] at hsc
  have hfc : V4.cell? ⟨w.heap.size + 1, 0, none⟩ = some (.string (bs t)) := by rw [cell_of_row _ _ _ _ _ _ y2]; rfl
  have hff : V4.frozen? ⟨w.heap.size + 1, 0, none⟩ = false := by simp [World.frozen?, y2]
  have hse := setCell_same y2
  have hse' := setCell_same (V := V4.drew) y2
  have Y1 := hide y1
  have Y2 := hide y2
  have Y3 := hide y3
  clear y1 y2 y3
  refine wp_region_held_drew (S := fun W => (W.cell? ⟨w.heap.size + 1, 0, none⟩ = some (.string (bs t)) ∧ Hid (W.heap[w.heap.size]? = some (.cells K 52 (0, 0))))) (by kernel_rfl) ⟨hfc, hide Y1.out⟩ (fun hHeld => ?_)
  (refine wpAnyH_take (i := 0) (v := .agg K) rfl (by kernel_rfl) (by kernel_rfl) (by kernel_rfl) (fun _ _ _ h => h) (yk (by rfl) _ rfl _ rfl K (fun w hSw => hSw.2.out) hps) (by assumption) ?_; (try simp only [Act.put, List.getElem_toArray, List.getElem_cons_zero, List.getElem_cons_succ, List.setIfInBounds_toArray, List.set_cons_zero, List.set_cons_succ]))
  (refine wpAnyH_take (i := 1) (v := ?_) rfl (by kernel_rfl) (by kernel_rfl) (by kernel_rfl) (fun _ _ _ h => h) (Or.inl ⟨by rfl, ?_⟩) (by assumption) ?_; rotate_left 1; (focus (intro w hSw; (try dsimp only at hSw); go_simp; (try (with_reducible rfl)))); (try simp only [Act.put, List.getElem_toArray, List.getElem_cons_zero, List.getElem_cons_succ, List.setIfInBounds_toArray, List.set_cons_zero, List.set_cons_succ]))
  (refine wpAnyH_take (i := 2) (v := ?_) rfl (by kernel_rfl) (by kernel_rfl) (by kernel_rfl) (fun _ _ _ h => h) (Or.inl ⟨by rfl, ?_⟩) (by assumption) ?_; rotate_left 1; (focus (intro w hSw; (try dsimp only at hSw); go_simp; (try (with_reducible rfl)))); (try simp only [Act.put, List.getElem_toArray, List.getElem_cons_zero, List.getElem_cons_succ, List.setIfInBounds_toArray, List.set_cons_zero, List.set_cons_succ]))
  refine ready_turn (i := 3) rfl (by kernel_rfl) (fun Q hQ => ?_)
  go_simp
  refine hQ.out _ _ (fun W => (W.cell? ⟨w.heap.size + 1, 0, none⟩ = some (.string (bs t)) ∧ Hid (W.heap[w.heap.size]? = some (.cells K 52 (0, 0))))) (fun _ h => h) hHeld (fun hHeld => ?_)
  clear hQ Q
  (try simp only [Act.put, List.getElem_toArray, List.getElem_cons_zero, List.getElem_cons_succ, List.setIfInBounds_toArray, List.set_cons_zero, List.set_cons_succ])
  refine ready_turn (i := 4) rfl (by kernel_rfl) (fun Q hQ => ?_)
  go_simp
  refine hQ.out _ _ (fun W => (W.cell? ⟨w.heap.size + 1, 0, none⟩ = some (.string (bs t)) ∧ Hid (W.heap[w.heap.size]? = some (.cells K 52 (0, 0))))) (fun _ h => h) hHeld (fun hHeld => ?_)
  clear hQ Q
  (try simp only [Act.put, List.getElem_toArray, List.getElem_cons_zero, List.getElem_cons_succ, List.setIfInBounds_toArray, List.set_cons_zero, List.set_cons_succ])
  (refine wpAnyH_take (i := 5) (v := ?_) rfl (by kernel_rfl) (by kernel_rfl) (by kernel_rfl) (fun _ _ _ h => h) (Or.inl ⟨by rfl, ?_⟩) (by assumption) ?_; rotate_left 1; (focus (intro w hSw; (try dsimp only at hSw); go_simp; (try (with_reducible rfl)))); (try simp only [Act.put, List.getElem_toArray, List.getElem_cons_zero, List.getElem_cons_succ, List.setIfInBounds_toArray, List.set_cons_zero, List.set_cons_succ]))
  refine wpAnyH_done (by kernel_rfl) ?_ _
  go_wp2
  refine bodyPost_ret (v := .tuple #[.agg K, .agg #[.string (bs t)], .bool ok]) (res3 Tryd.results25 rfl (loadv_key (V := V4.drew) Y1.out hps) rfl (loadv_file (V := V4.drew) Y2.out) rfl) rfl ?_
  exact ⟨rfl, grown_trans Y3.out (drew_g _)⟩
end Go.Proofs.YtaekljpijnkjoaaDoor.St
