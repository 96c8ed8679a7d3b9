/-
  Package consts: reckon, One, Two.
-/
import Derived.Test.YtgdpcdpkaaefbaaCn15
namespace Go.Proofs.Ytgdpcdpkaaefbaa.Cn
open Go.RowKit hiding Hid
open Go.Maps Go.Proofs.Ytgdpcdpkaaefbaa.Tx Go.Proofs.Ytgdpcdpkaaefbaa.Lx Go.Proofs.Ytgdpcdpkaaefbaa.Mp Go.Proofs.Ytgdpcdpkaaefbaa.Bits Go.Proofs.Ytgdpcdpkaaefbaa.Tr
set_option linter.unusedVariables false
set_option linter.unusedSimpArgs false
set_option maxRecDepth 100000

theorem MapK.yes2 {w : World} {mb : Nat} {E : List (Ky × Cd)} (h : MapK w mb E) (hd : (E.map (·.1)).Nodup) {x : Ky} (hx : kok x) {c : Cd} (hc : (x, c) ∈ E) : ∃ v, EntV w (entOf c) v ∧ ∀ W, w.grownBy W none →
    (Instr.lookup 54 (.map (some mb)) (kyV x) true).run Try.prog W = .ok (.tuple #[v, .bool true]) W := by
  obtain ⟨Z, rfl, h2, l, h0, h3, h4⟩ := h
  obtain ⟨z, hz, e⟩ := List.mem_map.1 hc
  injection e with e1 e2
  refine ⟨z.2.2, by rw [← e2]; exact h2 z hz, fun W hW => (h3.kept hW (by simp)).look_ok LKk Try.underlying54 (z_op W) (isK_ky hx) ((h4 _).2 ⟨z, hz, by rw [e1]⟩) (fun p hp e => ?_)⟩
  obtain ⟨y, hy, rfl⟩ := (h4 p).1 hp
  have e3 := kyV_inj e
  have : y = z := by
    rw [List.map_map] at hd
    have hpw := List.pairwise_iff_getElem.1 (List.nodup_iff_pairwise_ne.1 hd)
    obtain ⟨i, hi, rfl⟩ := List.getElem_of_mem hy
    obtain ⟨j, hj, rfl⟩ := List.getElem_of_mem hz
    rcases Nat.lt_trichotomy i j with h | h | h
    · have := hpw i j (by simpa using hi) (by simpa using hj) h
      simp only [List.getElem_map, Function.comp] at this
      exact absurd (e3.trans e1.symm) this
    · subst h; rfl
    · have := hpw j i (by simpa using hj) (by simpa using hi) h
      simp only [List.getElem_map, Function.comp] at this
      exact absurd (e1.trans e3.symm) this
  rw [this]
theorem MapK.no2 {w : World} {mb : Nat} {E : List (Ky × Cd)} (h : MapK w mb E) {x : Ky} (hx : kok x) (hc : ∀ p ∈ E, p.1 ≠ x) : ∀ W, w.grownBy W none →
    (Instr.lookup 54 (.map (some mb)) (kyV x) true).run Try.prog W = .ok (.tuple #[.nilFunc, .bool false]) W := fun W hW => (h.g hW).no hx hc
def rk (E : List (Ky × Cd)) (s : List UInt8) (a b : Vl) : Rs := match E.lookup (a.f, b.f, s) with
  | some c => ev c a b
  | none => noR
theorem look_mem {E : List (Ky × Cd)} {x : Ky} {c : Cd} (h : E.lookup x = some c) : (x, c) ∈ E := by
  induction E with
  | nil => cases h
  | cons q L ih =>
    obtain ⟨y, u⟩ := q
    rw [List.lookup_cons] at h
    cases hb : (x == y) with
    | true => rw [hb] at h; injection h with h; subst h; rw [eq_of_beq hb]; exact .head _
    | false => rw [hb] at h; exact .tail _ (ih h)
theorem look_none {E : List (Ky × Cd)} {x : Ky} (h : E.lookup x = none) : ∀ p ∈ E, p.1 ≠ x := by
  induction E with
  | nil => intro p hp; cases hp
  | cons q L ih =>
    obtain ⟨y, u⟩ := q
    rw [List.lookup_cons] at h
    cases hb : (x == y) with
    | true => rw [hb] at h; cases h
    | false =>
      rw [hb] at h
      intro p hp
      rcases List.mem_cons.1 hp with rfl | hp
      · intro e; dsimp only at e; subst e; simp at hb
      · exact ih h p hp
theorem at_lookup {o : Oper} {ops : Array Oper} {rest : List Oper} {a : Act} {w : World} {Q : Exit → Act → World → Prop} {T : TypeId} {x y : Operand} {b : Bool} (_ : o.op = .lookup T x y b) (h : wpList Try.prog ops Q (o :: rest) a w) : wpList Try.prog ops Q (o :: rest) a w := h
theorem wl_look {o : Oper} {ops : Array Oper} {rest : List Oper} {a : Act} {w : World} {Q : Exit → Act → World → Prop} {T : TypeId} {x y : Operand} {m k r : Value} (hgd : o.guard = none) (ho : o.op = .lookup T x y true) (hx : a.eval x = m) (hy : a.eval y = k) (hr : (Instr.lookup T m k true).run Try.prog w = .ok r w) (h : wpList Try.prog ops Q rest (a.put o.dst r) w) : wpList Try.prog ops Q (o :: rest) a w := by
  refine wl_val hgd ?_ h
  unfold execOp
  simp [ho, hx, hy, hr]
set_option maxHeartbeats 3200000 in
theorem reckon_at {w : World} {mb : Nat} {E : List (Ky × Cd)} (hM : MapK w mb E) (hd : (E.map (·.1)).Nodup) (s : List UInt8) (a b : Vl) (hk : kok (a.f, b.f, s)) (hp : ∀ c, ((a.f, b.f, s), c) ∈ E → Pre c a b) :
    Calls Try.prog 25 #[.map (some mb), .string (bs s), vV a, vV b] w (Told w (rsV (rk E s a b))) := by
  have HC := hide (Cx.start w (fun _ => False))
  unfold rk
  cases hl : E.lookup (a.f, b.f, s) with
  | none =>
    dsimp only
    have hq := hM.no2 hk (look_none hl)
    unfold kyV at hq
    replace hq := hide hq
    unfold vV noR rsV
    clear hl hp hd hM hk
    go_enter Try.func25, Try.ntmps25
    go_wp2_with (first | (refine at_box 23 rfl ?_; refine wl_box rfl 23 _ rfl _ rfl HC.out ?_; intro b w' hn hc; (replace HC := hide hc; clear hc)) | (refine at_alloc 23 rfl ?_; refine wl_alloc rfl 23 rfl _ zV HC.out ?_; intro b w' hn hc; (replace HC := hide hc; clear hc)) | (refine at_load 3 rfl ?_; refine wl_load_c rfl 3 _ rfl tcI rfl HC.out (by repeat (first | exact List.Mem.head _ | apply List.Mem.tail)) (by repeat (first | exact GetS.cons _ (GetS.nil _) | apply GetS.skip)) ?_) | (refine at_lookup rfl ?_; refine wl_look rfl rfl rfl rfl (hq.out _ HC.out.grown) ?_) | (refine at_store 23 rfl ?_; refine wl_store rfl 23 _ _ rfl rfl rfl tyV.sz rfl HC.out (by repeat (first | exact List.Mem.head _ | apply List.Mem.tail)) (by exact PutS.all _ _ rfl) (by repeat (first | exact Upd.here _ _ _ | apply Upd.there)) ?_; intro w' hc; (replace HC := hide hc; clear hc)))
    (refine ret_two Try.results25 rfl rfl HC.out (by repeat (first | exact List.Mem.head _ | apply List.Mem.tail)) tyV rfl ?_; exact ⟨rfl, HC.out.grown⟩)
  | some c =>
    dsimp only
    obtain ⟨v, hv, hq⟩ := hM.yes2 hd hk (look_mem hl)
    have hD := does hv (hp c (look_mem hl))
    unfold kyV at hq
    replace hq := hide hq
    obtain ⟨⟨⟨rf, rn, rt⟩, re⟩, hI⟩ : ∃ R, ev c a b = R := ⟨_, rfl⟩
    rw [hI] at hD ⊢
    rcases hD with ⟨F, cb, rfl, hcf, hG⟩ | ⟨F, rfl, hcf, hG⟩
    · unfold Cbv at hcf
      unfold rsV at *
      unfold vV at *
      unfold clV at *
      try dsimp only at hG
      replace hG := hide hG
      clear hl hp hd hM hk hv hI
      go_enter Try.func25, Try.ntmps25
      go_wp2_with (first | (refine at_box 23 rfl ?_; refine wl_box rfl 23 _ rfl _ rfl HC.out ?_; intro b w' hn hc; (replace HC := hide hc; clear hc)) | (refine at_alloc 23 rfl ?_; refine wl_alloc rfl 23 rfl _ zV HC.out ?_; intro b w' hn hc; (replace HC := hide hc; clear hc)) | (refine at_load 3 rfl ?_; refine wl_load_c rfl 3 _ rfl tcI rfl HC.out (by repeat (first | exact List.Mem.head _ | apply List.Mem.tail)) (by repeat (first | exact GetS.cons _ (GetS.nil _) | apply GetS.skip)) ?_) | (refine at_load 23 rfl ?_; refine wl_load_s rfl 23 _ rfl tyV rfl HC.out (by repeat (first | exact List.Mem.head _ | apply List.Mem.tail)) (GetS.all _) rfl ?_) | (refine at_lookup rfl ?_; refine wl_look rfl rfl rfl rfl (hq.out _ HC.out.grown) ?_) | (refine (hG.out _ HC.out.grown).mono ?_; rintro e w2 ⟨rfl, hg⟩; (replace HC := hide (HC.out.g hg); clear hg)) | (refine at_store 23 rfl ?_; refine wl_store rfl 23 _ _ rfl rfl rfl tyV.sz rfl HC.out (by repeat (first | exact List.Mem.head _ | apply List.Mem.tail)) (by exact PutS.all _ _ rfl) (by repeat (first | exact Upd.here _ _ _ | apply Upd.there)) ?_; intro w' hc; (replace HC := hide hc; clear hc)))
      (refine ret_two Try.results25 rfl rfl HC.out (by repeat (first | exact List.Mem.head _ | apply List.Mem.tail)) tyV rfl ?_; exact ⟨rfl, HC.out.grown⟩)
    · unfold Cbv at hcf
      unfold rsV at *
      unfold vV at *
      unfold fnV at *
      try dsimp only at hG
      replace hG := hide hG
      clear hl hp hd hM hk hv hI
      go_enter Try.func25, Try.ntmps25
      go_wp2_with (first | (refine at_box 23 rfl ?_; refine wl_box rfl 23 _ rfl _ rfl HC.out ?_; intro b w' hn hc; (replace HC := hide hc; clear hc)) | (refine at_alloc 23 rfl ?_; refine wl_alloc rfl 23 rfl _ zV HC.out ?_; intro b w' hn hc; (replace HC := hide hc; clear hc)) | (refine at_load 3 rfl ?_; refine wl_load_c rfl 3 _ rfl tcI rfl HC.out (by repeat (first | exact List.Mem.head _ | apply List.Mem.tail)) (by repeat (first | exact GetS.cons _ (GetS.nil _) | apply GetS.skip)) ?_) | (refine at_load 23 rfl ?_; refine wl_load_s rfl 23 _ rfl tyV rfl HC.out (by repeat (first | exact List.Mem.head _ | apply List.Mem.tail)) (GetS.all _) rfl ?_) | (refine at_lookup rfl ?_; refine wl_look rfl rfl rfl rfl (hq.out _ HC.out.grown) ?_) | (refine (hG.out _ HC.out.grown).mono ?_; rintro e w2 ⟨rfl, hg⟩; (replace HC := hide (HC.out.g hg); clear hg)) | (refine at_store 23 rfl ?_; refine wl_store rfl 23 _ _ rfl rfl rfl tyV.sz rfl HC.out (by repeat (first | exact List.Mem.head _ | apply List.Mem.tail)) (by exact PutS.all _ _ rfl) (by repeat (first | exact Upd.here _ _ _ | apply Upd.there)) ?_; intro w' hc; (replace HC := hide hc; clear hc)))
      (refine ret_two Try.results25 rfl rfl HC.out (by repeat (first | exact List.Mem.head _ | apply List.Mem.tail)) tyV rfl ?_; exact ⟨rfl, HC.out.grown⟩)
end Go.Proofs.Ytgdpcdpkaaefbaa.Cn
