/-
  Package consts: Set, of pairs at an address.
-/
import Derived.Test.YtgdpcdpkaaefbaaCn17
namespace Go.Proofs.Ytgdpcdpkaaefbaa.Cn
open Go.RowKit hiding Hid
open Go.Maps Go.Proofs.Ytgdpcdpkaaefbaa.Tx Go.Proofs.Ytgdpcdpkaaefbaa.Lx Go.Proofs.Ytgdpcdpkaaefbaa.Mp Go.Proofs.Ytgdpcdpkaaefbaa.Bits Go.Proofs.Ytgdpcdpkaaefbaa.Tr Go.Proofs.Ytgdpcdpkaaefbaa.Bm
set_option linter.unusedVariables false
set_option linter.unusedSimpArgs false
set_option maxRecDepth 100000

/- Cells that lie at an address; things of so many cells each. -/
def Cls (w : World) (o : Option Addr) (xs : List Value) : Prop := ∀ j u, xs[j]? = some u → ∃ a, o = some a ∧ w.cell? (a.add j) = some u
theorem Cls.kept {w w' : World} {o : Option Addr} {xs : List Value} (h : Cls w o xs) (hg : w.grownBy w' none) : Cls w' o xs := fun j u hu => by
  obtain ⟨a, e, hc⟩ := h j u hu
  exact ⟨a, e, hg.cell hc (by simp)⟩
theorem add_add (a : Addr) (x y : Nat) : (a.add x).add y = a.add (x + y) := by
  unfold Addr.add
  by_cases hx : x = 0 <;> by_cases hy : y = 0 <;> simp [hx, hy, Nat.add_assoc]
theorem flat_at {α : Type} {enc : α → List Value} {k : Nat} (hk : ∀ x, (enc x).length = k) : ∀ (l : List α) (i : Nat) (x : α), l[i]? = some x → ∀ j u, (enc x)[j]? = some u → (l.flatMap enc)[i * k + j]? = some u
  | [], i, x, h => by simp at h
  | y :: l, 0, x, h => fun j u hu => by
    simp at h
    subst h
    have := (List.getElem?_eq_some_iff.1 hu).1
    rw [List.flatMap_cons, List.getElem?_append_left (by omega)]
    simpa using hu
  | y :: l, i + 1, x, h => fun j u hu => by
    simp at h
    have ih := flat_at hk l i x h j u hu
    rw [List.flatMap_cons, List.getElem?_append_right (by rw [hk, Nat.succ_mul]; omega), hk, show (i + 1) * k + j - k = i * k + j by rw [Nat.succ_mul]; omega]
    exact ih
theorem Cls.el {α : Type} {enc : α → List Value} {k : Nat} (hk : ∀ x, (enc x).length = k) (h0 : 0 < k) {w : World} {o : Option Addr} {l : List α} (h : Cls w o (l.flatMap enc)) {i : Nat} {x : α} (hx : l[i]? = some x) : ∃ a, o = some a ∧ ∀ j u, (enc x)[j]? = some u → w.cell? ((a.add (i * k)).add j) = some u := by
  have h1 := fun j u hu => h (i * k + j) u (flat_at hk l i x hx j u hu)
  obtain ⟨u0, hu0⟩ : ∃ u, (enc x)[0]? = some u := ⟨(enc x)[0]'(by rw [hk]; exact h0), List.getElem?_eq_getElem _⟩
  obtain ⟨a, e, _⟩ := h1 0 u0 hu0
  refine ⟨a, e, fun j u hu => ?_⟩
  obtain ⟨b, e', hc⟩ := h1 j u hu
  rw [e] at e'
  cases e'
  rw [add_add]
  exact hc
abbrev Pr := Int × Int
def prC (p : Pr) : List Value := [.int .i64 p.1, .int .i64 p.2]
theorem prC_len (p : Pr) : (prC p).length = 2 := rfl
theorem vC_len (v : Vl) : (vC v).length = 3 := rfl
theorem tyP : TyS Try.prog 49 2 := tyS_of Try.underlying49 rfl (by kernel_rfl)
theorem zP : (Try.prog.info? 49).bind (fun i => i.zero.map (·.cells)) = some ([.int .i64 0, .int .i64 0] : List Value).toArray := by kernel_rfl
/- A set of pairs. -/
def setF : Int → List Pr → Rs
  | w, [] => setR w
  | w, p :: l => if wiB p.1 31 = true ∧ wiB p.2 31 = true then setF (putI w p.1 (p.2 - p.1 + 1) 4294967295) l else (Vl.z, 91)
def setP (l : List Pr) : Rs := setF 0 l
theorem setF_cons {x y : Int} (h1 : wiB x 31 = true) (h2 : wiB y 31 = true) (w : Int) (l : List Pr) : setF w ((x, y) :: l) = setF (putI w x (y - x + 1) 4294967295) l := if_pos ⟨h1, h2⟩
theorem setF_no1 {x : Int} (h1 : wiB x 31 = false) (w y : Int) (l : List Pr) : setF w ((x, y) :: l) = (Vl.z, 91) := if_neg (by simp [h1])
theorem setF_no2 {y : Int} (h1 : wiB y 31 = false) (w x : Int) (l : List Pr) : setF w ((x, y) :: l) = (Vl.z, 91) := if_neg (by simp [h1])
theorem wiB_31 {x : Int} (h : wiB x 31 = true) : 0 ≤ x ∧ x ≤ 31 := by simpa [wiB] using h
theorem pairf {w0 w : World} {A : Nat → Prop} {X : Option Nat} {L : List Lc} {Rs : List Rw} {Ts : List (List Dt × List Value)} {b : Nat} {u0 u1 : Value} {t : TypeId} (H : Cx w0 A X (⟨b, [u0, u1], t⟩ :: L) Rs Ts w) : w.cell? ⟨b, 0, none⟩ = some u0 ∧ w.cell? ⟨b, 1, none⟩ = some u1 :=
  ⟨cell_of_row _ _ _ _ _ _ (H.loc _ (.head _)), cell_of_row _ _ _ _ _ _ (H.loc _ (.head _))⟩
set_option maxHeartbeats 6400000 in
theorem pset_at {w : World} {o : Option Addr} {cp : Nat} {l : List Pr} (hl : l.length ≤ 1000000) (h : Cls w o (l.flatMap prC)) : Calls Try.prog 21 #[.slice o l.length cp] w (Told w (rsV (setP l))) := by
  have HC := hide (Cx.start w (fun _ => False))
  have HO := hide h
  have HS := hide True.intro
  have k1 : (l.length : Int) ≤ 1000000 := by omega
  clear h hl
  go_enter Try.func21, Try.ntmps21
  go_wp2_with (first | (refine at_alloc 23 rfl ?_; refine wl_alloc rfl 23 rfl _ zV HC.out ?_; intro br w' hn hc; (replace HC := hide hc; clear hc)))
  go_loopw [4, 9] (fun sv iv W => ∃ (i : Nat) (x : Int), i ≤ l.length ∧ iv = .int .i64 i ∧ sv = .int .u32 x ∧ Hid (0 ≤ x ∧ x < 4294967296) ∧ Hid (setP l = setF x (l.drop i)) ∧ Hid (Cx w (fun _ => False) none [⟨br, [.int .i64 0, .int .i64 0, .string (bs [])], 23⟩] [] [] W)) (fun _ iv _ => l.length - (intOf iv).toNat)
  case atStart => exact ⟨0, 0, by omega, rfl, rfl, hide (by omega), hide rfl, HC⟩
  case round =>
    clear HC
    obtain ⟨i, X, hi, rfl, rfl, HXR, HE, HC⟩ := hrel
    by_cases hlt : i < l.length
    · have j1 : (i : Int) < l.length := by omega
      obtain ⟨⟨x, y⟩, hx⟩ : ∃ p, l[i]? = some p := ⟨l[i], List.getElem?_eq_getElem hlt⟩
      have hdr : l.drop i = (x, y) :: l.drop (i + 1) := by
        rw [List.drop_eq_getElem_cons hlt]
        rw [List.getElem?_eq_getElem hlt] at hx
        injection hx with hx
        rw [hx]
      have HDR := hide hdr
      obtain ⟨ad, rfl, hel⟩ := HO.out.el prC_len (by decide) hx
      have HEL := hide (fun W (hW : w.grownBy W none) j u (hu : (prC (x, y))[j]? = some u) => hW.cell (hel j u hu) (by simp))
      unfold prC at HEL
      dsimp only at HEL
      obtain ⟨B, hB⟩ : ∃ B, ad.add (i * 2) = B := ⟨_, rfl⟩
      rw [hB] at HEL
      have M1 := True.intro
      clear hel hx hdr
      cases hw1 : wiB x 31 with
      | false =>
        have HW1 := hide hw1
        clear hw1
        go_wp2_with (first | (refine at_alloc 23 rfl ?_; refine wl_alloc rfl 23 rfl _ zV HC.out ?_; intro b w' hn hc; (replace HC := hide hc; clear hc)) | (refine at_alloc 49 rfl ?_; refine wl_alloc rfl 49 rfl _ zP HC.out ?_; intro b w' hn hc; (replace HC := hide hc; clear hc)) | (refine at_load 49 rfl ?_; refine wl_run rfl 49 _ rfl rfl (run_load_s tyP _ [.int .i64 x, .int .i64 y] rfl (HEL.out _ HC.out.grown)) ?_) | (refine at_store 49 rfl ?_; refine wl_store rfl 49 _ _ rfl rfl rfl tyP.sz rfl HC.out (by repeat (first | exact List.Mem.head _ | apply List.Mem.tail)) (by exact PutS.all _ _ rfl) (by repeat (first | exact Upd.here _ _ _ | apply Upd.there)) ?_; intro w' hc; (replace HC := hide hc; clear hc)) | (refine at_load 3 rfl ?_; refine wl_load_c rfl 3 _ rfl tcI rfl HC.out (by repeat (first | exact List.Mem.head _ | apply List.Mem.tail)) (by repeat (first | exact GetS.cons _ (GetS.nil _) | apply GetS.skip)) ?_) | (clear M1; go_at_call 49; refine (within_at _ _ _).mono ?_; rw [HW1.out]; rintro e w2 ⟨rfl, rfl⟩; obtain ⟨c0, c1⟩ := pairf HC.out) | (go_at_call 49; refine (within_at _ _ _).mono ?_; rw [HW2.out]; rintro e w2 ⟨rfl, rfl⟩; clear c0 c1) | (go_at_call 50; refine (put_any _ _ _ _ _ HXR.out.1 HXR.out.2 (by decide) (by decide) HP1.out).mono ?_; rintro e w2 ⟨rfl, rfl⟩) | (go_at_call 51; refine (HS.out _).mono ?_; rintro e w2 ⟨rfl, hg⟩; (replace HC := hide (HC.out.g hg); clear hg)) | (refine at_store 23 rfl ?_; refine wl_store rfl 23 _ _ rfl rfl rfl tyV.sz rfl HC.out (by repeat (first | exact List.Mem.head _ | apply List.Mem.tail)) (by exact PutS.all _ _ rfl) (by repeat (first | exact Upd.here _ _ _ | apply Upd.there)) ?_; intro w' hc; (replace HC := hide hc; clear hc)))
        refine ret_two Try.results21 rfl rfl HC.out (by repeat (first | exact List.Mem.head _ | apply List.Mem.tail)) tyV rfl ?_
        exact ⟨by rw [HE.out, HDR.out, setF_no1 HW1.out]; rfl, HC.out.grown⟩
      | true =>
        have HW1 := hide hw1
        cases hw2 : wiB y 31 with
        | false =>
          have HW2 := hide hw2
          clear hw1 hw2
          go_wp2_with (first | (refine at_alloc 23 rfl ?_; refine wl_alloc rfl 23 rfl _ zV HC.out ?_; intro b w' hn hc; (replace HC := hide hc; clear hc)) | (refine at_alloc 49 rfl ?_; refine wl_alloc rfl 49 rfl _ zP HC.out ?_; intro b w' hn hc; (replace HC := hide hc; clear hc)) | (refine at_load 49 rfl ?_; refine wl_run rfl 49 _ rfl rfl (run_load_s tyP _ [.int .i64 x, .int .i64 y] rfl (HEL.out _ HC.out.grown)) ?_) | (refine at_store 49 rfl ?_; refine wl_store rfl 49 _ _ rfl rfl rfl tyP.sz rfl HC.out (by repeat (first | exact List.Mem.head _ | apply List.Mem.tail)) (by exact PutS.all _ _ rfl) (by repeat (first | exact Upd.here _ _ _ | apply Upd.there)) ?_; intro w' hc; (replace HC := hide hc; clear hc)) | (refine at_load 3 rfl ?_; refine wl_load_c rfl 3 _ rfl tcI rfl HC.out (by repeat (first | exact List.Mem.head _ | apply List.Mem.tail)) (by repeat (first | exact GetS.cons _ (GetS.nil _) | apply GetS.skip)) ?_) | (clear M1; go_at_call 49; refine (within_at _ _ _).mono ?_; rw [HW1.out]; rintro e w2 ⟨rfl, rfl⟩; obtain ⟨c0, c1⟩ := pairf HC.out) | (go_at_call 49; refine (within_at _ _ _).mono ?_; rw [HW2.out]; rintro e w2 ⟨rfl, rfl⟩; clear c0 c1) | (go_at_call 50; refine (put_any _ _ _ _ _ HXR.out.1 HXR.out.2 (by decide) (by decide) HP1.out).mono ?_; rintro e w2 ⟨rfl, rfl⟩) | (go_at_call 51; refine (HS.out _).mono ?_; rintro e w2 ⟨rfl, hg⟩; (replace HC := hide (HC.out.g hg); clear hg)) | (refine at_store 23 rfl ?_; refine wl_store rfl 23 _ _ rfl rfl rfl tyV.sz rfl HC.out (by repeat (first | exact List.Mem.head _ | apply List.Mem.tail)) (by exact PutS.all _ _ rfl) (by repeat (first | exact Upd.here _ _ _ | apply Upd.there)) ?_; intro w' hc; (replace HC := hide hc; clear hc)))
          refine ret_two Try.results21 rfl rfl HC.out (by repeat (first | exact List.Mem.head _ | apply List.Mem.tail)) tyV rfl ?_
          exact ⟨by rw [HE.out, HDR.out, setF_no2 HW2.out]; rfl, HC.out.grown⟩
        | true =>
          have HW2 := hide hw2
          obtain ⟨p0, p1⟩ := wiB_31 hw1
          obtain ⟨q0, q1⟩ := wiB_31 hw2
          have HP1 := hide (show x ≤ 9223372036854775807 by omega)
          clear hw1 hw2
          go_wp2_with (first | (refine at_alloc 23 rfl ?_; refine wl_alloc rfl 23 rfl _ zV HC.out ?_; intro b w' hn hc; (replace HC := hide hc; clear hc)) | (refine at_alloc 49 rfl ?_; refine wl_alloc rfl 49 rfl _ zP HC.out ?_; intro b w' hn hc; (replace HC := hide hc; clear hc)) | (refine at_load 49 rfl ?_; refine wl_run rfl 49 _ rfl rfl (run_load_s tyP _ [.int .i64 x, .int .i64 y] rfl (HEL.out _ HC.out.grown)) ?_) | (refine at_store 49 rfl ?_; refine wl_store rfl 49 _ _ rfl rfl rfl tyP.sz rfl HC.out (by repeat (first | exact List.Mem.head _ | apply List.Mem.tail)) (by exact PutS.all _ _ rfl) (by repeat (first | exact Upd.here _ _ _ | apply Upd.there)) ?_; intro w' hc; (replace HC := hide hc; clear hc)) | (refine at_load 3 rfl ?_; refine wl_load_c rfl 3 _ rfl tcI rfl HC.out (by repeat (first | exact List.Mem.head _ | apply List.Mem.tail)) (by repeat (first | exact GetS.cons _ (GetS.nil _) | apply GetS.skip)) ?_) | (clear M1; go_at_call 49; refine (within_at _ _ _).mono ?_; rw [HW1.out]; rintro e w2 ⟨rfl, rfl⟩; obtain ⟨c0, c1⟩ := pairf HC.out) | (go_at_call 49; refine (within_at _ _ _).mono ?_; rw [HW2.out]; rintro e w2 ⟨rfl, rfl⟩; clear c0 c1) | (go_at_call 50; refine (put_any _ _ _ _ _ HXR.out.1 HXR.out.2 (by decide) (by decide) HP1.out).mono ?_; rintro e w2 ⟨rfl, rfl⟩) | (go_at_call 51; refine (HS.out _).mono ?_; rintro e w2 ⟨rfl, hg⟩; (replace HC := hide (HC.out.g hg); clear hg)) | (refine at_store 23 rfl ?_; refine wl_store rfl 23 _ _ rfl rfl rfl tyV.sz rfl HC.out (by repeat (first | exact List.Mem.head _ | apply List.Mem.tail)) (by exact PutS.all _ _ rfl) (by repeat (first | exact Upd.here _ _ _ | apply Upd.there)) ?_; intro w' hc; (replace HC := hide hc; clear hc)))
          go_roundw
          case rel => exact ⟨i + 1, _, by omega, by go_num, rfl, hide (put_range _ _ _ _ HXR.out.1 HXR.out.2), hide (by rw [HE.out, HDR.out, setF_cons HW1.out HW2.out]), hide HC.out.drop⟩
          case measure => simp [intOf]; omega
    · have j1 : ¬ (i : Int) < l.length := by omega
      have HR := hide (show setP l = setR X by rw [HE.out, List.drop_of_length_le (by omega)]; rfl)
      have HS := hide (fun W => set_at X HXR.out.1 HXR.out.2 W)
      unfold setR at HS
      unfold vV at HS
      dsimp only at HS
      go_wp2_with (first | (refine at_alloc 23 rfl ?_; refine wl_alloc rfl 23 rfl _ zV HC.out ?_; intro b w' hn hc; (replace HC := hide hc; clear hc)) | (refine at_alloc 49 rfl ?_; refine wl_alloc rfl 49 rfl _ zP HC.out ?_; intro b w' hn hc; (replace HC := hide hc; clear hc)) | (refine at_load 49 rfl ?_; refine wl_run rfl 49 _ rfl rfl (run_load_s tyP _ [.int .i64 x, .int .i64 y] rfl (HEL.out _ HC.out.grown)) ?_) | (refine at_store 49 rfl ?_; refine wl_store rfl 49 _ _ rfl rfl rfl tyP.sz rfl HC.out (by repeat (first | exact List.Mem.head _ | apply List.Mem.tail)) (by exact PutS.all _ _ rfl) (by repeat (first | exact Upd.here _ _ _ | apply Upd.there)) ?_; intro w' hc; (replace HC := hide hc; clear hc)) | (refine at_load 3 rfl ?_; refine wl_load_c rfl 3 _ rfl tcI rfl HC.out (by repeat (first | exact List.Mem.head _ | apply List.Mem.tail)) (by repeat (first | exact GetS.cons _ (GetS.nil _) | apply GetS.skip)) ?_) | (clear M1; go_at_call 49; refine (within_at _ _ _).mono ?_; rw [HW1.out]; rintro e w2 ⟨rfl, rfl⟩; obtain ⟨c0, c1⟩ := pairf HC.out) | (go_at_call 49; refine (within_at _ _ _).mono ?_; rw [HW2.out]; rintro e w2 ⟨rfl, rfl⟩; clear c0 c1) | (go_at_call 50; refine (put_any _ _ _ _ _ HXR.out.1 HXR.out.2 (by decide) (by decide) HP1.out).mono ?_; rintro e w2 ⟨rfl, rfl⟩) | (go_at_call 51; refine (HS.out _).mono ?_; rintro e w2 ⟨rfl, hg⟩; (replace HC := hide (HC.out.g hg); clear hg)) | (refine at_store 23 rfl ?_; refine wl_store rfl 23 _ _ rfl rfl rfl tyV.sz rfl HC.out (by repeat (first | exact List.Mem.head _ | apply List.Mem.tail)) (by exact PutS.all _ _ rfl) (by repeat (first | exact Upd.here _ _ _ | apply Upd.there)) ?_; intro w' hc; (replace HC := hide hc; clear hc)))
      refine ret_two Try.results21 rfl rfl HC.out (by repeat (first | exact List.Mem.head _ | apply List.Mem.tail)) tyV rfl ?_
      exact ⟨by rw [HR.out]; rfl, HC.out.grown⟩
end Go.Proofs.Ytgdpcdpkaaefbaa.Cn
