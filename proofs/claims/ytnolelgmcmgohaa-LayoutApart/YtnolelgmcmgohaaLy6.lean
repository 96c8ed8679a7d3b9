/-
  Layout: package layout's search for a field.
-/
import Derived.Test.YtnolelgmcmgohaaY8
import Derived.Test.YtnolelgmcmgohaaTp3
namespace Go.Proofs.Ytnolelgmcmgohaa.Ty
open Go.RowKit hiding Hid
open Go.Proofs.Ytnolelgmcmgohaa.Tx Go.Proofs.Ytnolelgmcmgohaa.Lx Go.Proofs.Ytnolelgmcmgohaa.Tr
set_option linter.unusedVariables false
set_option linter.unusedSimpArgs false
set_option maxRecDepth 100000

/- What a search that goes on at a place comes to. -/
def FdI (T : List Tt) (s : Int → Int) (nm : Txt) (p : Option (Int × Int)) (j : Nat) : Prop := ∀ x, T[j]? = some x → (x.fm = 9 → ∃ n, Lv T n j ∧ fndB T s nm n j = p) ∧ (x.fm ≠ 9 → p = none)
def ansV (p : Option (Int × Int)) : Value := match p with
  | some (a, t) => .tuple #[.int .i64 a, .int .i64 t, .bool true]
  | none => .tuple #[.int .i64 0, .int .i64 0, .bool false]
theorem fndB_hit {T : List Tt} {s : Int → Int} {nm : Txt} {n j : Nat} {x : Tt} {p : Int × Int} (hx : T[j]? = some x) (h : fndL s nm (s x.ba) x.fl = some p) : fndB T s nm n j = some p := by
  cases n <;> (unfold fndB; rw [hx]; simp only [h])
theorem fndB_end {T : List Tt} {s : Int → Int} {nm : Txt} {j : Nat} {x : Tt} (hx : T[j]? = some x) (h : fndL s nm (s x.ba) x.fl = none) : fndB T s nm 0 j = none := by
  unfold fndB; rw [hx]; simp only [h]
theorem fndB_go {T : List Tt} {s : Int → Int} {nm : Txt} {n j : Nat} {x : Tt} (hx : T[j]? = some x) (h : fndL s nm (s x.ba) x.fl = none) : fndB T s nm (n + 1) j = fndB T s nm n x.ba.toNat := by
  conv => lhs; unfold fndB
  rw [hx]; simp only [h]
/- From a record on to its base. -/
theorem fdI_next {T : List Tt} {s : Int → Int} {nm : Txt} {p : Option (Int × Int)} {j : Nat} {x : Tt} (hb : RecB T) (h0 : ∀ y, T[0]? = some y → y.fm ≠ 9) (hx : T[j]? = some x) (hf : x.fm = 9) (h : FdI T s nm p j) (hn : fndL s nm (s x.ba) x.fl = none) : FdI T s nm p x.ba.toNat := by
  obtain ⟨n, hl, hp⟩ := (h x hx).1 hf
  intro y hy
  cases n with
  | zero =>
    obtain ⟨x', hx', e⟩ := hl
    rw [hx] at hx'
    cases hx'
    rw [e] at hy ⊢
    rw [fndB_end hx hn] at hp
    exact ⟨fun h9 => absurd h9 (h0 y hy), fun _ => hp.symm⟩
  | succ n =>
    obtain ⟨x', hx', e, e0, hl⟩ := hl
    rw [hx] at hx'
    cases hx'
    rw [fndB_go hx hn] at hp
    obtain ⟨_, y', hy', h9⟩ := fm_at (hb j x hx hf e) (by decide)
    rw [hy] at hy'
    cases hy'
    exact ⟨fun _ => ⟨n, hl, hp⟩, fun h => absurd h9 h⟩
theorem none_more {nm : Txt} {l : List Fl} {i : Nat} {f : Fl} (hf : l[i]? = some f) (h : ∀ g ∈ l.take i, g.n ≠ nm) (hn : f.n ≠ nm) : ∀ g ∈ l.take (i + 1), g.n ≠ nm := fun g hg => by
  rw [List.take_add_one, hf] at hg
  rcases List.mem_append.1 hg with hg | hg
  · exact h g hg
  · simp at hg
    subst hg
    exact hn
theorem cells_on {w0 W : World} {ad B : Addr} {cs : List Value} (hcl : ∀ j u, cs[j]? = some u → w0.cell? (B.add j) = some u) (hg : w0.grownBy W none) : ∀ j u, cs[j]? = some u → W.cell? (B.add j) = some u := fun j u hu => hg.cell (hcl j u hu) (by simp)
section
variable {w0 : World} {ad : Addr} {cp : Nat} {T : List Tt} {s : Int → Int} {b : Nat}
set_option maxHeartbeats 16000000 in
theorem find_at {r : Nat → Nat} (hB : Rb T s r) (hRB : RecB T) (h0 : ∀ y, T[0]? = some y → y.fm ≠ 9) {ks : List Bool} {zs : List Int} {w : World} (H : Rk w0 (some ad) cp T s b ks zs w) {a : Nat} (ha : a < T.length) (nm : Txt) (hnm : nm.length ≤ lim) {p : Option (Int × Int)} (hI : FdI T s nm p a) :
    Calls Try.prog 52 #[.pointer (some ⟨b, 0, none⟩), .int .i64 a, .string (bs nm)] w (RkO w0 (some ad) cp T s b w (ansV p)) := by
  have HRk := hide H
  have HBd := hide hB
  have HZ := hide (fun k => size_all (w0 := w0) (o := some ad) (cp := cp) (b := b) hB k)
  have HRB := hide hRB
  have H00 := hide h0
  have HC := hide (H.cx (fun _ => False))
  have HS := hide H
  have HI := hide hI
  have hi := hB.hi
  have kT : (T.length : Int) ≤ 256 := by omega
  clear H hB hRB h0 hI hi
  go_enter Try.func52, Try.ntmps52
  go_wp2
  go_loopw [1] (fun av W => ∃ (j : Nat) (ks1 : List Bool) (zs1 : List Int), j < T.length ∧ av = .int .i64 j ∧ Hid (FdI T s nm p j) ∧ Hid (Rk w0 (some ad) cp T s b ks1 zs1 W) ∧ Hid (Cx w (fun _ => False) (some b) [⟨b, rkC (some ad) T.length cp ks1 zs1, 60⟩] [] [] W)) (fun av _ => r (intOf av).toNat)
  case atStart => exact ⟨a, ks, zs, ha, rfl, HI, HS, HC⟩
  case round =>
    clear HC HS HI
    obtain ⟨a, ks1, zs1, ha, rfl, HI, HS, HC⟩ := hrel
    have k1 : (a : Int) < T.length := by omega
    obtain ⟨x, hx⟩ : ∃ x, T[a]? = some x := ⟨T[a], List.getElem?_eq_getElem ha⟩
    obtain ⟨ad', la, e1, e2, hcl, hla⟩ := HRk.out.tab.at hx
    cases e1
    obtain ⟨B, hB2⟩ : ∃ B, ad.add (a * 10) = B := ⟨_, rfl⟩
    rw [hB2] at hcl
    have cH := rk_head HS.out
    have c0 := (ten_of (cells_on (ad := ad) hcl HS.out.gr)).1
    have bl := block_lt_of_cell c0
    have bl0 := block_lt_of_cell cH
    rw [e2] at c0
    by_cases f9 : x.fm = 9
    · obtain ⟨⟨fm, md, nm2, ln, el, ba, fl, pm, rs, ds⟩, fo, fc, po, pc⟩ := la
      dsimp only at e2
      subst e2
      dsimp only at f9 c0
      subst f9
      have hp := flsI (ba := ba) (ds := ds) (ln := ln) (el := el) (rs := rs) (md := md) (nm := nm2) (fl := fl) (pm := pm) rfl
      have hba := HBd.out.inp a _ hx ba (by rw [hp]; simp)
      have hbr := HBd.out.rk a _ hx ba (by rw [hp]; simp)
      have HFs := hide (fun t (ht : t ∈ fl.map (·.t)) => And.intro (HBd.out.inp a _ hx t (by rw [hp]; exact List.mem_append.2 (.inl ht))) (HBd.out.rk a _ hx t (by rw [hp]; exact List.mem_append.2 (.inl ht))))
      obtain ⟨q, rfl⟩ := Int.eq_ofNat_of_zero_le hba.1
      rw [Int.toNat_natCast] at hbr
      have HBa := hide (And.intro (rfl : (q : Int) = (q : Int)) (And.intro (show q < T.length by omega) (show r q < r a by omega)))
      have h64 := HBd.out.fl a _ hx
      have hla1 := hla.fl
      have hfn := hla.sm.fn
      dsimp only at hla1 h64 hfn
      have HFn := hide hfn
      have k0 : (fl.length : Int) ≤ 64 := by omega
      have HO := hide hla1
      have HX := hide hx
      have hEL0 := cells_on (ad := ad) hcl (grown_refl w0 _)
      unfold laC at hEL0
      dsimp only at hEL0
      have HEL := hide (fun W (hW : w0.grownBy W none) => cells_on (ad := ad) hEL0 hW)
      obtain ⟨E0, hE0⟩ : ∃ e, s (q : Int) = e := ⟨_, rfl⟩
      have e00 : 0 ≤ E0 := by rw [← hE0]; exact HBd.out.hs.lo _
      have e01 : E0 ≤ 32769 := by rw [← hE0]; exact HBd.out.hs.hi _
      have hall : ∀ i, layE s E0 ((fl.map (·.t)).take i) ≤ 3000000 := fun i => by
        have h1 := layE_take_le HBd.out.hs.lo (fl.map (·.t)) i E0
        have h2 := layE_max HBd.out.hs.hi (fl.map (·.t)) E0
        rw [List.length_map] at h2
        have : (32772 : Int) * fl.length ≤ 32772 * 64 := by omega
        omega
      have hnn : ∀ i, 0 ≤ layE s E0 ((fl.map (·.t)).take i) := fun i => by
        have := layE_le HBd.out.hs.lo ((fl.map (·.t)).take i) E0
        omega
      have HAl := hide hall
      have HNn := hide hnn
      have HE0 := hide hE0
      clear hx hp hla hla1 hba hbr h64 hE0 hall hnn hcl hEL0 hfn
      have HRa := hide (show r q < r a from HBa.out.2.2)
      have HHa := hide ha
      clear ha
      go_wp2_with (first | (refine at_load 32 rfl ?_; refine wl_run rfl 32 _ rfl rfl (run_load_s tyT B [.int .i64 9, .string (bs md), .string (bs nm2), .int .i64 ln, .int .i64 el, .int .i64 (q : Int), .slice fo fl.length fc, .slice po pm.length pc, .int .i64 rs, .int .i64 ds] rfl (HEL.out _ (grown_then HRk.out.gr HC.out.grown (fun y e => by cases e; exact .inr HRk.out.new)))) ?_) | (refine at_alloc 32 rfl ?_; refine wl_alloc rfl 32 rfl _ zTy HC.out ?_; intro bx w' hn hc; (replace HC := hide hc; clear hc)) | (refine at_store 32 rfl ?_; refine wl_store rfl 32 _ _ rfl rfl rfl tyT.sz rfl HC.out (by repeat (first | exact List.Mem.head _ | apply List.Mem.tail)) (by exact PutS.all _ _ rfl) (by repeat (first | exact Upd.here _ _ _ | apply Upd.there)) ?_; intro w' hc; (replace HC := hide hc; clear hc)) | (refine at_load 32 rfl ?_; refine wl_load_s rfl 32 _ rfl tyT rfl HC.out (by repeat (first | exact List.Mem.head _ | apply List.Mem.tail)) (GetS.all _) rfl ?_) | (go_at_call 83; refine (first_at (la := ⟨⟨9, md, nm2, ln, el, (q : Int), fl, pm, rs, ds⟩, fo, fc, po, pc⟩) (HZ.out _) (HRk.out.next (ks' := ks1) (zs' := zs1) HC.out.grown (HC.out.loc ⟨b, rkC (some ad) T.length cp ks1 zs1, 60⟩ (by repeat (first | exact List.Mem.head _ | apply List.Mem.tail))) HS.out.kl HS.out.zl HS.out.ok) HBa.out.1 HBa.out.2.1 HBa.out.2.2).mono ?_; dsimp only; rw [HE0.out]; rintro e w2 ⟨ks2, zs2, rfl, hg, hs⟩; replace HC := hide (HC.out.callX hg (by repeat (first | exact List.Mem.head _ | apply List.Mem.tail)) hs.blk (by repeat (first | exact Upd.here _ _ _ | apply Upd.there))); replace HS := hide hs; clear hg hs) | (refine at_load 29 rfl ?_; refine wl_load_c rfl 29 _ rfl tcLF rfl HC.out (by repeat (first | exact List.Mem.head _ | apply List.Mem.tail)) (by repeat (first | exact GetS.cons _ (GetS.nil _) | apply GetS.skip)) ?_))
      clear cH c0 bl bl0
      go_loopw [10, 37] (fun ev iv W => ∃ (i : Nat) (E : Int) (ks1 : List Bool) (zs1 : List Int), i ≤ fl.length ∧ iv = .int .i64 i ∧ ev = .int .i64 E ∧ Hid (E = layE s E0 ((fl.map (·.t)).take i)) ∧ Hid (∀ g ∈ fl.take i, g.n ≠ nm) ∧ Hid (Rk w0 (some ad) cp T s b ks1 zs1 W) ∧ Hid (Cx w (fun _ => False) (some b) [⟨bx, [.int .i64 9, .string (bs md), .string (bs nm2), .int .i64 ln, .int .i64 el, .int .i64 (q : Int), .slice fo fl.length fc, .slice po pm.length pc, .int .i64 rs, .int .i64 ds], 32⟩, ⟨b, rkC (some ad) T.length cp ks1 zs1, 60⟩] [] [] W)) (fun _ iv _ => fl.length - (intOf iv).toNat)
      case atStart => exact ⟨0, E0, ks2, zs2, by omega, rfl, rfl, hide rfl, hide (by simp), HS, HC⟩
      case round =>
        clear HC HS
        obtain ⟨i, E, ks1, zs1, hi, rfl, rfl, HE, HNo, HS, HC⟩ := hrel
        by_cases hlt : i < fl.length
        · have j1 : (i : Int) < fl.length := by omega
          obtain ⟨⟨n, xx, t⟩, hxi⟩ : ∃ p, fl[i]? = some p := ⟨fl[i], List.getElem?_eq_getElem hlt⟩
          have ht := fl_t hxi
          obtain ⟨q0, q1⟩ := HFs.out t (List.mem_of_getElem? ht)
          obtain ⟨t, rfl⟩ := Int.eq_ofNat_of_zero_le q0.1
          rw [Int.toNat_natCast] at q1
          have HJ := hide (show t < T.length by omega)
          have HR := hide q1
          obtain ⟨pd, rfl, hel⟩ := HO.out.el flC_len (by decide) hxi
          have HFl := hide (fun W (hW : w0.grownBy W none) j' u (hu : (flC ⟨n, xx, (t : Int)⟩)[j']? = some u) => hW.cell (hel j' u hu) (by simp))
          unfold flC at HFl
          dsimp only at HFl
          obtain ⟨B3, hB3⟩ : ∃ B, pd.add (i * 3) = B := ⟨_, rfl⟩
          rw [hB3] at HFl
          have hE0 : 0 ≤ E := by rw [HE.out]; exact HNn.out i
          have hE1 : E ≤ 100000000 := by rw [HE.out]; have := HAl.out i; omega
          obtain ⟨V1, hV1⟩ : ∃ v, atF E (t : Int) = v := ⟨_, rfl⟩
          obtain ⟨V2, hV2⟩ : ∃ v, V1 + s (t : Int) = v := ⟨_, rfl⟩
          have HN := hide hV1
          have HN2 := hide hV2
          have HNx := hide (show V2 = layE s E0 ((fl.map (·.t)).take (i + 1)) by rw [layE_take E0 ht, ← HE.out, hV1, hV2])
          have HXi := hide hxi
          clear hel hxi q0 q1 ht hV1 hV2
          by_cases hn : n = nm
          · subst hn
            have HP := hide (show p = some (V1, (t : Int)) by
              obtain ⟨m, hl, hp⟩ := (HI.out _ HX.out).1 rfl
              have h1 := fndL_hit (s := s) (e := s (q : Int)) HXi.out rfl HNo.out
              dsimp only at h1
              rw [HE0.out, List.map_take, ← HE.out, HN.out] at h1
              rw [← hp]
              exact fndB_hit HX.out (by dsimp only; rw [HE0.out]; exact h1))
            go_wp2_with (first | (refine at_load 48 rfl ?_; refine wl_run rfl 48 _ rfl rfl (run_load_s tyF B3 [.string (bs n), .bool xx, .int .i64 (t : Int)] rfl (HFl.out _ (grown_then HRk.out.gr HC.out.grown (fun y e => by cases e; exact .inr HRk.out.new)))) ?_) | (refine at_alloc 48 rfl ?_; refine wl_alloc rfl 48 rfl _ zF HC.out ?_; intro bf w' hn hc; (replace HC := hide hc; clear hc)) | ((refine at_store 48 rfl ?_; refine wl_store rfl 48 _ _ rfl rfl rfl tyF.sz rfl HC.out (by repeat (first | exact List.Mem.head _ | apply List.Mem.tail)) (by exact PutS.all _ _ rfl) (by repeat (first | exact Upd.here _ _ _ | apply Upd.there)) ?_; intro w' hc; (replace HC := hide hc; clear hc)); obtain ⟨d0, d1, d2⟩ := three_f HC.out) | (go_at_call 55; refine (lay_at (HZ.out _) (HRk.out.next (ks' := ks1) (zs' := zs1) HC.out.grown (HC.out.loc ⟨b, rkC (some ad) T.length cp ks1 zs1, 60⟩ (by repeat (first | exact List.Mem.head _ | apply List.Mem.tail))) HS.out.kl HS.out.zl HS.out.ok) HBd.out.hs.lo HBd.out.hs.hi HJ.out HR.out E hE0 hE1).mono ?_; rw [HN.out, HN2.out]; rintro e w2 ⟨ks', zs', rfl, hg, hs⟩; replace HC := hide (HC.out.callX hg (by repeat (first | exact List.Mem.head _ | apply List.Mem.tail)) hs.blk (by repeat (first | exact Upd.here _ _ _ | apply Upd.there))); have HQ := hide hs; clear hg hs; clear d0 d1 d2; obtain ⟨d0, d1, d2⟩ := three_f HC.out))
            go_quiet (fail)
            go_wp2
            refine bodyPost_ret (v := .tuple #[.int .i64 V1, .int .i64 (t : Int), .bool true]) (by simp [results, Try.results52, go_sem]) rfl ?_
            have hgd := drewN_g w2 nq
            exact ⟨ks', zs', by rw [HP.out]; rfl, grown_then HC.out.grown hgd (fun y e => by cases e), HQ.out.stay (grown_then (grown_refl _ _) hgd (fun y e => by cases e)) (by exact HQ.out.blk)⟩
          · have b1 : ((bs n).toList == (bs nm).toList) = false := by rw [bs_toList, bs_toList]; simpa using hn
            have HNo2 := hide (none_more HXi.out HNo.out hn)
            clear hn
            go_wp2_with (first | (refine at_load 48 rfl ?_; refine wl_run rfl 48 _ rfl rfl (run_load_s tyF B3 [.string (bs n), .bool xx, .int .i64 (t : Int)] rfl (HFl.out _ (grown_then HRk.out.gr HC.out.grown (fun y e => by cases e; exact .inr HRk.out.new)))) ?_) | (refine at_alloc 48 rfl ?_; refine wl_alloc rfl 48 rfl _ zF HC.out ?_; intro bf w' hn hc; (replace HC := hide hc; clear hc)) | ((refine at_store 48 rfl ?_; refine wl_store rfl 48 _ _ rfl rfl rfl tyF.sz rfl HC.out (by repeat (first | exact List.Mem.head _ | apply List.Mem.tail)) (by exact PutS.all _ _ rfl) (by repeat (first | exact Upd.here _ _ _ | apply Upd.there)) ?_; intro w' hc; (replace HC := hide hc; clear hc)); obtain ⟨d0, d1, d2⟩ := three_f HC.out) | (go_at_call 55; refine (lay_at (HZ.out _) (HRk.out.next (ks' := ks1) (zs' := zs1) HC.out.grown (HC.out.loc ⟨b, rkC (some ad) T.length cp ks1 zs1, 60⟩ (by repeat (first | exact List.Mem.head _ | apply List.Mem.tail))) HS.out.kl HS.out.zl HS.out.ok) HBd.out.hs.lo HBd.out.hs.hi HJ.out HR.out E hE0 hE1).mono ?_; rw [HN.out, HN2.out]; rintro e w2 ⟨ks', zs', rfl, hg, hs⟩; replace HC := hide (HC.out.callX hg (by repeat (first | exact List.Mem.head _ | apply List.Mem.tail)) hs.blk (by repeat (first | exact Upd.here _ _ _ | apply Upd.there))); have HQ := hide hs; clear hg hs; clear d0 d1 d2; obtain ⟨d0, d1, d2⟩ := three_f HC.out))
            exact ⟨⟨i + 1, V2, ks', zs', by omega, by go_num, rfl, HNx, HNo2, HQ, hide HC.out.drop⟩, by simp [intOf]; omega⟩
        · have HIe := hide (show i = fl.length by omega)
          have q1 : ¬ (i : Int) < fl.length := by omega
          clear hlt
          have HNn2 := hide (show fndL s nm (s (q : Int)) fl = none from fndL_none (fun f hf => HNo.out f (by rw [HIe.out, List.take_of_length_le (Nat.le_refl _)]; exact hf)))
          have HI2 := hide (fdI_next HRB.out H00.out HX.out rfl HI.out HNn2.out)
          dsimp only at HI2
          rw [Int.toNat_natCast] at HI2
          go_wp2_with (first | (refine at_load 3 rfl ?_; refine wl_load_c rfl 3 _ rfl tcI rfl HC.out (by repeat (first | exact List.Mem.head _ | apply List.Mem.tail)) (by repeat (first | exact GetS.cons _ (GetS.nil _) | apply GetS.skip)) ?_))
          exact ⟨⟨q, ks1, zs1, HBa.out.2.1, rfl, HI2, HS, hide HC.out.drop⟩, by have := HRa.out; simp [intOf]; omega⟩
    · have b1 : (x.fm == 9) = false := by simpa using f9
      have HP := hide ((HI.out x hx).2 f9)
      obtain ⟨f, hf⟩ : ∃ f, x.fm = f := ⟨_, rfl⟩
      rw [hf] at b1 c0
      clear hx e2 hcl hla f9 hf
      go_wp2
      refine bodyPost_ret (v := .tuple #[.int .i64 0, .int .i64 0, .bool false]) (by simp [results, Try.results52, go_sem]) rfl ?_
      exact ⟨ks1, zs1, by rw [HP.out]; rfl, HC.out.grown, HS.out⟩
end
end Go.Proofs.Ytnolelgmcmgohaa.Ty
