/-
  Layout: package layout's Size, Offset, Vars.
-/
import Derived.Test.YtnolelgmcmgohaaLy6
import Derived.Test.YtnolelgmcmgohaaTy18
import Derived.Test.YtnolelgmcmgohaaTg2
namespace Go.Proofs.Ytnolelgmcmgohaa.Tr
open Go.RowKit Go.Proofs.Ytnolelgmcmgohaa.Tx
theorem Cx.callL {w0 w w' : World} {A : Nat → Prop} {X : Option Nat} {L L' : List Lc} {Rs : List Rw} {Ts : List (List Dt × List Value)} {x : Nat} {cs cs' : List Value} {t : TypeId} (H : Cx w0 A X L Rs Ts w) (hg : w.grownBy w' (some x)) (hm : ⟨x, cs, t⟩ ∈ L) (hh : w'.heap[x]? = some (.cells cs'.toArray t (0, 0))) (hu : Upd x cs' L L') : Cx w0 A X L' Rs Ts w' := by
  refine ⟨grown_then H.grown hg (fun y e => by cases e; exact (H.old _ hm).symm), ?_, mem_blocks (P := fun b => w0.heap.size ≤ b ∨ X = some b) hu.map H.old, dis_of hu.map H.dis, ?_, fun r hr => mem_blocks (P := fun b => r.v.ownBlock ≠ some b) hu.map (H.rl r hr), H.rr, ?_, H.xx⟩
  · intro p hp
    by_cases e : p.b = x
    · obtain ⟨cs1, t1, k1, k2⟩ := hu.new
      have e1 := uniq_of H.dis k1 hm rfl
      have e2 := uniq_of (dis_of hu.map H.dis) hp k2 e
      cases e1
      subst e2
      exact hh
    · rcases hu.mem p hp with ⟨h1, _⟩ | h
      · exact absurd h1 e
      · rw [hg.block p.b (H.lt h) (fun e2 => e (by simpa using e2))]
        exact H.loc p h
  · intro r hr
    exact (H.row r hr).kept hg (.inr (H.rl r hr _ hm))
  · intro p hp
    refine isV.kept (Fr.grow hg (fun c hc _ => ⟨hc.1, mem_blocks (P := fun b => b ≠ c) hu.map hc.2.1, hc.2.2⟩) (fun c e hc => ?_)) _ _ (H.tr p hp)
    cases e
    exact hc.2.1 _ hm rfl
end Go.Proofs.Ytnolelgmcmgohaa.Tr
namespace Go.Proofs.Ytnolelgmcmgohaa.Ty
open Go.RowKit hiding Hid
open Go.Proofs.Ytnolelgmcmgohaa.Tx Go.Proofs.Ytnolelgmcmgohaa.Lx Go.Proofs.Ytnolelgmcmgohaa.Tr
set_option linter.unusedVariables false
set_option linter.unusedSimpArgs false
set_option maxRecDepth 100000

def SzO (w : World) (v : Value) (e : Ending) (w' : World) : Prop := e = .returned v ∧ w.grownBy w' none
theorem GoodP.rb {T : List Tt} (g : GoodP T) {s : Int → Int} (hs : Szs T s) : ∃ r, Rb T s r := by
  obtain ⟨r, hr⟩ := g.rank
  exact ⟨r, hr, g.loc.inP, g.ln, (g.loc.recPre g.rank).fl, hs, g.loc.hi⟩
theorem GoodP.z9 {T : List Tt} (g : GoodP T) : ∀ y, T[0]? = some y → y.fm ≠ 9 := fun y hy => by
  have := (g.loc.form (by decide) hy).1
  omega
set_option maxHeartbeats 8000000 in
theorem psize_good {w : World} {o : Option Addr} {T : List Tt} (cp : Nat) (H : Tab w o T) (hcp : T.length ≤ cp) (G : GoodP T) {s : Int → Int} (hs : Szs T s) {a : Nat} (ha : a < T.length) : Calls Try.prog 26 #[.slice o T.length cp, .int .i64 a] w (SzO w (.int .i64 (s a))) := by
  have hl := H.1
  obtain ⟨r, hB⟩ := G.rb hs
  have HZ := hide (fun (b : Nat) => size_all (w0 := w) (o := o) (cp := cp) (b := b) hB (r a + 1))
  have HT := hide H
  have HG := hide G
  have HCp := hide hcp
  have HJ := hide ha
  have HIn := hide (show inT T.length (a : Int) = true by unfold inT; simp; omega)
  have HC := hide (Cx.start w (fun _ => False))
  clear H G hcp hB hs
  go_enter Try.func26, Try.ntmps26
  go_wp2_with (first | (go_at_call 48; refine (lwithin_at _ _ _ _ _ (by omega)).mono ?_; rw [HIn.out]; rintro e w' ⟨rfl, hw⟩; replace hw := hw.symm; subst hw) | (go_at_call 15; refine (good_at cp (HT.out.kept HC.out.grown) HCp.out).mono ?_; rintro e w2 ⟨d, rfl, hg, hd⟩; replace HC := hide (HC.out.g hg); obtain rfl : d = true := hd.2 HG.out; clear hg hd) | (refine at_build 60 rfl ?_; refine wl_buildR rfl _ rfl rfl ?_; intro R hR; have HRr := hide hR; clear hR) | (refine at_alloc 60 rfl ?_; refine wl_alloc rfl 60 rfl _ zR HC.out ?_; intro b w' hn hc; (replace HC := hide hc; clear hc)) | (refine at_store 60 rfl ?_; refine wl_store (us := (rkC o T.length cp (List.replicate 256 false) (List.replicate 256 0))) rfl 60 _ _ rfl rfl HRr.out tyR.sz rfl HC.out (by repeat (first | exact List.Mem.head _ | apply List.Mem.tail)) (by exact PutS.all _ _ rfl) (by repeat (first | exact Upd.here _ _ _ | apply Upd.there)) ?_; intro w' hc; (replace HC := hide hc; clear hc)) | (go_at_call 49; refine (HZ.out b _ _ _ a (Rk.begin s HT.out HC.out.grown ((HC.out.old _ (.head _)).resolve_right (by simp)) (HC.out.loc ⟨b, (rkC o T.length cp (List.replicate 256 false) (List.replicate 256 0)), 60⟩ (by repeat (first | exact List.Mem.head _ | apply List.Mem.tail)))) HJ.out (by omega)).mono ?_; rintro e w2 ⟨ks', zs', rfl, hg, hs⟩; have HQ := hide (grown_then HC.out.grown hg (fun y e => by cases e; exact .inr hs.new)); clear hg hs))
  go_ret
  exact ⟨rfl, HQ.out⟩
set_option maxHeartbeats 8000000 in
theorem psize_bad {w : World} {o : Option Addr} {T : List Tt} (cp : Nat) (H : Tab w o T) (hcp : T.length ≤ cp) {a : Int} (h : ¬ (GoodP T ∧ inT T.length a = true)) : Calls Try.prog 26 #[.slice o T.length cp, .int .i64 a] w (SzO w (.int .i64 0)) := by
  have hl := H.1
  have HT := hide H
  have HCp := hide hcp
  have HC := hide (Cx.start w (fun _ => False))
  cases hin : inT T.length a with
  | false =>
    have HIn := hide hin
    clear H hcp h hin
    go_enter Try.func26, Try.ntmps26
    go_wp2_with (first | (go_at_call 48; refine (lwithin_at _ _ _ _ _ (by omega)).mono ?_; rw [HIn.out]; rintro e w' ⟨rfl, hw⟩; replace hw := hw.symm; subst hw))
    go_ret
    exact ⟨rfl, HC.out.grown⟩
  | true =>
    have HIn := hide hin
    have HNg := hide (show ¬ GoodP T from fun g => h ⟨g, hin⟩)
    clear H hcp h hin
    go_enter Try.func26, Try.ntmps26
    go_wp2_with (first | (go_at_call 48; refine (lwithin_at _ _ _ _ _ (by omega)).mono ?_; rw [HIn.out]; rintro e w' ⟨rfl, hw⟩; replace hw := hw.symm; subst hw) | (go_at_call 15; refine (good_at cp (HT.out.kept HC.out.grown) HCp.out).mono ?_; rintro e w2 ⟨d, rfl, hg, hd⟩; replace HC := hide (HC.out.g hg); obtain rfl : d = false := (by cases d; rfl; exact absurd (hd.1 rfl) HNg.out); clear hg hd))
    go_ret
    exact ⟨rfl, HC.out.grown⟩
set_option maxHeartbeats 8000000 in
theorem poff_big {w : World} {o : Option Addr} {T : List Tt} (cp : Nat) (H : Tab w o T) (hcp : T.length ≤ cp) (G : GoodP T) {s : Int → Int} (hs : Szs T s) {a : Nat} (ha : a < T.length) (nm : Txt) (hb : 32768 < s a) : Calls Try.prog 28 #[.slice o T.length cp, .int .i64 a, .string (bs nm)] w (SzO w (ansV none)) := by
  have hl := H.1
  obtain ⟨r, hB⟩ := G.rb hs
  have HZ := hide (fun (b : Nat) => size_all (w0 := w) (o := o) (cp := cp) (b := b) hB (r a + 1))
  have HT := hide H
  have HG := hide G
  have HCp := hide hcp
  have HJ := hide ha
  have HIn := hide (show inT T.length (a : Int) = true by unfold inT; simp; omega)
  have HC := hide (Cx.start w (fun _ => False))
  have v1 := hs.hi (a : Int)
  obtain ⟨V, hV⟩ : ∃ V, s (a : Int) = V := ⟨_, rfl⟩
  rw [hV] at hb v1
  have HV := hide hV
  clear H G hcp hB hs hV
  go_enter Try.func28, Try.ntmps28
  go_wp2_with (first | (go_at_call 48; refine (lwithin_at _ _ _ _ _ (by omega)).mono ?_; rw [HIn.out]; rintro e w' ⟨rfl, hw⟩; replace hw := hw.symm; subst hw) | (go_at_call 15; refine (good_at cp (HT.out.kept HC.out.grown) HCp.out).mono ?_; rintro e w2 ⟨d, rfl, hg, hd⟩; replace HC := hide (HC.out.g hg); obtain rfl : d = true := hd.2 HG.out; clear hg hd) | (refine at_build 60 rfl ?_; refine wl_buildR rfl _ rfl rfl ?_; intro R hR; have HRr := hide hR; clear hR) | (refine at_alloc 60 rfl ?_; refine wl_alloc rfl 60 rfl _ zR HC.out ?_; intro b w' hn hc; (replace HC := hide hc; clear hc)) | (refine at_store 60 rfl ?_; refine wl_store (us := (rkC o T.length cp (List.replicate 256 false) (List.replicate 256 0))) rfl 60 _ _ rfl rfl HRr.out tyR.sz rfl HC.out (by repeat (first | exact List.Mem.head _ | apply List.Mem.tail)) (by exact PutS.all _ _ rfl) (by repeat (first | exact Upd.here _ _ _ | apply Upd.there)) ?_; intro w' hc; (replace HC := hide hc; clear hc)) | (go_at_call 49; refine (HZ.out b _ _ _ a (Rk.begin s HT.out HC.out.grown ((HC.out.old _ (.head _)).resolve_right (by simp)) (HC.out.loc ⟨b, (rkC o T.length cp (List.replicate 256 false) (List.replicate 256 0)), 60⟩ (by repeat (first | exact List.Mem.head _ | apply List.Mem.tail)))) HJ.out (by omega)).mono ?_; rw [HV.out]; rintro e w2 ⟨ks', zs', rfl, hg, hs⟩; replace HC := hide (HC.out.callL hg (by repeat (first | exact List.Mem.head _ | apply List.Mem.tail)) hs.blk (by repeat (first | exact Upd.here _ _ _ | apply Upd.there))); have HS := hide hs; clear hg hs))
  refine bodyPost_ret (v := .tuple #[.int .i64 0, .int .i64 0, .bool false]) (by simp [results, Try.results28, go_sem]) rfl ?_
  exact ⟨rfl, HC.out.grown⟩
set_option maxHeartbeats 8000000 in
theorem poff_good {w : World} {ad : Addr} {T : List Tt} (cp : Nat) (H : Tab w (some ad) T) (hcp : T.length ≤ cp) (G : GoodP T) {s : Int → Int} (hs : Szs T s) {a : Nat} (ha : a < T.length) (nm : Txt) (hnm : nm.length ≤ lim) (hb : s a ≤ 32768) {p : Option (Int × Int)} (hI : FdI T s nm p a) : Calls Try.prog 28 #[.slice (some ad) T.length cp, .int .i64 a, .string (bs nm)] w (SzO w (ansV p)) := by
  have hl := H.1
  obtain ⟨r, hB⟩ := G.rb hs
  obtain ⟨o, ho⟩ : ∃ o, some ad = o := ⟨_, rfl⟩
  have HZ := hide (fun (b : Nat) => size_all (w0 := w) (o := o) (cp := cp) (b := b) hB (r a + 1))
  have HF := hide (fun (b : Nat) (ks : List Bool) (zs : List Int) (W : World) (h : Rk w o cp T s b ks zs W) => by
    rw [← ho] at h
    have := find_at hB G.recB G.z9 h ha nm hnm hI
    rw [ho] at this
    exact this)
  rw [ho] at H ⊢
  have HT := hide H
  have HG := hide G
  have HCp := hide hcp
  have HJ := hide ha
  have HIn := hide (show inT T.length (a : Int) = true by unfold inT; simp; omega)
  have HC := hide (Cx.start w (fun _ => False))
  have v1 := hs.lo (a : Int)
  obtain ⟨V, hV⟩ : ∃ V, s (a : Int) = V := ⟨_, rfl⟩
  rw [hV] at hb v1
  have HV := hide hV
  clear H G hcp hB hs hV hI hnm ho
  have hb' : ¬ 32768 < V := by omega
  cases p with
  | none =>
    go_enter Try.func28, Try.ntmps28
    go_wp2_with (first | (go_at_call 48; refine (lwithin_at _ _ _ _ _ (by omega)).mono ?_; rw [HIn.out]; rintro e w' ⟨rfl, hw⟩; replace hw := hw.symm; subst hw) | (go_at_call 15; refine (good_at cp (HT.out.kept HC.out.grown) HCp.out).mono ?_; rintro e w2 ⟨d, rfl, hg, hd⟩; replace HC := hide (HC.out.g hg); obtain rfl : d = true := hd.2 HG.out; clear hg hd) | (refine at_build 60 rfl ?_; refine wl_buildR rfl _ rfl rfl ?_; intro R hR; have HRr := hide hR; clear hR) | (refine at_alloc 60 rfl ?_; refine wl_alloc rfl 60 rfl _ zR HC.out ?_; intro b w' hn hc; (replace HC := hide hc; clear hc)) | (refine at_store 60 rfl ?_; refine wl_store (us := (rkC o T.length cp (List.replicate 256 false) (List.replicate 256 0))) rfl 60 _ _ rfl rfl HRr.out tyR.sz rfl HC.out (by repeat (first | exact List.Mem.head _ | apply List.Mem.tail)) (by exact PutS.all _ _ rfl) (by repeat (first | exact Upd.here _ _ _ | apply Upd.there)) ?_; intro w' hc; (replace HC := hide hc; clear hc)) | (go_at_call 49; refine (HZ.out b _ _ _ a (Rk.begin s HT.out HC.out.grown ((HC.out.old _ (.head _)).resolve_right (by simp)) (HC.out.loc ⟨b, (rkC o T.length cp (List.replicate 256 false) (List.replicate 256 0)), 60⟩ (by repeat (first | exact List.Mem.head _ | apply List.Mem.tail)))) HJ.out (by omega)).mono ?_; rw [HV.out]; rintro e w2 ⟨ks', zs', rfl, hg, hs⟩; replace HC := hide (HC.out.callL hg (by repeat (first | exact List.Mem.head _ | apply List.Mem.tail)) hs.blk (by repeat (first | exact Upd.here _ _ _ | apply Upd.there))); have HS := hide hs; clear hg hs) | (go_at_call 52; refine (HF.out b ks' zs' _ (HS.out.stay (gr_ref _ _) HS.out.blk)).mono ?_; unfold ansV; dsimp only; rintro e w2 ⟨ks2, zs2, rfl, hg, hs⟩; replace HC := hide (HC.out.callL hg (by repeat (first | exact List.Mem.head _ | apply List.Mem.tail)) hs.blk (by repeat (first | exact Upd.here _ _ _ | apply Upd.there))); clear hg hs))
    refine bodyPost_ret (v := .tuple #[.int .i64 0, .int .i64 0, .bool false]) (by simp [results, Try.results28, go_sem]) rfl ?_
    exact ⟨rfl, HC.out.grown⟩
  | some p =>
    obtain ⟨P1, P2⟩ := p
    go_enter Try.func28, Try.ntmps28
    go_wp2_with (first | (go_at_call 48; refine (lwithin_at _ _ _ _ _ (by omega)).mono ?_; rw [HIn.out]; rintro e w' ⟨rfl, hw⟩; replace hw := hw.symm; subst hw) | (go_at_call 15; refine (good_at cp (HT.out.kept HC.out.grown) HCp.out).mono ?_; rintro e w2 ⟨d, rfl, hg, hd⟩; replace HC := hide (HC.out.g hg); obtain rfl : d = true := hd.2 HG.out; clear hg hd) | (refine at_build 60 rfl ?_; refine wl_buildR rfl _ rfl rfl ?_; intro R hR; have HRr := hide hR; clear hR) | (refine at_alloc 60 rfl ?_; refine wl_alloc rfl 60 rfl _ zR HC.out ?_; intro b w' hn hc; (replace HC := hide hc; clear hc)) | (refine at_store 60 rfl ?_; refine wl_store (us := (rkC o T.length cp (List.replicate 256 false) (List.replicate 256 0))) rfl 60 _ _ rfl rfl HRr.out tyR.sz rfl HC.out (by repeat (first | exact List.Mem.head _ | apply List.Mem.tail)) (by exact PutS.all _ _ rfl) (by repeat (first | exact Upd.here _ _ _ | apply Upd.there)) ?_; intro w' hc; (replace HC := hide hc; clear hc)) | (go_at_call 49; refine (HZ.out b _ _ _ a (Rk.begin s HT.out HC.out.grown ((HC.out.old _ (.head _)).resolve_right (by simp)) (HC.out.loc ⟨b, (rkC o T.length cp (List.replicate 256 false) (List.replicate 256 0)), 60⟩ (by repeat (first | exact List.Mem.head _ | apply List.Mem.tail)))) HJ.out (by omega)).mono ?_; rw [HV.out]; rintro e w2 ⟨ks', zs', rfl, hg, hs⟩; replace HC := hide (HC.out.callL hg (by repeat (first | exact List.Mem.head _ | apply List.Mem.tail)) hs.blk (by repeat (first | exact Upd.here _ _ _ | apply Upd.there))); have HS := hide hs; clear hg hs) | (go_at_call 52; refine (HF.out b ks' zs' _ (HS.out.stay (gr_ref _ _) HS.out.blk)).mono ?_; unfold ansV; dsimp only; rintro e w2 ⟨ks2, zs2, rfl, hg, hs⟩; replace HC := hide (HC.out.callL hg (by repeat (first | exact List.Mem.head _ | apply List.Mem.tail)) hs.blk (by repeat (first | exact Upd.here _ _ _ | apply Upd.there))); clear hg hs))
    refine bodyPost_ret (v := .tuple #[.int .i64 P1, .int .i64 P2, .bool true]) (by simp [results, Try.results28, go_sem]) rfl ?_
    exact ⟨rfl, HC.out.grown⟩
set_option maxHeartbeats 8000000 in
theorem poff_bad {w : World} {o : Option Addr} {T : List Tt} (cp : Nat) (H : Tab w o T) (hcp : T.length ≤ cp) {a : Int} (nm : Txt) (h : ¬ (GoodP T ∧ inT T.length a = true)) : Calls Try.prog 28 #[.slice o T.length cp, .int .i64 a, .string (bs nm)] w (SzO w (ansV none)) := by
  have hl := H.1
  have HT := hide H
  have HCp := hide hcp
  have HC := hide (Cx.start w (fun _ => False))
  cases hin : inT T.length a with
  | false =>
    have HIn := hide hin
    clear H hcp h hin
    go_enter Try.func28, Try.ntmps28
    go_wp2_with (first | (go_at_call 48; refine (lwithin_at _ _ _ _ _ (by omega)).mono ?_; rw [HIn.out]; rintro e w' ⟨rfl, hw⟩; replace hw := hw.symm; subst hw))
    refine bodyPost_ret (v := .tuple #[.int .i64 0, .int .i64 0, .bool false]) (by simp [results, Try.results28, go_sem]) rfl ?_
    exact ⟨rfl, HC.out.grown⟩
  | true =>
    have HIn := hide hin
    have HNg := hide (show ¬ GoodP T from fun g => h ⟨g, hin⟩)
    clear H hcp h hin
    go_enter Try.func28, Try.ntmps28
    go_wp2_with (first | (go_at_call 48; refine (lwithin_at _ _ _ _ _ (by omega)).mono ?_; rw [HIn.out]; rintro e w' ⟨rfl, hw⟩; replace hw := hw.symm; subst hw) | (go_at_call 15; refine (good_at cp (HT.out.kept HC.out.grown) HCp.out).mono ?_; rintro e w2 ⟨d, rfl, hg, hd⟩; replace HC := hide (HC.out.g hg); obtain rfl : d = false := (by cases d; rfl; exact absurd (hd.1 rfl) HNg.out); clear hg hd))
    refine bodyPost_ret (v := .tuple #[.int .i64 0, .int .i64 0, .bool false]) (by simp [results, Try.results28, go_sem]) rfl ?_
    exact ⟨rfl, HC.out.grown⟩
end Go.Proofs.Ytnolelgmcmgohaa.Ty
