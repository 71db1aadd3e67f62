/- Several texts of one proof, in their order. -/
import Derived.Test.YtajmnlhfnhbleaaGreatTSum30

namespace Go.Proofs.YtajmnlhfnhbleaaGreat

open Go.RowKit Go.Maps CurveMath
set_option linter.unusedVariables false

theorem heap_threeC (w : World) (o1 o2 o3 : Obj) : (((w.alloc o1).alloc o2).alloc o3).heap[w.heap.size]? = some o1 ∧ (((w.alloc o1).alloc o2).alloc o3).heap[w.heap.size + 1]? = some o2 ∧ (((w.alloc o1).alloc o2).alloc o3).heap[w.heap.size + 2]? = some o3 := by
  refine ⟨?_, ?_, ?_⟩
  · rw [Below.heap_alloc _ _ _ (by simp <;> omega), Below.heap_alloc _ _ _ (by simp)]; exact heap_alloc_new _ _
  · rw [Below.heap_alloc _ _ _ (by simp)]
    have := heap_alloc_new (w.alloc o1) o2
    simpa using this
  · have := heap_alloc_new ((w.alloc o1).alloc o2) o3
    simpa using this

theorem seven_atC {w : World} {g : Nat} {T : TypeId} {v0 v1 v2 v3 v4 v5 v6 : Value} (h : w.heap[g]? = some (.cells #[v0, v1, v2, v3, v4, v5, v6] T (0, 0))) :
    w.cell? ⟨g, 0, none⟩ = some v0 ∧ w.cell? ⟨g, 1, none⟩ = some v1 ∧ w.cell? ⟨g, 2, none⟩ = some v2 ∧ w.cell? ⟨g, 3, none⟩ = some v3 ∧ w.cell? ⟨g, 4, none⟩ = some v4 ∧ w.cell? ⟨g, 5, none⟩ = some v5 ∧ w.cell? ⟨g, 6, none⟩ = some v6 :=
  ⟨cell_at h rfl, cell_at h rfl, cell_at h rfl, cell_at h rfl, cell_at h rfl, cell_at h rfl, cell_at h rfl⟩

def MsPostN (w : World) (er : Int) (m : Ms) (e : Ending) (w' : World) : Prop := MeshPostN w er m.n m.b m.np m.P e w'
set_option maxHeartbeats 8000000 in
set_option maxRecDepth 10000 in
theorem wdDo_save (vb : Value) (n : Nat) (PV : Nat → Value) (b : Bk) (vl : Value) (np : Nat) (KV : Nat → Value) (UV : Nat → Nat → Value) (P : Ps) (N M : Int) (vd : Value) (len : Nat) (D : Nat → Int) (vp : Value) (lp : Nat) (X : Nat → Int) (need of : Int) (w : World)
    (hv : VeSl w w.heap.size vb n PV b) (hl : PsSl w w.heap.size vl np KV UV P) (hd : IntSl w w.heap.size vd len D) (hp : IntSl w w.heap.size vp lp X) (hc9 : True) :
    Calls Tryz.prog 12 #[meshV vb vl, hapV ⟨1, N, M, len, D, lp, X, need, of⟩ vd vp] w (MsPostN w (doE ⟨n, b, np, P⟩ ⟨1, N, M, len, D, lp, X, need, of⟩) (happM ⟨n, b, np, P⟩ ⟨1, N, M, len, D, lp, X, need, of⟩)) := by
  have HV := hid hv
  have HL := hid hl
  have HD := hid hd
  have HP := hid hp
  obtain ⟨ab, cb, rfl, _, _⟩ := hv
  obtain ⟨al, cl, rfl, _, _⟩ := hl
  obtain ⟨ad, cd, rfl, _, _⟩ := hd
  obtain ⟨ap, cp, rfl, _, _⟩ := hp
  have hb0 : Below w.heap.size w (((w.alloc (.cells #[.slice ab n cb, .slice al np cl] 27)).alloc (.cells #[.int .i64 1, .int .i64 N, .int .i64 M, .slice ad len cd, .slice ap lp cp, .int .i64 need, .int .i64 of] 30)).alloc (.cells #[.slice none 0 0, .slice none 0 0] 27)) := (((Below.refl w.heap.size w).alloc (Nat.le_refl _) _).alloc (by simp) _).alloc (by simp <;> omega) _
  obtain ⟨k0, k1, k2⟩ := heap_threeC w (.cells #[.slice ab n cb, .slice al np cl] 27) (.cells #[.int .i64 1, .int .i64 N, .int .i64 M, .slice ad len cd, .slice ap lp cp, .int .i64 need, .int .i64 of] 30) (.cells #[.slice none 0 0, .slice none 0 0] 27)
  obtain ⟨U, hU⟩ : ∃ u, ((w.alloc (.cells #[.slice ab n cb, .slice al np cl] 27)).alloc (.cells #[.int .i64 1, .int .i64 N, .int .i64 M, .slice ad len cd, .slice ap lp cp, .int .i64 need, .int .i64 of] 30)).alloc (.cells #[.slice none 0 0, .slice none 0 0] 27) = u := ⟨_, rfl⟩
  rw [hU] at hb0 k0 k1 k2
  obtain ⟨er, her⟩ : ∃ c, doE ⟨n, b, np, P⟩ ⟨1, N, M, len, D, lp, X, need, of⟩ = c := ⟨_, rfl⟩
  obtain ⟨mz, hmz⟩ : ∃ m, happM ⟨n, b, np, P⟩ ⟨1, N, M, len, D, lp, X, need, of⟩ = m := ⟨_, rfl⟩
  rw [her, hmz]
  have HEr := hid her
  have HMz := hid hmz
  have B0 := hid hb0
  have D0 := hid k0
  have D1 := hid k1
  have D2 := hid k2
  have CK := hid (msCheck _ n PV b _ np KV UV P U (HV.out.up hb0) (HL.out.up hb0))
  obtain ⟨c, hc⟩ : ∃ c, peersE n b np P = c := ⟨_, rfl⟩
  rw [hc] at CK
  have HC := hid hc
  obtain ⟨c0, c1⟩ := two_at k0
  unfold meshV at CK
  have HC9 := hid hc9
  clear hb0 k0 k1 k2 her hmz hc hc9
  unfold meshV hapV
  go_enter Tryz.func12, Tryz.ntmps12
  go_wp2_with fail
  refine Calls.mono CK.out ?_
  rintro e W ⟨rfl, hbW⟩
  have B1 := hid (B0.out.trans (hbW.mono B0.out.size))
  have E0 := hid (stayB D0.out hbW)
  have E1 := hid (stayB D1.out hbW)
  have E2 := hid (stayB D2.out hbW)
  clear hbW c0 c1 CK hU
  by_cases h0 : c = 0
  · subst h0
    have HE : Hid (er = happE ⟨n, b, np, P⟩ ⟨1, N, M, len, D, lp, X, need, of⟩) := by
      show er = _
      rw [← HEr.out]
      unfold doE msE
      rw [if_pos HC.out]
    have hR : MeshR n b np P := meshR_of HC.out
    have HRr := hid hR
    obtain ⟨c0, c1⟩ := two_at E0.out
    obtain ⟨x0, x1, x2, x3, x4, x5, x6⟩ := seven_atC E1.out
    clear hR
    have CS := hid (msSave _ n PV b _ np KV UV P _ len D _ lp X need of W (HV.out.up B1.out) (HL.out.up B1.out) (HD.out.up B1.out) (HP.out.up B1.out))
    replace CS := hid (CS.out.mono (fun e w' h => MeshPostW.n h))
    have hee : er = (saveE n b np P need of len D lp X) := by
      rw [HE.out]
      rfl
    have hmm : mz = ⟨(n + 1), (saveB n b need of len lp X), np, (saveP n np P need of len D)⟩ := by
      rw [← HMz.out]
      rfl
    obtain ⟨e9, he9⟩ : ∃ c, (saveE n b np P need of len D lp X) = c := ⟨_, rfl⟩
    rw [he9] at CS hee
    have HEe := hid hee
    have HMm := hid hmm
    clear he9 hee hmm
    unfold meshV at CS
    go_wp2_with fail
    refine Calls.mono CS.out ?_
    rintro e W5 hM
    have HM := hid hM
    obtain ⟨hb5, gb, gl, n5, np5, PV5, KV5, UV5, rfl, hn5, hnp5, hv5, hl5, _⟩ := hM
    clear hn5 hnp5
    obtain ⟨a5, c5, rfl, _, _⟩ := hv5
    obtain ⟨a6, c6, rfl, _, _⟩ := hl5
    unfold meshV at HM
    have o5 := stayB E2.out hb5
    have HO5 := hid o5
    obtain ⟨r1, r2⟩ := two_at o5
    have f1 := frozen_at (i := 0) o5
    have f2 := frozen_at (i := 1) o5
    unfold meshV
    clear hb5 o5 c0 c1 x0 x1 x2 x3 x4 x5 x6 CS
    go_wp2
    refine bodyPost_ret (results_cell2 rfl _ _ (w.heap.size + 2) 27 #[.slice a5 n5 c5, .slice a6 np5 c6] (0, 0) _ rfl (put2_whole HO5.out _ _) Tryz.underlying27 rfl (by kernel_rfl)) rfl ?_
    rw [HEe.out, HMm.out]
    exact meshN_out B1.out HM.out HO5.out (by omega)
  · have hcb : (c != 0) = true := by simpa using h0
    have HE : Hid (er = c) := by
      show er = c
      rw [← HEr.out]
      unfold doE msE
      rw [HC.out, if_neg h0]
    have H0 := hid h0
    obtain ⟨r1, r2⟩ := two_at E2.out
    have f1 := frozen_at (i := 0) E2.out
    have f2 := frozen_at (i := 1) E2.out
    clear h0
    go_wp2
    refine bodyPost_ret (results_cell2 rfl _ _ (w.heap.size + 2) 27 #[.slice none 0 0, .slice none 0 0] (0, 0) _ rfl (put2_whole E2.out _ _) Tryz.underlying27 rfl (by kernel_rfl)) rfl ?_
    rw [HE.out]
    exact meshN_none (put2_below B1.out (by omega)) H0.out

set_option maxHeartbeats 8000000 in
set_option maxRecDepth 10000 in
theorem wdDo_repair (vb : Value) (n : Nat) (PV : Nat → Value) (b : Bk) (vl : Value) (np : Nat) (KV : Nat → Value) (UV : Nat → Nat → Value) (P : Ps) (N M : Int) (vd : Value) (len : Nat) (D : Nat → Int) (vp : Value) (lp : Nat) (X : Nat → Int) (need of : Int) (w : World)
    (hv : VeSl w w.heap.size vb n PV b) (hl : PsSl w w.heap.size vl np KV UV P) (hd : IntSl w w.heap.size vd len D) (hp : IntSl w w.heap.size vp lp X) (hc9 : True) :
    Calls Tryz.prog 12 #[meshV vb vl, hapV ⟨6, N, M, len, D, lp, X, need, of⟩ vd vp] w (MsPostN w (doE ⟨n, b, np, P⟩ ⟨6, N, M, len, D, lp, X, need, of⟩) (happM ⟨n, b, np, P⟩ ⟨6, N, M, len, D, lp, X, need, of⟩)) := by
  have HV := hid hv
  have HL := hid hl
  have HD := hid hd
  have HP := hid hp
  obtain ⟨ab, cb, rfl, _, _⟩ := hv
  obtain ⟨al, cl, rfl, _, _⟩ := hl
  obtain ⟨ad, cd, rfl, _, _⟩ := hd
  obtain ⟨ap, cp, rfl, _, _⟩ := hp
  have hb0 : Below w.heap.size w (((w.alloc (.cells #[.slice ab n cb, .slice al np cl] 27)).alloc (.cells #[.int .i64 6, .int .i64 N, .int .i64 M, .slice ad len cd, .slice ap lp cp, .int .i64 need, .int .i64 of] 30)).alloc (.cells #[.slice none 0 0, .slice none 0 0] 27)) := (((Below.refl w.heap.size w).alloc (Nat.le_refl _) _).alloc (by simp) _).alloc (by simp <;> omega) _
  obtain ⟨k0, k1, k2⟩ := heap_threeC w (.cells #[.slice ab n cb, .slice al np cl] 27) (.cells #[.int .i64 6, .int .i64 N, .int .i64 M, .slice ad len cd, .slice ap lp cp, .int .i64 need, .int .i64 of] 30) (.cells #[.slice none 0 0, .slice none 0 0] 27)
  obtain ⟨U, hU⟩ : ∃ u, ((w.alloc (.cells #[.slice ab n cb, .slice al np cl] 27)).alloc (.cells #[.int .i64 6, .int .i64 N, .int .i64 M, .slice ad len cd, .slice ap lp cp, .int .i64 need, .int .i64 of] 30)).alloc (.cells #[.slice none 0 0, .slice none 0 0] 27) = u := ⟨_, rfl⟩
  rw [hU] at hb0 k0 k1 k2
  obtain ⟨er, her⟩ : ∃ c, doE ⟨n, b, np, P⟩ ⟨6, N, M, len, D, lp, X, need, of⟩ = c := ⟨_, rfl⟩
  obtain ⟨mz, hmz⟩ : ∃ m, happM ⟨n, b, np, P⟩ ⟨6, N, M, len, D, lp, X, need, of⟩ = m := ⟨_, rfl⟩
  rw [her, hmz]
  have HEr := hid her
  have HMz := hid hmz
  have B0 := hid hb0
  have D0 := hid k0
  have D1 := hid k1
  have D2 := hid k2
  have CK := hid (msCheck _ n PV b _ np KV UV P U (HV.out.up hb0) (HL.out.up hb0))
  obtain ⟨c, hc⟩ : ∃ c, peersE n b np P = c := ⟨_, rfl⟩
  rw [hc] at CK
  have HC := hid hc
  obtain ⟨c0, c1⟩ := two_at k0
  unfold meshV at CK
  have HC9 := hid hc9
  clear hb0 k0 k1 k2 her hmz hc hc9
  unfold meshV hapV
  go_enter Tryz.func12, Tryz.ntmps12
  go_wp2_with fail
  refine Calls.mono CK.out ?_
  rintro e W ⟨rfl, hbW⟩
  have B1 := hid (B0.out.trans (hbW.mono B0.out.size))
  have E0 := hid (stayB D0.out hbW)
  have E1 := hid (stayB D1.out hbW)
  have E2 := hid (stayB D2.out hbW)
  clear hbW c0 c1 CK hU
  by_cases h0 : c = 0
  · subst h0
    have HE : Hid (er = happE ⟨n, b, np, P⟩ ⟨6, N, M, len, D, lp, X, need, of⟩) := by
      show er = _
      rw [← HEr.out]
      unfold doE msE
      rw [if_pos HC.out]
    have hR : MeshR n b np P := meshR_of HC.out
    have HRr := hid hR
    obtain ⟨c0, c1⟩ := two_at E0.out
    obtain ⟨x0, x1, x2, x3, x4, x5, x6⟩ := seven_atC E1.out
    clear hR
    have CS := hid (msRepair _ n PV b _ np KV UV P N W (HV.out.up B1.out) (HL.out.up B1.out))
    have hee : er = (mendE n b np P N) := by
      rw [HE.out]
      rfl
    have hmm : mz = ⟨n, b, np, (mendP b np P N)⟩ := by
      rw [← HMz.out]
      rfl
    obtain ⟨e9, he9⟩ : ∃ c, (mendE n b np P N) = c := ⟨_, rfl⟩
    rw [he9] at CS hee
    have HEe := hid hee
    have HMm := hid hmm
    clear he9 hee hmm
    unfold meshV at CS
    go_wp2_with fail
    refine Calls.mono CS.out ?_
    rintro e W5 hM
    have HM := hid hM
    obtain ⟨hb5, gb, gl, n5, np5, PV5, KV5, UV5, rfl, hn5, hnp5, hv5, hl5, _⟩ := hM
    clear hn5 hnp5
    obtain ⟨a5, c5, rfl, _, _⟩ := hv5
    obtain ⟨a6, c6, rfl, _, _⟩ := hl5
    unfold meshV at HM
    have o5 := stayB E2.out hb5
    have HO5 := hid o5
    obtain ⟨r1, r2⟩ := two_at o5
    have f1 := frozen_at (i := 0) o5
    have f2 := frozen_at (i := 1) o5
    unfold meshV
    clear hb5 o5 c0 c1 x0 x1 x2 x3 x4 x5 x6 CS
    go_wp2
    refine bodyPost_ret (results_cell2 rfl _ _ (w.heap.size + 2) 27 #[.slice a5 n5 c5, .slice a6 np5 c6] (0, 0) _ rfl (put2_whole HO5.out _ _) Tryz.underlying27 rfl (by kernel_rfl)) rfl ?_
    rw [HEe.out, HMm.out]
    exact meshN_out B1.out HM.out HO5.out (by omega)
  · have hcb : (c != 0) = true := by simpa using h0
    have HE : Hid (er = c) := by
      show er = c
      rw [← HEr.out]
      unfold doE msE
      rw [HC.out, if_neg h0]
    have H0 := hid h0
    obtain ⟨r1, r2⟩ := two_at E2.out
    have f1 := frozen_at (i := 0) E2.out
    have f2 := frozen_at (i := 1) E2.out
    clear h0
    go_wp2
    refine bodyPost_ret (results_cell2 rfl _ _ (w.heap.size + 2) 27 #[.slice none 0 0, .slice none 0 0] (0, 0) _ rfl (put2_whole E2.out _ _) Tryz.underlying27 rfl (by kernel_rfl)) rfl ?_
    rw [HE.out]
    exact meshN_none (put2_below B1.out (by omega)) H0.out

set_option maxHeartbeats 8000000 in
set_option maxRecDepth 10000 in
theorem wdDo_forget (vb : Value) (n : Nat) (PV : Nat → Value) (b : Bk) (vl : Value) (np : Nat) (KV : Nat → Value) (UV : Nat → Nat → Value) (P : Ps) (N M : Int) (vd : Value) (len : Nat) (D : Nat → Int) (vp : Value) (lp : Nat) (X : Nat → Int) (need of : Int) (w : World)
    (hv : VeSl w w.heap.size vb n PV b) (hl : PsSl w w.heap.size vl np KV UV P) (hd : IntSl w w.heap.size vd len D) (hp : IntSl w w.heap.size vp lp X) (hc9 : True) :
    Calls Tryz.prog 12 #[meshV vb vl, hapV ⟨7, N, M, len, D, lp, X, need, of⟩ vd vp] w (MsPostN w (doE ⟨n, b, np, P⟩ ⟨7, N, M, len, D, lp, X, need, of⟩) (happM ⟨n, b, np, P⟩ ⟨7, N, M, len, D, lp, X, need, of⟩)) := by
  have HV := hid hv
  have HL := hid hl
  have HD := hid hd
  have HP := hid hp
  obtain ⟨ab, cb, rfl, _, _⟩ := hv
  obtain ⟨al, cl, rfl, _, _⟩ := hl
  obtain ⟨ad, cd, rfl, _, _⟩ := hd
  obtain ⟨ap, cp, rfl, _, _⟩ := hp
  have hb0 : Below w.heap.size w (((w.alloc (.cells #[.slice ab n cb, .slice al np cl] 27)).alloc (.cells #[.int .i64 7, .int .i64 N, .int .i64 M, .slice ad len cd, .slice ap lp cp, .int .i64 need, .int .i64 of] 30)).alloc (.cells #[.slice none 0 0, .slice none 0 0] 27)) := (((Below.refl w.heap.size w).alloc (Nat.le_refl _) _).alloc (by simp) _).alloc (by simp <;> omega) _
  obtain ⟨k0, k1, k2⟩ := heap_threeC w (.cells #[.slice ab n cb, .slice al np cl] 27) (.cells #[.int .i64 7, .int .i64 N, .int .i64 M, .slice ad len cd, .slice ap lp cp, .int .i64 need, .int .i64 of] 30) (.cells #[.slice none 0 0, .slice none 0 0] 27)
  obtain ⟨U, hU⟩ : ∃ u, ((w.alloc (.cells #[.slice ab n cb, .slice al np cl] 27)).alloc (.cells #[.int .i64 7, .int .i64 N, .int .i64 M, .slice ad len cd, .slice ap lp cp, .int .i64 need, .int .i64 of] 30)).alloc (.cells #[.slice none 0 0, .slice none 0 0] 27) = u := ⟨_, rfl⟩
  rw [hU] at hb0 k0 k1 k2
  obtain ⟨er, her⟩ : ∃ c, doE ⟨n, b, np, P⟩ ⟨7, N, M, len, D, lp, X, need, of⟩ = c := ⟨_, rfl⟩
  obtain ⟨mz, hmz⟩ : ∃ m, happM ⟨n, b, np, P⟩ ⟨7, N, M, len, D, lp, X, need, of⟩ = m := ⟨_, rfl⟩
  rw [her, hmz]
  have HEr := hid her
  have HMz := hid hmz
  have B0 := hid hb0
  have D0 := hid k0
  have D1 := hid k1
  have D2 := hid k2
  have CK := hid (msCheck _ n PV b _ np KV UV P U (HV.out.up hb0) (HL.out.up hb0))
  obtain ⟨c, hc⟩ : ∃ c, peersE n b np P = c := ⟨_, rfl⟩
  rw [hc] at CK
  have HC := hid hc
  obtain ⟨c0, c1⟩ := two_at k0
  unfold meshV at CK
  have HC9 := hid hc9
  clear hb0 k0 k1 k2 her hmz hc hc9
  unfold meshV hapV
  go_enter Tryz.func12, Tryz.ntmps12
  go_wp2_with fail
  refine Calls.mono CK.out ?_
  rintro e W ⟨rfl, hbW⟩
  have B1 := hid (B0.out.trans (hbW.mono B0.out.size))
  have E0 := hid (stayB D0.out hbW)
  have E1 := hid (stayB D1.out hbW)
  have E2 := hid (stayB D2.out hbW)
  clear hbW c0 c1 CK hU
  by_cases h0 : c = 0
  · subst h0
    have HE : Hid (er = happE ⟨n, b, np, P⟩ ⟨7, N, M, len, D, lp, X, need, of⟩) := by
      show er = _
      rw [← HEr.out]
      unfold doE msE
      rw [if_pos HC.out]
    have hR : MeshR n b np P := meshR_of HC.out
    have HRr := hid hR
    obtain ⟨c0, c1⟩ := two_at E0.out
    obtain ⟨x0, x1, x2, x3, x4, x5, x6⟩ := seven_atC E1.out
    clear hR
    have CS := hid (wdForget _ n PV b _ np KV UV P N W (HV.out.up B1.out) (HL.out.up B1.out) HRr.out)
    have hee : er = (forgE n b np P N) := by
      rw [HE.out]
      rfl
    have hmm : mz = ⟨n, b, np, (forgP P N)⟩ := by
      rw [← HMz.out]
      rfl
    obtain ⟨e9, he9⟩ : ∃ c, (forgE n b np P N) = c := ⟨_, rfl⟩
    rw [he9] at CS hee
    have HEe := hid hee
    have HMm := hid hmm
    clear he9 hee hmm
    unfold meshV at CS
    go_wp2_with fail
    refine Calls.mono CS.out ?_
    rintro e W5 hM
    have HM := hid hM
    obtain ⟨hb5, gb, gl, n5, np5, PV5, KV5, UV5, rfl, hn5, hnp5, hv5, hl5, _⟩ := hM
    clear hn5 hnp5
    obtain ⟨a5, c5, rfl, _, _⟩ := hv5
    obtain ⟨a6, c6, rfl, _, _⟩ := hl5
    unfold meshV at HM
    have o5 := stayB E2.out hb5
    have HO5 := hid o5
    obtain ⟨r1, r2⟩ := two_at o5
    have f1 := frozen_at (i := 0) o5
    have f2 := frozen_at (i := 1) o5
    unfold meshV
    clear hb5 o5 c0 c1 x0 x1 x2 x3 x4 x5 x6 CS
    go_wp2
    refine bodyPost_ret (results_cell2 rfl _ _ (w.heap.size + 2) 27 #[.slice a5 n5 c5, .slice a6 np5 c6] (0, 0) _ rfl (put2_whole HO5.out _ _) Tryz.underlying27 rfl (by kernel_rfl)) rfl ?_
    rw [HEe.out, HMm.out]
    exact meshN_out B1.out HM.out HO5.out (by omega)
  · have hcb : (c != 0) = true := by simpa using h0
    have HE : Hid (er = c) := by
      show er = c
      rw [← HEr.out]
      unfold doE msE
      rw [HC.out, if_neg h0]
    have H0 := hid h0
    obtain ⟨r1, r2⟩ := two_at E2.out
    have f1 := frozen_at (i := 0) E2.out
    have f2 := frozen_at (i := 1) E2.out
    clear h0
    go_wp2
    refine bodyPost_ret (results_cell2 rfl _ _ (w.heap.size + 2) 27 #[.slice none 0 0, .slice none 0 0] (0, 0) _ rfl (put2_whole E2.out _ _) Tryz.underlying27 rfl (by kernel_rfl)) rfl ?_
    rw [HE.out]
    exact meshN_none (put2_below B1.out (by omega)) H0.out

set_option maxHeartbeats 8000000 in
set_option maxRecDepth 10000 in
theorem wdDo_leave (vb : Value) (n : Nat) (PV : Nat → Value) (b : Bk) (vl : Value) (np : Nat) (KV : Nat → Value) (UV : Nat → Nat → Value) (P : Ps) (N M : Int) (vd : Value) (len : Nat) (D : Nat → Int) (vp : Value) (lp : Nat) (X : Nat → Int) (need of : Int) (w : World)
    (hv : VeSl w w.heap.size vb n PV b) (hl : PsSl w w.heap.size vl np KV UV P) (hd : IntSl w w.heap.size vd len D) (hp : IntSl w w.heap.size vp lp X) (hc9 : True) :
    Calls Tryz.prog 12 #[meshV vb vl, hapV ⟨2, N, M, len, D, lp, X, need, of⟩ vd vp] w (MsPostN w (doE ⟨n, b, np, P⟩ ⟨2, N, M, len, D, lp, X, need, of⟩) (happM ⟨n, b, np, P⟩ ⟨2, N, M, len, D, lp, X, need, of⟩)) := by
  have HV := hid hv
  have HL := hid hl
  have HD := hid hd
  have HP := hid hp
  obtain ⟨ab, cb, rfl, _, _⟩ := hv
  obtain ⟨al, cl, rfl, _, _⟩ := hl
  obtain ⟨ad, cd, rfl, _, _⟩ := hd
  obtain ⟨ap, cp, rfl, _, _⟩ := hp
  have hb0 : Below w.heap.size w (((w.alloc (.cells #[.slice ab n cb, .slice al np cl] 27)).alloc (.cells #[.int .i64 2, .int .i64 N, .int .i64 M, .slice ad len cd, .slice ap lp cp, .int .i64 need, .int .i64 of] 30)).alloc (.cells #[.slice none 0 0, .slice none 0 0] 27)) := (((Below.refl w.heap.size w).alloc (Nat.le_refl _) _).alloc (by simp) _).alloc (by simp <;> omega) _
  obtain ⟨k0, k1, k2⟩ := heap_threeC w (.cells #[.slice ab n cb, .slice al np cl] 27) (.cells #[.int .i64 2, .int .i64 N, .int .i64 M, .slice ad len cd, .slice ap lp cp, .int .i64 need, .int .i64 of] 30) (.cells #[.slice none 0 0, .slice none 0 0] 27)
  obtain ⟨U, hU⟩ : ∃ u, ((w.alloc (.cells #[.slice ab n cb, .slice al np cl] 27)).alloc (.cells #[.int .i64 2, .int .i64 N, .int .i64 M, .slice ad len cd, .slice ap lp cp, .int .i64 need, .int .i64 of] 30)).alloc (.cells #[.slice none 0 0, .slice none 0 0] 27) = u := ⟨_, rfl⟩
  rw [hU] at hb0 k0 k1 k2
  obtain ⟨er, her⟩ : ∃ c, doE ⟨n, b, np, P⟩ ⟨2, N, M, len, D, lp, X, need, of⟩ = c := ⟨_, rfl⟩
  obtain ⟨mz, hmz⟩ : ∃ m, happM ⟨n, b, np, P⟩ ⟨2, N, M, len, D, lp, X, need, of⟩ = m := ⟨_, rfl⟩
  rw [her, hmz]
  have HEr := hid her
  have HMz := hid hmz
  have B0 := hid hb0
  have D0 := hid k0
  have D1 := hid k1
  have D2 := hid k2
  have CK := hid (msCheck _ n PV b _ np KV UV P U (HV.out.up hb0) (HL.out.up hb0))
  obtain ⟨c, hc⟩ : ∃ c, peersE n b np P = c := ⟨_, rfl⟩
  rw [hc] at CK
  have HC := hid hc
  obtain ⟨c0, c1⟩ := two_at k0
  unfold meshV at CK
  have HC9 := hid hc9
  clear hb0 k0 k1 k2 her hmz hc hc9
  unfold meshV hapV
  go_enter Tryz.func12, Tryz.ntmps12
  go_wp2_with fail
  refine Calls.mono CK.out ?_
  rintro e W ⟨rfl, hbW⟩
  have B1 := hid (B0.out.trans (hbW.mono B0.out.size))
  have E0 := hid (stayB D0.out hbW)
  have E1 := hid (stayB D1.out hbW)
  have E2 := hid (stayB D2.out hbW)
  clear hbW c0 c1 CK hU
  by_cases h0 : c = 0
  · subst h0
    have HE : Hid (er = happE ⟨n, b, np, P⟩ ⟨2, N, M, len, D, lp, X, need, of⟩) := by
      show er = _
      rw [← HEr.out]
      unfold doE msE
      rw [if_pos HC.out]
    have hR : MeshR n b np P := meshR_of HC.out
    have HRr := hid hR
    obtain ⟨c0, c1⟩ := two_at E0.out
    obtain ⟨x0, x1, x2, x3, x4, x5, x6⟩ := seven_atC E1.out
    clear hR
    have CS := hid (wdChange_leave _ n PV b _ np KV UV P N M len D lp X need of W (HV.out.up B1.out) (HL.out.up B1.out) HRr.out)
    have hee : er = (lonE ⟨n, b, np, P⟩ ⟨2, N, M, len, D, lp, X, need, of⟩) := by
      rw [HE.out]
      rfl
    have hmm : mz = ⟨n, b, np, (lonP ⟨n, b, np, P⟩ ⟨2, N, M, len, D, lp, X, need, of⟩)⟩ := by
      rw [← HMz.out]
      rfl
    obtain ⟨e9, he9⟩ : ∃ c, (lonE ⟨n, b, np, P⟩ ⟨2, N, M, len, D, lp, X, need, of⟩) = c := ⟨_, rfl⟩
    rw [he9] at CS hee
    have HEe := hid hee
    have HMm := hid hmm
    clear he9 hee hmm
    unfold meshV at CS
    go_wp2_with fail
    refine Calls.mono CS.out ?_
    rintro e W5 hM
    have HM := hid hM
    obtain ⟨hb5, gb, gl, n5, np5, PV5, KV5, UV5, rfl, hn5, hnp5, hv5, hl5, _⟩ := hM
    clear hn5 hnp5
    obtain ⟨a5, c5, rfl, _, _⟩ := hv5
    obtain ⟨a6, c6, rfl, _, _⟩ := hl5
    unfold meshV at HM
    have o5 := stayB E2.out hb5
    have HO5 := hid o5
    obtain ⟨r1, r2⟩ := two_at o5
    have f1 := frozen_at (i := 0) o5
    have f2 := frozen_at (i := 1) o5
    unfold meshV
    clear hb5 o5 c0 c1 x0 x1 x2 x3 x4 x5 x6 CS
    go_wp2
    refine bodyPost_ret (results_cell2 rfl _ _ (w.heap.size + 2) 27 #[.slice a5 n5 c5, .slice a6 np5 c6] (0, 0) _ rfl (put2_whole HO5.out _ _) Tryz.underlying27 rfl (by kernel_rfl)) rfl ?_
    rw [HEe.out, HMm.out]
    exact meshN_out B1.out HM.out HO5.out (by omega)
  · have hcb : (c != 0) = true := by simpa using h0
    have HE : Hid (er = c) := by
      show er = c
      rw [← HEr.out]
      unfold doE msE
      rw [HC.out, if_neg h0]
    have H0 := hid h0
    obtain ⟨r1, r2⟩ := two_at E2.out
    have f1 := frozen_at (i := 0) E2.out
    have f2 := frozen_at (i := 1) E2.out
    clear h0
    go_wp2
    refine bodyPost_ret (results_cell2 rfl _ _ (w.heap.size + 2) 27 #[.slice none 0 0, .slice none 0 0] (0, 0) _ rfl (put2_whole E2.out _ _) Tryz.underlying27 rfl (by kernel_rfl)) rfl ?_
    rw [HE.out]
    exact meshN_none (put2_below B1.out (by omega)) H0.out

set_option maxHeartbeats 8000000 in
set_option maxRecDepth 10000 in
theorem wdDo_come (vb : Value) (n : Nat) (PV : Nat → Value) (b : Bk) (vl : Value) (np : Nat) (KV : Nat → Value) (UV : Nat → Nat → Value) (P : Ps) (N M : Int) (vd : Value) (len : Nat) (D : Nat → Int) (vp : Value) (lp : Nat) (X : Nat → Int) (need of : Int) (w : World)
    (hv : VeSl w w.heap.size vb n PV b) (hl : PsSl w w.heap.size vl np KV UV P) (hd : IntSl w w.heap.size vd len D) (hp : IntSl w w.heap.size vp lp X) (hc9 : True) :
    Calls Tryz.prog 12 #[meshV vb vl, hapV ⟨3, N, M, len, D, lp, X, need, of⟩ vd vp] w (MsPostN w (doE ⟨n, b, np, P⟩ ⟨3, N, M, len, D, lp, X, need, of⟩) (happM ⟨n, b, np, P⟩ ⟨3, N, M, len, D, lp, X, need, of⟩)) := by
  have HV := hid hv
  have HL := hid hl
  have HD := hid hd
  have HP := hid hp
  obtain ⟨ab, cb, rfl, _, _⟩ := hv
  obtain ⟨al, cl, rfl, _, _⟩ := hl
  obtain ⟨ad, cd, rfl, _, _⟩ := hd
  obtain ⟨ap, cp, rfl, _, _⟩ := hp
  have hb0 : Below w.heap.size w (((w.alloc (.cells #[.slice ab n cb, .slice al np cl] 27)).alloc (.cells #[.int .i64 3, .int .i64 N, .int .i64 M, .slice ad len cd, .slice ap lp cp, .int .i64 need, .int .i64 of] 30)).alloc (.cells #[.slice none 0 0, .slice none 0 0] 27)) := (((Below.refl w.heap.size w).alloc (Nat.le_refl _) _).alloc (by simp) _).alloc (by simp <;> omega) _
  obtain ⟨k0, k1, k2⟩ := heap_threeC w (.cells #[.slice ab n cb, .slice al np cl] 27) (.cells #[.int .i64 3, .int .i64 N, .int .i64 M, .slice ad len cd, .slice ap lp cp, .int .i64 need, .int .i64 of] 30) (.cells #[.slice none 0 0, .slice none 0 0] 27)
  obtain ⟨U, hU⟩ : ∃ u, ((w.alloc (.cells #[.slice ab n cb, .slice al np cl] 27)).alloc (.cells #[.int .i64 3, .int .i64 N, .int .i64 M, .slice ad len cd, .slice ap lp cp, .int .i64 need, .int .i64 of] 30)).alloc (.cells #[.slice none 0 0, .slice none 0 0] 27) = u := ⟨_, rfl⟩
  rw [hU] at hb0 k0 k1 k2
  obtain ⟨er, her⟩ : ∃ c, doE ⟨n, b, np, P⟩ ⟨3, N, M, len, D, lp, X, need, of⟩ = c := ⟨_, rfl⟩
  obtain ⟨mz, hmz⟩ : ∃ m, happM ⟨n, b, np, P⟩ ⟨3, N, M, len, D, lp, X, need, of⟩ = m := ⟨_, rfl⟩
  rw [her, hmz]
  have HEr := hid her
  have HMz := hid hmz
  have B0 := hid hb0
  have D0 := hid k0
  have D1 := hid k1
  have D2 := hid k2
  have CK := hid (msCheck _ n PV b _ np KV UV P U (HV.out.up hb0) (HL.out.up hb0))
  obtain ⟨c, hc⟩ : ∃ c, peersE n b np P = c := ⟨_, rfl⟩
  rw [hc] at CK
  have HC := hid hc
  obtain ⟨c0, c1⟩ := two_at k0
  unfold meshV at CK
  have HC9 := hid hc9
  clear hb0 k0 k1 k2 her hmz hc hc9
  unfold meshV hapV
  go_enter Tryz.func12, Tryz.ntmps12
  go_wp2_with fail
  refine Calls.mono CK.out ?_
  rintro e W ⟨rfl, hbW⟩
  have B1 := hid (B0.out.trans (hbW.mono B0.out.size))
  have E0 := hid (stayB D0.out hbW)
  have E1 := hid (stayB D1.out hbW)
  have E2 := hid (stayB D2.out hbW)
  clear hbW c0 c1 CK hU
  by_cases h0 : c = 0
  · subst h0
    have HE : Hid (er = happE ⟨n, b, np, P⟩ ⟨3, N, M, len, D, lp, X, need, of⟩) := by
      show er = _
      rw [← HEr.out]
      unfold doE msE
      rw [if_pos HC.out]
    have hR : MeshR n b np P := meshR_of HC.out
    have HRr := hid hR
    obtain ⟨c0, c1⟩ := two_at E0.out
    obtain ⟨x0, x1, x2, x3, x4, x5, x6⟩ := seven_atC E1.out
    clear hR
    have CS := hid (wdChange_come _ n PV b _ np KV UV P N M len D lp X need of W (HV.out.up B1.out) (HL.out.up B1.out) HRr.out)
    have hee : er = (lonE ⟨n, b, np, P⟩ ⟨3, N, M, len, D, lp, X, need, of⟩) := by
      rw [HE.out]
      rfl
    have hmm : mz = ⟨n, b, np, (lonP ⟨n, b, np, P⟩ ⟨3, N, M, len, D, lp, X, need, of⟩)⟩ := by
      rw [← HMz.out]
      rfl
    obtain ⟨e9, he9⟩ : ∃ c, (lonE ⟨n, b, np, P⟩ ⟨3, N, M, len, D, lp, X, need, of⟩) = c := ⟨_, rfl⟩
    rw [he9] at CS hee
    have HEe := hid hee
    have HMm := hid hmm
    clear he9 hee hmm
    unfold meshV at CS
    go_wp2_with fail
    refine Calls.mono CS.out ?_
    rintro e W5 hM
    have HM := hid hM
    obtain ⟨hb5, gb, gl, n5, np5, PV5, KV5, UV5, rfl, hn5, hnp5, hv5, hl5, _⟩ := hM
    clear hn5 hnp5
    obtain ⟨a5, c5, rfl, _, _⟩ := hv5
    obtain ⟨a6, c6, rfl, _, _⟩ := hl5
    unfold meshV at HM
    have o5 := stayB E2.out hb5
    have HO5 := hid o5
    obtain ⟨r1, r2⟩ := two_at o5
    have f1 := frozen_at (i := 0) o5
    have f2 := frozen_at (i := 1) o5
    unfold meshV
    clear hb5 o5 c0 c1 x0 x1 x2 x3 x4 x5 x6 CS
    go_wp2
    refine bodyPost_ret (results_cell2 rfl _ _ (w.heap.size + 2) 27 #[.slice a5 n5 c5, .slice a6 np5 c6] (0, 0) _ rfl (put2_whole HO5.out _ _) Tryz.underlying27 rfl (by kernel_rfl)) rfl ?_
    rw [HEe.out, HMm.out]
    exact meshN_out B1.out HM.out HO5.out (by omega)
  · have hcb : (c != 0) = true := by simpa using h0
    have HE : Hid (er = c) := by
      show er = c
      rw [← HEr.out]
      unfold doE msE
      rw [HC.out, if_neg h0]
    have H0 := hid h0
    obtain ⟨r1, r2⟩ := two_at E2.out
    have f1 := frozen_at (i := 0) E2.out
    have f2 := frozen_at (i := 1) E2.out
    clear h0
    go_wp2
    refine bodyPost_ret (results_cell2 rfl _ _ (w.heap.size + 2) 27 #[.slice none 0 0, .slice none 0 0] (0, 0) _ rfl (put2_whole E2.out _ _) Tryz.underlying27 rfl (by kernel_rfl)) rfl ?_
    rw [HE.out]
    exact meshN_none (put2_below B1.out (by omega)) H0.out

set_option maxHeartbeats 8000000 in
set_option maxRecDepth 10000 in
theorem wdDo_lose (vb : Value) (n : Nat) (PV : Nat → Value) (b : Bk) (vl : Value) (np : Nat) (KV : Nat → Value) (UV : Nat → Nat → Value) (P : Ps) (N M : Int) (vd : Value) (len : Nat) (D : Nat → Int) (vp : Value) (lp : Nat) (X : Nat → Int) (need of : Int) (w : World)
    (hv : VeSl w w.heap.size vb n PV b) (hl : PsSl w w.heap.size vl np KV UV P) (hd : IntSl w w.heap.size vd len D) (hp : IntSl w w.heap.size vp lp X) (hc9 : True) :
    Calls Tryz.prog 12 #[meshV vb vl, hapV ⟨4, N, M, len, D, lp, X, need, of⟩ vd vp] w (MsPostN w (doE ⟨n, b, np, P⟩ ⟨4, N, M, len, D, lp, X, need, of⟩) (happM ⟨n, b, np, P⟩ ⟨4, N, M, len, D, lp, X, need, of⟩)) := by
  have HV := hid hv
  have HL := hid hl
  have HD := hid hd
  have HP := hid hp
  obtain ⟨ab, cb, rfl, _, _⟩ := hv
  obtain ⟨al, cl, rfl, _, _⟩ := hl
  obtain ⟨ad, cd, rfl, _, _⟩ := hd
  obtain ⟨ap, cp, rfl, _, _⟩ := hp
  have hb0 : Below w.heap.size w (((w.alloc (.cells #[.slice ab n cb, .slice al np cl] 27)).alloc (.cells #[.int .i64 4, .int .i64 N, .int .i64 M, .slice ad len cd, .slice ap lp cp, .int .i64 need, .int .i64 of] 30)).alloc (.cells #[.slice none 0 0, .slice none 0 0] 27)) := (((Below.refl w.heap.size w).alloc (Nat.le_refl _) _).alloc (by simp) _).alloc (by simp <;> omega) _
  obtain ⟨k0, k1, k2⟩ := heap_threeC w (.cells #[.slice ab n cb, .slice al np cl] 27) (.cells #[.int .i64 4, .int .i64 N, .int .i64 M, .slice ad len cd, .slice ap lp cp, .int .i64 need, .int .i64 of] 30) (.cells #[.slice none 0 0, .slice none 0 0] 27)
  obtain ⟨U, hU⟩ : ∃ u, ((w.alloc (.cells #[.slice ab n cb, .slice al np cl] 27)).alloc (.cells #[.int .i64 4, .int .i64 N, .int .i64 M, .slice ad len cd, .slice ap lp cp, .int .i64 need, .int .i64 of] 30)).alloc (.cells #[.slice none 0 0, .slice none 0 0] 27) = u := ⟨_, rfl⟩
  rw [hU] at hb0 k0 k1 k2
  obtain ⟨er, her⟩ : ∃ c, doE ⟨n, b, np, P⟩ ⟨4, N, M, len, D, lp, X, need, of⟩ = c := ⟨_, rfl⟩
  obtain ⟨mz, hmz⟩ : ∃ m, happM ⟨n, b, np, P⟩ ⟨4, N, M, len, D, lp, X, need, of⟩ = m := ⟨_, rfl⟩
  rw [her, hmz]
  have HEr := hid her
  have HMz := hid hmz
  have B0 := hid hb0
  have D0 := hid k0
  have D1 := hid k1
  have D2 := hid k2
  have CK := hid (msCheck _ n PV b _ np KV UV P U (HV.out.up hb0) (HL.out.up hb0))
  obtain ⟨c, hc⟩ : ∃ c, peersE n b np P = c := ⟨_, rfl⟩
  rw [hc] at CK
  have HC := hid hc
  obtain ⟨c0, c1⟩ := two_at k0
  unfold meshV at CK
  have HC9 := hid hc9
  clear hb0 k0 k1 k2 her hmz hc hc9
  unfold meshV hapV
  go_enter Tryz.func12, Tryz.ntmps12
  go_wp2_with fail
  refine Calls.mono CK.out ?_
  rintro e W ⟨rfl, hbW⟩
  have B1 := hid (B0.out.trans (hbW.mono B0.out.size))
  have E0 := hid (stayB D0.out hbW)
  have E1 := hid (stayB D1.out hbW)
  have E2 := hid (stayB D2.out hbW)
  clear hbW c0 c1 CK hU
  by_cases h0 : c = 0
  · subst h0
    have HE : Hid (er = happE ⟨n, b, np, P⟩ ⟨4, N, M, len, D, lp, X, need, of⟩) := by
      show er = _
      rw [← HEr.out]
      unfold doE msE
      rw [if_pos HC.out]
    have hR : MeshR n b np P := meshR_of HC.out
    have HRr := hid hR
    obtain ⟨c0, c1⟩ := two_at E0.out
    obtain ⟨x0, x1, x2, x3, x4, x5, x6⟩ := seven_atC E1.out
    clear hR
    have CS := hid (wdChange_lose _ n PV b _ np KV UV P N M len D lp X need of W (HV.out.up B1.out) (HL.out.up B1.out) HRr.out)
    have hee : er = (lonE ⟨n, b, np, P⟩ ⟨4, N, M, len, D, lp, X, need, of⟩) := by
      rw [HE.out]
      rfl
    have hmm : mz = ⟨n, b, np, (lonP ⟨n, b, np, P⟩ ⟨4, N, M, len, D, lp, X, need, of⟩)⟩ := by
      rw [← HMz.out]
      rfl
    obtain ⟨e9, he9⟩ : ∃ c, (lonE ⟨n, b, np, P⟩ ⟨4, N, M, len, D, lp, X, need, of⟩) = c := ⟨_, rfl⟩
    rw [he9] at CS hee
    have HEe := hid hee
    have HMm := hid hmm
    clear he9 hee hmm
    unfold meshV at CS
    go_wp2_with fail
    refine Calls.mono CS.out ?_
    rintro e W5 hM
    have HM := hid hM
    obtain ⟨hb5, gb, gl, n5, np5, PV5, KV5, UV5, rfl, hn5, hnp5, hv5, hl5, _⟩ := hM
    clear hn5 hnp5
    obtain ⟨a5, c5, rfl, _, _⟩ := hv5
    obtain ⟨a6, c6, rfl, _, _⟩ := hl5
    unfold meshV at HM
    have o5 := stayB E2.out hb5
    have HO5 := hid o5
    obtain ⟨r1, r2⟩ := two_at o5
    have f1 := frozen_at (i := 0) o5
    have f2 := frozen_at (i := 1) o5
    unfold meshV
    clear hb5 o5 c0 c1 x0 x1 x2 x3 x4 x5 x6 CS
    go_wp2
    refine bodyPost_ret (results_cell2 rfl _ _ (w.heap.size + 2) 27 #[.slice a5 n5 c5, .slice a6 np5 c6] (0, 0) _ rfl (put2_whole HO5.out _ _) Tryz.underlying27 rfl (by kernel_rfl)) rfl ?_
    rw [HEe.out, HMm.out]
    exact meshN_out B1.out HM.out HO5.out (by omega)
  · have hcb : (c != 0) = true := by simpa using h0
    have HE : Hid (er = c) := by
      show er = c
      rw [← HEr.out]
      unfold doE msE
      rw [HC.out, if_neg h0]
    have H0 := hid h0
    obtain ⟨r1, r2⟩ := two_at E2.out
    have f1 := frozen_at (i := 0) E2.out
    have f2 := frozen_at (i := 1) E2.out
    clear h0
    go_wp2
    refine bodyPost_ret (results_cell2 rfl _ _ (w.heap.size + 2) 27 #[.slice none 0 0, .slice none 0 0] (0, 0) _ rfl (put2_whole E2.out _ _) Tryz.underlying27 rfl (by kernel_rfl)) rfl ?_
    rw [HE.out]
    exact meshN_none (put2_below B1.out (by omega)) H0.out

set_option maxHeartbeats 8000000 in
set_option maxRecDepth 10000 in
theorem wdDo_bend (vb : Value) (n : Nat) (PV : Nat → Value) (b : Bk) (vl : Value) (np : Nat) (KV : Nat → Value) (UV : Nat → Nat → Value) (P : Ps) (N M : Int) (vd : Value) (len : Nat) (D : Nat → Int) (vp : Value) (lp : Nat) (X : Nat → Int) (need of : Int) (w : World)
    (hv : VeSl w w.heap.size vb n PV b) (hl : PsSl w w.heap.size vl np KV UV P) (hd : IntSl w w.heap.size vd len D) (hp : IntSl w w.heap.size vp lp X) (hc9 : True) :
    Calls Tryz.prog 12 #[meshV vb vl, hapV ⟨5, N, M, len, D, lp, X, need, of⟩ vd vp] w (MsPostN w (doE ⟨n, b, np, P⟩ ⟨5, N, M, len, D, lp, X, need, of⟩) (happM ⟨n, b, np, P⟩ ⟨5, N, M, len, D, lp, X, need, of⟩)) := by
  have HV := hid hv
  have HL := hid hl
  have HD := hid hd
  have HP := hid hp
  obtain ⟨ab, cb, rfl, _, _⟩ := hv
  obtain ⟨al, cl, rfl, _, _⟩ := hl
  obtain ⟨ad, cd, rfl, _, _⟩ := hd
  obtain ⟨ap, cp, rfl, _, _⟩ := hp
  have hb0 : Below w.heap.size w (((w.alloc (.cells #[.slice ab n cb, .slice al np cl] 27)).alloc (.cells #[.int .i64 5, .int .i64 N, .int .i64 M, .slice ad len cd, .slice ap lp cp, .int .i64 need, .int .i64 of] 30)).alloc (.cells #[.slice none 0 0, .slice none 0 0] 27)) := (((Below.refl w.heap.size w).alloc (Nat.le_refl _) _).alloc (by simp) _).alloc (by simp <;> omega) _
  obtain ⟨k0, k1, k2⟩ := heap_threeC w (.cells #[.slice ab n cb, .slice al np cl] 27) (.cells #[.int .i64 5, .int .i64 N, .int .i64 M, .slice ad len cd, .slice ap lp cp, .int .i64 need, .int .i64 of] 30) (.cells #[.slice none 0 0, .slice none 0 0] 27)
  obtain ⟨U, hU⟩ : ∃ u, ((w.alloc (.cells #[.slice ab n cb, .slice al np cl] 27)).alloc (.cells #[.int .i64 5, .int .i64 N, .int .i64 M, .slice ad len cd, .slice ap lp cp, .int .i64 need, .int .i64 of] 30)).alloc (.cells #[.slice none 0 0, .slice none 0 0] 27) = u := ⟨_, rfl⟩
  rw [hU] at hb0 k0 k1 k2
  obtain ⟨er, her⟩ : ∃ c, doE ⟨n, b, np, P⟩ ⟨5, N, M, len, D, lp, X, need, of⟩ = c := ⟨_, rfl⟩
  obtain ⟨mz, hmz⟩ : ∃ m, happM ⟨n, b, np, P⟩ ⟨5, N, M, len, D, lp, X, need, of⟩ = m := ⟨_, rfl⟩
  rw [her, hmz]
  have HEr := hid her
  have HMz := hid hmz
  have B0 := hid hb0
  have D0 := hid k0
  have D1 := hid k1
  have D2 := hid k2
  have CK := hid (msCheck _ n PV b _ np KV UV P U (HV.out.up hb0) (HL.out.up hb0))
  obtain ⟨c, hc⟩ : ∃ c, peersE n b np P = c := ⟨_, rfl⟩
  rw [hc] at CK
  have HC := hid hc
  obtain ⟨c0, c1⟩ := two_at k0
  unfold meshV at CK
  have HC9 := hid hc9
  clear hb0 k0 k1 k2 her hmz hc hc9
  unfold meshV hapV
  go_enter Tryz.func12, Tryz.ntmps12
  go_wp2_with fail
  refine Calls.mono CK.out ?_
  rintro e W ⟨rfl, hbW⟩
  have B1 := hid (B0.out.trans (hbW.mono B0.out.size))
  have E0 := hid (stayB D0.out hbW)
  have E1 := hid (stayB D1.out hbW)
  have E2 := hid (stayB D2.out hbW)
  clear hbW c0 c1 CK hU
  by_cases h0 : c = 0
  · subst h0
    have HE : Hid (er = happE ⟨n, b, np, P⟩ ⟨5, N, M, len, D, lp, X, need, of⟩) := by
      show er = _
      rw [← HEr.out]
      unfold doE msE
      rw [if_pos HC.out]
    have hR : MeshR n b np P := meshR_of HC.out
    have HRr := hid hR
    obtain ⟨c0, c1⟩ := two_at E0.out
    obtain ⟨x0, x1, x2, x3, x4, x5, x6⟩ := seven_atC E1.out
    clear hR
    have CS := hid (wdChange_bend _ n PV b _ np KV UV P N M len D lp X need of (w.heap.size + 1) W (HV.out.up B1.out) (HL.out.up B1.out) HRr.out x2)
    have hee : er = (lonE ⟨n, b, np, P⟩ ⟨5, N, M, len, D, lp, X, need, of⟩) := by
      rw [HE.out]
      rfl
    have hmm : mz = ⟨n, b, np, (lonP ⟨n, b, np, P⟩ ⟨5, N, M, len, D, lp, X, need, of⟩)⟩ := by
      rw [← HMz.out]
      rfl
    obtain ⟨e9, he9⟩ : ∃ c, (lonE ⟨n, b, np, P⟩ ⟨5, N, M, len, D, lp, X, need, of⟩) = c := ⟨_, rfl⟩
    rw [he9] at CS hee
    have HEe := hid hee
    have HMm := hid hmm
    clear he9 hee hmm
    unfold meshV at CS
    go_wp2_with fail
    refine Calls.mono CS.out ?_
    rintro e W5 hM
    have HM := hid hM
    obtain ⟨hb5, gb, gl, n5, np5, PV5, KV5, UV5, rfl, hn5, hnp5, hv5, hl5, _⟩ := hM
    clear hn5 hnp5
    obtain ⟨a5, c5, rfl, _, _⟩ := hv5
    obtain ⟨a6, c6, rfl, _, _⟩ := hl5
    unfold meshV at HM
    have o5 := stayB E2.out hb5
    have HO5 := hid o5
    obtain ⟨r1, r2⟩ := two_at o5
    have f1 := frozen_at (i := 0) o5
    have f2 := frozen_at (i := 1) o5
    unfold meshV
    clear hb5 o5 c0 c1 x0 x1 x2 x3 x4 x5 x6 CS
    go_wp2
    refine bodyPost_ret (results_cell2 rfl _ _ (w.heap.size + 2) 27 #[.slice a5 n5 c5, .slice a6 np5 c6] (0, 0) _ rfl (put2_whole HO5.out _ _) Tryz.underlying27 rfl (by kernel_rfl)) rfl ?_
    rw [HEe.out, HMm.out]
    exact meshN_out B1.out HM.out HO5.out (by omega)
  · have hcb : (c != 0) = true := by simpa using h0
    have HE : Hid (er = c) := by
      show er = c
      rw [← HEr.out]
      unfold doE msE
      rw [HC.out, if_neg h0]
    have H0 := hid h0
    obtain ⟨r1, r2⟩ := two_at E2.out
    have f1 := frozen_at (i := 0) E2.out
    have f2 := frozen_at (i := 1) E2.out
    clear h0
    go_wp2
    refine bodyPost_ret (results_cell2 rfl _ _ (w.heap.size + 2) 27 #[.slice none 0 0, .slice none 0 0] (0, 0) _ rfl (put2_whole E2.out _ _) Tryz.underlying27 rfl (by kernel_rfl)) rfl ?_
    rw [HE.out]
    exact meshN_none (put2_below B1.out (by omega)) H0.out

set_option maxHeartbeats 8000000 in
set_option maxRecDepth 10000 in
theorem wdDo_form (vb : Value) (n : Nat) (PV : Nat → Value) (b : Bk) (vl : Value) (np : Nat) (KV : Nat → Value) (UV : Nat → Nat → Value) (P : Ps) (kd : Int) (N M : Int) (vd : Value) (len : Nat) (D : Nat → Int) (vp : Value) (lp : Nat) (X : Nat → Int) (need of : Int) (w : World)
    (hv : VeSl w w.heap.size vb n PV b) (hl : PsSl w w.heap.size vl np KV UV P) (hd : IntSl w w.heap.size vd len D) (hp : IntSl w w.heap.size vp lp X) (hc9 : kd < 1 ∨ 7 < kd) :
    Calls Tryz.prog 12 #[meshV vb vl, hapV ⟨kd, N, M, len, D, lp, X, need, of⟩ vd vp] w (MsPostN w (doE ⟨n, b, np, P⟩ ⟨kd, N, M, len, D, lp, X, need, of⟩) (happM ⟨n, b, np, P⟩ ⟨kd, N, M, len, D, lp, X, need, of⟩)) := by
  have HV := hid hv
  have HL := hid hl
  have HD := hid hd
  have HP := hid hp
  obtain ⟨ab, cb, rfl, _, _⟩ := hv
  obtain ⟨al, cl, rfl, _, _⟩ := hl
  obtain ⟨ad, cd, rfl, _, _⟩ := hd
  obtain ⟨ap, cp, rfl, _, _⟩ := hp
  have hb0 : Below w.heap.size w (((w.alloc (.cells #[.slice ab n cb, .slice al np cl] 27)).alloc (.cells #[.int .i64 kd, .int .i64 N, .int .i64 M, .slice ad len cd, .slice ap lp cp, .int .i64 need, .int .i64 of] 30)).alloc (.cells #[.slice none 0 0, .slice none 0 0] 27)) := (((Below.refl w.heap.size w).alloc (Nat.le_refl _) _).alloc (by simp) _).alloc (by simp <;> omega) _
  obtain ⟨k0, k1, k2⟩ := heap_threeC w (.cells #[.slice ab n cb, .slice al np cl] 27) (.cells #[.int .i64 kd, .int .i64 N, .int .i64 M, .slice ad len cd, .slice ap lp cp, .int .i64 need, .int .i64 of] 30) (.cells #[.slice none 0 0, .slice none 0 0] 27)
  obtain ⟨U, hU⟩ : ∃ u, ((w.alloc (.cells #[.slice ab n cb, .slice al np cl] 27)).alloc (.cells #[.int .i64 kd, .int .i64 N, .int .i64 M, .slice ad len cd, .slice ap lp cp, .int .i64 need, .int .i64 of] 30)).alloc (.cells #[.slice none 0 0, .slice none 0 0] 27) = u := ⟨_, rfl⟩
  rw [hU] at hb0 k0 k1 k2
  obtain ⟨er, her⟩ : ∃ c, doE ⟨n, b, np, P⟩ ⟨kd, N, M, len, D, lp, X, need, of⟩ = c := ⟨_, rfl⟩
  obtain ⟨mz, hmz⟩ : ∃ m, happM ⟨n, b, np, P⟩ ⟨kd, N, M, len, D, lp, X, need, of⟩ = m := ⟨_, rfl⟩
  rw [her, hmz]
  have HEr := hid her
  have HMz := hid hmz
  have B0 := hid hb0
  have D0 := hid k0
  have D1 := hid k1
  have D2 := hid k2
  have CK := hid (msCheck _ n PV b _ np KV UV P U (HV.out.up hb0) (HL.out.up hb0))
  obtain ⟨c, hc⟩ : ∃ c, peersE n b np P = c := ⟨_, rfl⟩
  rw [hc] at CK
  have HC := hid hc
  obtain ⟨c0, c1⟩ := two_at k0
  unfold meshV at CK
  have HC9 := hid hc9
  clear hb0 k0 k1 k2 her hmz hc hc9
  unfold meshV hapV
  go_enter Tryz.func12, Tryz.ntmps12
  go_wp2_with fail
  refine Calls.mono CK.out ?_
  rintro e W ⟨rfl, hbW⟩
  have B1 := hid (B0.out.trans (hbW.mono B0.out.size))
  have E0 := hid (stayB D0.out hbW)
  have E1 := hid (stayB D1.out hbW)
  have E2 := hid (stayB D2.out hbW)
  clear hbW c0 c1 CK hU
  by_cases h0 : c = 0
  · subst h0
    have HE : Hid (er = happE ⟨n, b, np, P⟩ ⟨kd, N, M, len, D, lp, X, need, of⟩) := by
      show er = _
      rw [← HEr.out]
      unfold doE msE
      rw [if_pos HC.out]
    have hR : MeshR n b np P := meshR_of HC.out
    have HRr := hid hR
    obtain ⟨c0, c1⟩ := two_at E0.out
    obtain ⟨x0, x1, x2, x3, x4, x5, x6⟩ := seven_atC E1.out
    clear hR
    have hk := HC9.out
    have q1 : (kd == 1) = false := by rw [beq_eq_false_iff_ne]; omega
    have q2 : (kd == 2) = false := by rw [beq_eq_false_iff_ne]; omega
    have q3 : (kd == 3) = false := by rw [beq_eq_false_iff_ne]; omega
    have q4 : (kd == 4) = false := by rw [beq_eq_false_iff_ne]; omega
    have q5 : (kd == 5) = false := by rw [beq_eq_false_iff_ne]; omega
    have q6 : (kd == 6) = false := by rw [beq_eq_false_iff_ne]; omega
    have q7 : (kd == 7) = false := by rw [beq_eq_false_iff_ne]; omega
    have HE3 : Hid (er = 3) := by
      show er = 3
      rw [HE.out]
      unfold happE
      simp only
      rw [if_neg (by omega), if_neg (by omega), if_neg (by omega), if_neg (by omega)]
    obtain ⟨r1, r2⟩ := two_at E2.out
    have f1 := frozen_at (i := 0) E2.out
    have f2 := frozen_at (i := 1) E2.out
    clear hk
    go_wp2
    refine bodyPost_ret (results_cell2 rfl _ _ (w.heap.size + 2) 27 #[.slice none 0 0, .slice none 0 0] (0, 0) _ rfl (put2_whole E2.out _ _) Tryz.underlying27 rfl (by kernel_rfl)) rfl ?_
    rw [HE3.out]
    exact meshN_none (put2_below B1.out (by omega)) (by omega)
  · have hcb : (c != 0) = true := by simpa using h0
    have HE : Hid (er = c) := by
      show er = c
      rw [← HEr.out]
      unfold doE msE
      rw [HC.out, if_neg h0]
    have H0 := hid h0
    obtain ⟨r1, r2⟩ := two_at E2.out
    have f1 := frozen_at (i := 0) E2.out
    have f2 := frozen_at (i := 1) E2.out
    clear h0
    go_wp2
    refine bodyPost_ret (results_cell2 rfl _ _ (w.heap.size + 2) 27 #[.slice none 0 0, .slice none 0 0] (0, 0) _ rfl (put2_whole E2.out _ _) Tryz.underlying27 rfl (by kernel_rfl)) rfl ?_
    rw [HE.out]
    exact meshN_none (put2_below B1.out (by omega)) H0.out

theorem wdDo (vb : Value) (n : Nat) (PV : Nat → Value) (b : Bk) (vl : Value) (np : Nat) (KV : Nat → Value) (UV : Nat → Nat → Value) (P : Ps) (x : Hp) (vd vp : Value) (w : World) (hv : VeSl w w.heap.size vb n PV b) (hl : PsSl w w.heap.size vl np KV UV P) (hx : HpAt w w.heap.size x vd vp) :
    Calls Tryz.prog 12 #[meshV vb vl, hapV x vd vp] w (MsPostN w (doE ⟨n, b, np, P⟩ x) (happM ⟨n, b, np, P⟩ x)) := by
  obtain ⟨kd, N, M, len, D, lp, X, need, of⟩ := x
  obtain ⟨hd, hp⟩ := hx
  by_cases h : kd < 1 ∨ 7 < kd
  · exact wdDo_form vb n PV b vl np KV UV P kd N M vd len D vp lp X need of w hv hl hd hp h
  · have hc : kd = 1 ∨ kd = 2 ∨ kd = 3 ∨ kd = 4 ∨ kd = 5 ∨ kd = 6 ∨ kd = 7 := by omega
    rcases hc with rfl | rfl | rfl | rfl | rfl | rfl | rfl
    · exact wdDo_save vb n PV b vl np KV UV P N M vd len D vp lp X need of w hv hl hd hp trivial
    · exact wdDo_leave vb n PV b vl np KV UV P N M vd len D vp lp X need of w hv hl hd hp trivial
    · exact wdDo_come vb n PV b vl np KV UV P N M vd len D vp lp X need of w hv hl hd hp trivial
    · exact wdDo_lose vb n PV b vl np KV UV P N M vd len D vp lp X need of w hv hl hd hp trivial
    · exact wdDo_bend vb n PV b vl np KV UV P N M vd len D vp lp X need of w hv hl hd hp trivial
    · exact wdDo_repair vb n PV b vl np KV UV P N M vd len D vp lp X need of w hv hl hd hp trivial
    · exact wdDo_forget vb n PV b vl np KV UV P N M vd len D vp lp X need of w hv hl hd hp trivial

end Go.Proofs.YtajmnlhfnhbleaaGreat
