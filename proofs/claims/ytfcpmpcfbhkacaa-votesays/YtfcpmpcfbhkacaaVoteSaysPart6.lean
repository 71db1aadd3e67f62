/- Several texts of one proof, in their order. -/
import Derived.Test.YtfcpmpcfbhkacaaVoteSaysPart5

/- The law VoteSays. -/
namespace Go.Proofs.Ytfcpmpcfbhkacaa

open Go.RowKit CurveMath
set_option linter.unusedVariables false

set_option maxRecDepth 10000 in
set_option maxHeartbeats 4000000 in
theorem voteSays_of (nd of sz : Int) (a1 : Option Addr) (n cap1 : Nat) (N : Nat → Int) (V : Nat → Value) (L : Nat → Nat) (X : Nat → Nat → Int) (w : World) (w1 : ShSl w w.heap.size (.slice a1 n cap1) n N V L X) :
    Calls Try.prog 8 #[planV nd of sz, .slice a1 n cap1] w fun e w' => e = .returned (.bool true) ∧ Below w.heap.size w w' := by
  have hbx := below_alloc w (.cells #[.int .i64 nd, .int .i64 of, .int .i64 sz] 23)
  have HM := hid (most_any nd of sz _ n N V L X _ (w1.up hbx))
  have HSl := hid w1
  have HBx := hid hbx
  clear hbx w1
  unfold planV
  go_enter Try.func8, Try.ntmps8
  go_wp2_with fail
  refine HM.out.mono ?_
  rintro e w3 ⟨hb3, r, b, mm, rfl, hmm, hr, hbb⟩
  have p0 : w3.cell? ⟨w.heap.size, 0, none⟩ = some (.int .i64 nd) := by rw [hb3.cell (by simp)]; exact cell_at (heap_alloc_new _ _) rfl
  have p1 : w3.cell? ⟨w.heap.size, 1, none⟩ = some (.int .i64 of) := by rw [hb3.cell (by simp)]; exact cell_at (heap_alloc_new _ _) rfl
  have p2 : w3.cell? ⟨w.heap.size, 2, none⟩ = some (.int .i64 sz) := by rw [hb3.cell (by simp)]; exact cell_at (heap_alloc_new _ _) rfl
  have HB3 := hid (HBx.out.trans (hb3.mono HBx.out.size))
  have HEl := hid (elect_any nd of sz _ n N V L X w3 (HSl.out.up HB3.out))
  have HR := hid hr
  have HBb := hid hbb
  have HMm := hid hmm
  obtain ⟨ar, cr, hre, _, _⟩ := hr
  subst hre
  obtain ⟨ab, cb, hbe, _, _⟩ := hbb
  subst hbe
  clear hb3 hmm HM
  go_wp2_with fail
  refine HEl.out.mono ?_
  rintro e w4 ⟨hb4, r4, b4, m4, rfl, hm4, hr4, hbb4⟩
  have hmm4 : mm = m4 := by have := HMm.out; omega
  subst hmm4
  have HB4 := hid (HB3.out.trans (hb4.mono HB3.out.size))
  have HR3 := hid (HR.out.up hb4)
  have HBb3 := hid (HBb.out.up hb4)
  have HR4 := hid hr4
  have HBb4 := hid hbb4
  obtain ⟨ar4, cr4, hre4, _, _⟩ := hr4
  subst hre4
  obtain ⟨ab4, cb4, hbe4, _, _⟩ := hbb4
  subst hbe4
  clear hb4 hm4 HEl p0 p1 p2
  obtain ⟨c, hc⟩ : ∃ c, mostE nd of sz n N L X = c := ⟨_, rfl⟩
  obtain ⟨lb, hlb⟩ : ∃ lb, (mostB nd of sz n N L X).length = lb := ⟨_, rfl⟩
  rw [hlb] at HBb3 HBb4
  simp only [hc, hlb]
  clear hc hlb
  go_wp2_with fail
  refine Calls.mono (voted_any _) ?_
  rintro e w5 ⟨rfl, hb5⟩
  have HB5 := hid (HB4.out.trans (hb5.mono HB4.out.size))
  have HEq := hid (equal_isl (HR3.out.up hb5) (HR4.out.up hb5))
  rw [eqB_yes rfl (fun _ _ => rfl)] at HEq
  have HB35 := hid (HBb3.out.up hb5)
  have HB45 := hid (HBb4.out.up hb5)
  clear hb5
  go_wp2_with fail
  refine Calls.mono HEq.out ?_
  rintro e w6 ⟨rfl, q6, hq6⟩
  have hb6 : Below w5.heap.size w5 w6 := by rw [hq6]; exact ⟨rfl, rfl, rfl, Nat.le_refl _, fun _ _ => rfl⟩
  have HB6 := hid (HB5.out.trans (hb6.mono HB5.out.size))
  have HEq2 := hid (equal_isl (HB35.out.up hb6) (HB45.out.up hb6))
  rw [eqB_yes rfl (fun _ _ => rfl)] at HEq2
  clear hb6 hq6 HEq
  go_wp2_with fail
  refine Calls.mono HEq2.out ?_
  rintro e w7 ⟨rfl, q7, hq7⟩
  have HB7 : Hid (Below w.heap.size w w7) := HB6.out.trans (by rw [hq7]; exact ⟨rfl, rfl, rfl, Nat.le_refl _, fun _ _ => rfl⟩)
  clear hq7 HEq2
  go_wp2
  go_ret
  exact ⟨rfl, HB7.out⟩

end Go.Proofs.Ytfcpmpcfbhkacaa
