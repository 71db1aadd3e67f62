/- Several texts of one proof, in their order. -/
import Derived.Test.YtfcpmpcfbhkacaaVb14
import Derived.Test.YtfcpmpcfbhkacaaVb15

/- What chapter 3's reference splits: all shares of a content, errors too. -/
namespace Go.Proofs.Ytfcpmpcfbhkacaa

open Go.RowKit CurveMath
set_option linter.unusedVariables false

theorem OwnS.pushS {w0 wr w1 : World} {v v' : Value} {k : Nat} {N N' : Nat → Int} {V V' : Nat → Value} {x : Int} {u : Value} {o : Obj} (h : OwnS w0 wr v k N V)
    (ho : w1.ownsRow w0.heap.size 27 2 v' (k + 1) (flatS k N V ++ [.int .i64 x, u])) (hg : (wr.alloc o).grownBy w1 v.ownBlock) (hN : ∀ j, j < k → N' j = N j ∧ V' j = V j) (hx : N' k = x) (hu : V' k = u) : OwnS w0 w1 v' (k + 1) N' V' := by
  refine ⟨?_, ?_⟩
  · rw [flatS_succ, hx, hu, flatS_congr (N' := N) (V' := V) hN]
    exact ho
  · have hbA : Below w0.heap.size w0 (wr.alloc o) := h.2.alloc h.2.size o
    exact hbA.grown hg hbA.size (fun g hgg => (h.1.lt g hgg).1)

theorem OwnS.up {w0 wr w' : World} {v : Value} {k : Nat} {N : Nat → Int} {V : Nat → Value} (h : OwnS w0 wr v k N V) (hb : Below wr.heap.size wr w') : OwnS w0 w' v k N V :=
  ⟨owns_below h.1 hb, h.2.trans (hb.mono h.2.size)⟩

/-- a list that lies in another block -/
def Off (vo v : Value) : Prop := ∀ ad n c, v = .slice (some ad) n c → some ad.block ≠ vo.ownBlock

theorem IntSl.grown {w w' : World} {vo v : Value} {n : Nat} {X : Nat → Int} (h : IntSl w w.heap.size v n X) (hg : w.grownBy w' vo.ownBlock) (ho : Off vo v) : IntSl w' w'.heap.size v n X := by
  obtain ⟨ad, cap, rfl, h0, h2⟩ := h
  refine ⟨ad, cap, rfl, h0, ?_⟩
  rcases h2 with h2 | ⟨b, off, rfl, h4, h5⟩
  · exact Or.inl h2
  · exact Or.inr ⟨b, off, rfl, Nat.lt_of_lt_of_le h4 hg.size, fun j hj => hg.cell (h5 j hj) (ho ⟨b, off, none⟩ _ _ rfl)⟩

theorem IntSl.lt {w : World} {ad : Addr} {c n : Nat} {X : Nat → Int} (h : IntSl w w.heap.size (.slice (some ad) n c) n X) (hn : 1 ≤ n) : ad.block < w.heap.size := by
  obtain ⟨ad', cap, e, h0, h2⟩ := h
  injection e with e1
  rcases h2 with h2 | ⟨b, off, e2, h4, h5⟩
  · omega
  · rw [← e1] at e2
    injection e2 with e2
    rw [e2]
    exact h4

theorem off_step {w3 w4 : World} {vo v1 v : Value} {R : Nat} {X : Nat → Int} {o : Obj} (hR : 1 ≤ R) (hv : IntSl w3 w3.heap.size v R X) (hoff : Off vo v) (hg : (w3.alloc o).grownBy w4 vo.ownBlock) (hat : v1.ownBlock = vo.ownBlock ∨ v1.ownBlock = some (w3.alloc o).heap.size) : IntSl w4 w4.heap.size v R X ∧ Off v1 v := by
  refine ⟨(hv.alloc o).grown hg hoff, fun ad n' c' e' => ?_⟩
  rcases hat with e | e
  · rw [e]; exact hoff ad n' c' e'
  · rw [e]
    obtain ⟨ad2, cap, e2, h0, h2⟩ := hv
    rw [e'] at e2
    injection e2 with e3
    rcases h2 with h2 | ⟨b, off, e4, h4, h5⟩
    · omega
    · rw [← e3] at e4
      injection e4 with e4
      rw [e4]
      intro e5
      injection e5 with e5
      simp at e5
      omega

end Go.Proofs.Ytfcpmpcfbhkacaa

/- What chapter 3's reference says of a list of shares: the first error, or that they are too few. -/
namespace Go.Proofs.Ytfcpmpcfbhkacaa

open Go.RowKit CurveMath
set_option linter.unusedVariables false

section

variable {nd of sz : Int} {N : Nat → Int} {L : Nat → Nat} {X : Nat → Nat → Int} {n k : Nat} {e : Int}

theorem scanS_bad (hk : k < n) (h : scanS nd of sz N L X (n - k) k = e) (hb : oneE nd of sz (N k) (L k) (X k) ≠ 0) : e = oneE nd of sz (N k) (L k) (X k) := by
  rw [show n - k = (n - k - 1) + 1 by omega] at h
  simp only [scanS] at h
  rw [if_neg hb] at h
  exact h.symm

theorem scanS_dup (hk : k < n) (h : scanS nd of sz N L X (n - k) k = e) (hb : oneE nd of sz (N k) (L k) (X k) = 0) (hd : hasB N k (N k) = true) : e = 5 := by
  rw [show n - k = (n - k - 1) + 1 by omega] at h
  simp only [scanS] at h
  rw [if_pos hb, if_pos hd] at h
  exact h.symm

theorem scanS_next (hk : k < n) (h : scanS nd of sz N L X (n - k) k = e) (hb : oneE nd of sz (N k) (L k) (X k) = 0) (hd : hasB N k (N k) = false) : scanS nd of sz N L X (n - (k + 1)) (k + 1) = e := by
  rw [show n - k = (n - (k + 1)) + 1 by omega] at h
  simp only [scanS] at h
  rw [if_pos hb, if_neg (by rw [hd]; decide)] at h
  exact h

theorem oneE_who (h : oneE nd of sz (N k) (L k) (X k) = 0) : planOk nd of sz = true ∧ (0 ≤ N k ∧ N k < of) ∧ (L k : Int) = rowsN nd sz ∧ ∀ j, j < L k → 0 ≤ X k j ∧ X k j ≤ 30 := by
  unfold oneE at h
  by_cases h1 : planOk nd of sz = true
  · rw [if_pos h1] at h
    by_cases h2 : 0 ≤ N k ∧ N k < of
    · rw [if_pos h2] at h
      by_cases h3 : (L k : Int) = rowsN nd sz
      · rw [if_pos h3] at h
        by_cases h4 : numsB (L k) (X k) = true
        · exact ⟨h1, h2, h3, fun j hj => (isNum_iff _).1 ((of_decide_eq_true h4) j hj)⟩
        · rw [if_neg h4] at h; omega
      · rw [if_neg h3] at h; omega
    · rw [if_neg h2] at h; omega
  · rw [if_neg h1] at h; omega

end

/-- the first error of a list of shares, or that they are too few -/
def checksE (nd of sz : Int) (n : Nat) (N : Nat → Int) (L : Nat → Nat) (X : Nat → Nat → Int) : Int :=
  if planOk nd of sz = true then (if n ≤ 8 then (if scanS nd of sz N L X n 0 = 0 then (if nd ≤ (n : Int) then 0 else 7) else scanS nd of sz N L X n 0) else 1) else 2

theorem hasB_next (X : Nat → Int) (k : Nat) (v : Int) : hasB X (k + 1) v = (if X k = v then true else hasB X k v) := by
  by_cases h : X k = v
  · rw [if_pos h, hasB_iff]
    exact ⟨k, by omega, h⟩
  · rw [if_neg h]
    rw [Bool.eq_iff_iff, hasB_iff, hasB_iff]
    constructor
    · rintro ⟨j, hj, e⟩
      by_cases hjk : j = k
      · subst hjk; exact absurd e h
      · exact ⟨j, by omega, e⟩
    · rintro ⟨j, hj, e⟩; exact ⟨j, by omega, e⟩

/-- the plan, and which numbers were seen -/
structure SeenInv (w wr : World) (A : Nat) (nd of sz : Int) (N : Nat → Int) (j : Nat) : Prop where
  below : Below w.heap.size w wr
  ge : w.heap.size < A
  p0 : wr.cell? ⟨w.heap.size, 0, none⟩ = some (.int .i64 nd)
  p1 : wr.cell? ⟨w.heap.size, 1, none⟩ = some (.int .i64 of)
  p2 : wr.cell? ⟨w.heap.size, 2, none⟩ = some (.int .i64 sz)
  s : ∀ i, i < 8 → wr.cell? ⟨A, i, none⟩ = some (.bool (hasB N j (i : Int)))
  f : ∀ i, i < 8 → wr.frozen? ⟨A, i, none⟩ = false

theorem SeenInv.up {w wr w' : World} {A : Nat} {nd of sz : Int} {N : Nat → Int} {j : Nat} (h : SeenInv w wr A nd of sz N j) (hb : Below wr.heap.size wr w') : SeenInv w w' A nd of sz N j :=
  ⟨h.below.trans (hb.mono h.below.size), h.ge, by rw [hb.cell (cell_lt h.p0)]; exact h.p0, by rw [hb.cell (cell_lt h.p1)]; exact h.p1, by rw [hb.cell (cell_lt h.p2)]; exact h.p2,
    fun i hi => by rw [hb.cell (cell_lt (h.s i hi))]; exact h.s i hi, fun i hi => by rw [hb.frozen (cell_lt (h.s i hi))]; exact h.f i hi⟩

theorem SeenInv.next {w wr : World} {A : Nat} {nd of sz : Int} {N : Nat → Int} {j ν : Nat} (h : SeenInv w wr A nd of sz N j) (hν : ν < 8) (e : N j = (ν : Int)) : SeenInv w (wr.setCell ⟨A, ν, none⟩ (.bool true)) A nd of sz N (j + 1) := by
  have hge := h.ge
  have ho : ∀ (o : Nat) (v : Value), wr.cell? ⟨w.heap.size, o, none⟩ = some v → (wr.setCell ⟨A, ν, none⟩ (.bool true)).cell? ⟨w.heap.size, o, none⟩ = some v := fun o v hv => by
    rw [World.cell?_setCell_other _ _ _ _ (by intro e; injection e with e1; omega)]; exact hv
  refine ⟨h.below.setCell (p := ⟨A, ν, none⟩) (by show w.heap.size ≤ A; omega) _, h.ge, ho _ _ h.p0, ho _ _ h.p1, ho _ _ h.p2, fun i hi => ?_, fun i hi => by rw [World.frozen?_setCell]; exact h.f i hi⟩
  rw [hasB_next, e]
  by_cases hie : i = ν
  · subst hie
    rw [if_pos rfl]
    exact World.cell?_setCell_same _ _ _ (h.s i hi)
  · rw [if_neg (by omega), World.cell?_setCell_other _ _ _ _ (by intro e; injection e with _ e2; omega)]
    exact h.s i hi

set_option maxHeartbeats 2000000 in
theorem checkShares_any (nd of sz : Int) (v : Value) (n : Nat) (N : Nat → Int) (V : Nat → Value) (L : Nat → Nat) (X : Nat → Nat → Int) (w : World) (h : ShSl w w.heap.size v n N V L X) :
    Calls Try.prog 45 #[planV nd of sz, v] w fun e w' => e = .returned (.int .i64 (checksE nd of sz n N L X)) ∧ Below w.heap.size w w' := by
  have hbx := below_alloc w (.cells #[.int .i64 nd, .int .i64 of, .int .i64 sz] 23)
  have HC := hid (checkPlan_any nd of sz (w.alloc (.cells #[.int .i64 nd, .int .i64 of, .int .i64 sz] 23)))
  have HS := hid h
  have HBx := hid hbx
  obtain ⟨ad, cap, rfl, ⟨hcap, hbig⟩, hx⟩ := h
  obtain ⟨ans, hans⟩ : ∃ a, checksE nd of sz n N L X = a := ⟨_, rfl⟩
  rw [hans]
  unfold checksE at hans
  clear hbx
  by_cases hp : planOk nd of sz = true
  · have e : chkP nd of sz = 0 := by unfold chkP; rw [if_pos hp]
    rw [e] at HC
    rw [if_pos hp] at hans
    obtain ⟨hnd, hof, hsz⟩ := planOk_spec hp
    clear hp e
    unfold planV
    go_enter Try.func45, Try.ntmps45
    go_wp2_with fail
    refine HC.out.mono ?_
    rintro e w1 ⟨rfl, hb1⟩
    have p0 : w1.cell? ⟨w.heap.size, 0, none⟩ = some (.int .i64 nd) := by rw [hb1.cell (by simp)]; exact cell_at (heap_alloc_new _ _) rfl
    have p1 : w1.cell? ⟨w.heap.size, 1, none⟩ = some (.int .i64 of) := by rw [hb1.cell (by simp)]; exact cell_at (heap_alloc_new _ _) rfl
    have p2 : w1.cell? ⟨w.heap.size, 2, none⟩ = some (.int .i64 sz) := by rw [hb1.cell (by simp)]; exact cell_at (heap_alloc_new _ _) rfl
    have HB1 := hid (HBx.out.trans (hb1.mono HBx.out.size))
    have hwl : w.heap.size < w1.heap.size := cell_lt p0
    clear hb1
    by_cases hn8 : n ≤ 8
    · rw [if_pos hn8] at hans
      have hn9 : ((n : Int) ≤ 8) := by omega
      have HA := hid hans
      clear hans
      have J0 : Hid (SeenInv w (w1.alloc (.cells #[.bool false, .bool false, .bool false, .bool false, .bool false, .bool false, .bool false, .bool false] 88)) w1.heap.size nd of sz N 0) := by
        have hb := below_alloc w1 (.cells #[.bool false, .bool false, .bool false, .bool false, .bool false, .bool false, .bool false, .bool false] 88)
        have hh := heap_alloc_new w1 (.cells #[.bool false, .bool false, .bool false, .bool false, .bool false, .bool false, .bool false, .bool false] 88)
        refine ⟨HB1.out.trans (hb.mono HB1.out.size), hwl, by rw [hb.cell (cell_lt p0)]; exact p0, by rw [hb.cell (cell_lt p1)]; exact p1, by rw [hb.cell (cell_lt p2)]; exact p2, fun i hi => ?_, fun i hi => frozen_at hh⟩
        have e : hasB N 0 (i : Int) = false := rfl
        rw [e]
        rcases (show i = 0 ∨ i = 1 ∨ i = 2 ∨ i = 3 ∨ i = 4 ∨ i = 5 ∨ i = 6 ∨ i = 7 by omega) with rfl | rfl | rfl | rfl | rfl | rfl | rfl | rfl <;> exact cell_at hh rfl
      clear p0 p1 p2
      go_wp2
      go_loopw [20] (fun iv wr => ∃ j : Nat, j ≤ n ∧ iv = .int .i64 j ∧ Hid (SeenInv w wr w1.heap.size nd of sz N j) ∧ Hid (scanS nd of sz N L X (n - j) j = scanS nd of sz N L X n 0)) (fun iv _ => n - (intOf iv).toNat)
      case atStart => exact ⟨0, Nat.zero_le _, rfl, J0, rfl⟩
      case round =>
        obtain ⟨j, hj, rfl, J, SC⟩ := hrel
        by_cases hlt : j < n
        · have hji : (j : Int) < (n : Int) := by omega
          have hx5 : ∃ b off, ad = some ⟨b, off, none⟩ ∧ b < w.heap.size ∧ (w.cell? ⟨b, off + j * 2, none⟩ = some (.int .i64 (N j)) ∧ w.cell? ⟨b, off + j * 2 + 1, none⟩ = some (V j) ∧ IntSl w w.heap.size (V j) (L j) (X j)) := by
            rcases hx with h0 | ⟨b, off, rfl, hb, h5⟩
            · omega
            · exact ⟨b, off, rfl, hb, h5 j hlt⟩
          obtain ⟨b, off, rfl, hb, x1, x2, x3⟩ := hx5
          have HI3 : Hid (∀ w', Below w.heap.size w w' → IntSl w' w'.heap.size (V j) (L j) (X j)) := fun w' hb' => x3.up hb'
          obtain ⟨av, cv, hve, _, _⟩ := x3
          rw [hve] at HI3
          have g1 : wr.cell? ⟨b, off + j * 2, none⟩ = some (.int .i64 (N j)) := by rw [J.out.below.cell hb]; exact x1
          have g2 : wr.cell? ⟨b, off + j * 2 + 1, none⟩ = some (.slice av (L j) cv) := by rw [J.out.below.cell hb, x2, hve]
          have q0 := J.out.p0
          have q1 := J.out.p1
          have q2 := J.out.p2
          have lp : w.heap.size < wr.heap.size := cell_lt q0
          obtain ⟨W, hW⟩ : ∃ W, wr.alloc (.cells #[.int .i64 (N j), .slice av (L j) cv] 27) = W := ⟨_, rfl⟩
          have JA := J.out.up (below_alloc wr (.cells #[.int .i64 (N j), .slice av (L j) cv] 27))
          have bx : W.cell? ⟨wr.heap.size, 0, none⟩ = some (.int .i64 (N j)) := by rw [← hW]; exact cell_at (heap_alloc_new _ _) rfl
          have by' : W.cell? ⟨wr.heap.size, 1, none⟩ = some (.slice av (L j) cv) := by rw [← hW]; exact cell_at (heap_alloc_new _ _) rfl
          rw [hW] at JA
          have q0' := JA.p0
          have q1' := JA.p1
          have q2' := JA.p2
          have HOn := hid (checkShare_any nd of sz (N j) _ (L j) (X j) W (HI3.out W JA.below))
          have HJA := hid JA
          clear x1 x2 hve JA
          obtain ⟨c, hc⟩ : ∃ c, oneE nd of sz (N j) (L j) (X j) = c := ⟨_, rfl⟩
          rw [hc] at HOn
          have HCc := hid hc
          clear hc
          by_cases hc0 : c = 0
          · subst hc0
            obtain ⟨_, hwho, _, _⟩ := oneE_who HCc.out
            obtain ⟨ν, hν⟩ : ∃ ν : Nat, N j = ν := ⟨(N j).toNat, by omega⟩
            have hν8 : ν < 8 := by omega
            have hνi : (ν : Int) < 8 := by omega
            have HN := hid hν
            clear hν hwho
            go_wp2_with fail
            refine Calls.mono HOn.out ?_
            rintro e w2 ⟨rfl, hb2⟩
            have J2 := hid (HJA.out.up hb2)
            have bx2 : w2.cell? ⟨wr.heap.size, 0, none⟩ = some (.int .i64 (ν : Int)) := by rw [hb2.cell (cell_lt bx), ← HN.out]; exact bx
            have sc := J2.out.s ν hν8
            have sf := J2.out.f ν hν8
            clear hb2
            cases hd : hasB N j (ν : Int) with
            | true =>
              rw [hd] at sc
              have h5 := scanS_dup hlt SC.out HCc.out (by rw [HN.out]; exact hd)
              have hA := HA.out
              rw [h5, if_neg (by decide)] at hA
              subst hA
              clear h5
              go_wp2
              go_ret
              exact ⟨rfl, J2.out.below⟩
            | false =>
              rw [hd] at sc
              go_wp2
              go_roundw
              case rel => exact ⟨j + 1, by omega, by go_num, J2.out.next hν8 HN.out, scanS_next hlt SC.out HCc.out (by rw [HN.out]; exact hd)⟩
              case measure => simp only [intOf]; omega
          · have hcb : (c != 0) = true := by simpa using hc0
            have h5 := scanS_bad hlt SC.out (by rw [HCc.out]; exact hc0)
            rw [HCc.out] at h5
            have hA := HA.out
            rw [h5, if_neg hc0] at hA
            subst hA
            clear h5 hc0
            go_wp2_with fail
            refine Calls.mono HOn.out ?_
            rintro e w2 ⟨rfl, hb2⟩
            have J2 := hid (HJA.out.up hb2)
            clear hb2
            go_wp2
            go_ret
            exact ⟨rfl, J2.out.below⟩
        · have hje : j = n := by omega
          subst hje
          have h5 := SC.out
          rw [Nat.sub_self] at h5
          have h6 : scanS nd of sz N L X j 0 = 0 := h5.symm
          have hA := HA.out
          rw [if_pos h6] at hA
          have q0 := J.out.p0
          clear h5 h6
          by_cases hle : nd ≤ (j : Int)
          · rw [if_pos hle] at hA
            subst hA
            go_wp2
            go_ret
            exact ⟨rfl, J.out.below⟩
          · rw [if_neg hle] at hA
            subst hA
            have hle2 : (j : Int) < nd := by omega
            clear hle
            go_wp2
            go_ret
            exact ⟨rfl, J.out.below⟩
    · rw [if_neg hn8] at hans
      subst hans
      have hn9 : (8 : Int) < (n : Int) := by omega
      go_wp2
      go_ret
      exact ⟨rfl, HB1.out⟩
  · have e : chkP nd of sz = 2 := by unfold chkP; rw [if_neg hp]
    rw [e] at HC
    rw [if_neg hp] at hans
    subst hans
    clear hp e
    unfold planV
    go_enter Try.func45, Try.ntmps45
    go_wp2_with (go_at_call 18; go_must (refine HC.out.mono ?_; rintro e w1 ⟨rfl, hb1⟩; have HB1 := hid (HBx.out.trans (hb1.mono HBx.out.size)); clear hb1))
    go_ret
    exact ⟨rfl, HB1.out⟩

end Go.Proofs.Ytfcpmpcfbhkacaa
