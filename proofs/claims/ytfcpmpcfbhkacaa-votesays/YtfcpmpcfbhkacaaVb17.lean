/- Several texts of one proof, in their order. -/
import Derived.Test.YtfcpmpcfbhkacaaVb16

/- What chapter 3's reference makes of shares that are in order: the content, if nothing is behind it. -/
namespace Go.Proofs.Ytfcpmpcfbhkacaa

open Go.RowKit CurveMath
set_option linter.unusedVariables false

def madeB (d s R : Nat) (N : Nat → Int) (X : Nat → Nat → Int) : Bool := decide (∀ i, i < R * d → i < s ∨ joinD d N X i = 0)

/-- what made leaves -/
def MadePost (w : World) (d s R : Nat) (N : Nat → Int) (X : Nat → Nat → Int) (e : Ending) (w' : World) : Prop :=
  Below w.heap.size w w' ∧ ((madeB d s R N X = true ∧ ∃ v, e = .returned (.tuple #[v, .bool true]) ∧ IntSl w' w'.heap.size v s (joinD d N X)) ∨ (madeB d s R N X = false ∧ e = .returned (.tuple #[.slice none 0 0, .bool false])))

theorem OwnI.slice {w0 wr : World} {v : Value} {n : Nat} {C : Nat → Int} (h : OwnI w0 wr v n C) : ∃ ad cap, v = .slice ad n cap := h.shape

theorem joinD_row {d r t : Nat} {N : Nat → Int} {X : Nat → Nat → Int} (ht : t < d) : joinD d N X (r * d + t) = crv d N (fun j => X j r) (t : Int) := by
  unfold joinD
  have e1 : (r * d + t) / d = r := by rw [Nat.mul_comm, Nat.mul_add_div (by omega), Nat.div_eq_of_lt ht, Nat.add_zero]
  have e2 : (r * d + t) % d = t := by rw [Nat.mul_comm, Nat.mul_add_mod, Nat.mod_eq_of_lt ht]
  rw [e1, e2]

/-- one list that grows, one that stays, in another block -/
structure Beside (w2 wz : World) (vd vy : Value) (n k : Nat) (C Y : Nat → Int) : Prop where
  d : OwnI w2 wz vd n C
  y : IntSl wz wz.heap.size vy k Y
  off : Off vd vy

theorem Beside.start {w2 wr wz : World} {vd vy : Value} {n k : Nat} {C Y : Nat → Int} (hd : OwnI w2 wr vd n C) (hy : OwnI wr wz vy k Y) (hk : 1 ≤ k) (hk8 : k ≤ 100) : Beside w2 wz vd vy n k C Y := by
  refine ⟨hd.below hy.2, hy.isl hk (by omega), fun ad n' c' e e2 => ?_⟩
  have h1 := (hd.1.lt ad.block e2.symm).2
  have h2 := (hy.1.lt ad.block (by rw [e]; rfl)).1
  omega

theorem Beside.next {w2 wz w6 : World} {vd vd' vy : Value} {n k : Nat} {C Y : Nat → Int} {x : Int} {o : Obj} (h : Beside w2 wz vd vy n k C Y) (hk : 1 ≤ k)
    (ho : w6.ownsRow w2.heap.size 3 1 vd' (n + 1) (((List.range n).map fun j => Value.int .i64 (C j)) ++ [.int .i64 x])) (hg : (wz.alloc o).grownBy w6 vd.ownBlock) (hat : vd'.ownBlock = vd.ownBlock ∨ vd'.ownBlock = some (wz.alloc o).heap.size) (hx : C n = x) :
    Beside w2 w6 vd' vy (n + 1) k C Y := by
  obtain ⟨h1, h2⟩ := off_step hk h.y h.off hg hat
  exact ⟨h.d.pushA o ho hg hx, h1, h2⟩

theorem Beside.up {w2 wz w6 : World} {vd vy : Value} {n k : Nat} {C Y : Nat → Int} (h : Beside w2 wz vd vy n k C Y) (hb : Below wz.heap.size wz w6) : Beside w2 w6 vd vy n k C Y := ⟨h.d.below hb, h.y.up hb, h.off⟩

set_option maxHeartbeats 4000000 in
set_option maxRecDepth 10000 in
theorem made_any (d m s n : Nat) (a : Option Addr) (cp : Nat) (N : Nat → Int) (V : Nat → Value) (L : Nat → Nat) (X : Nat → Nat → Int) (w : World) (hp : planOk (d : Int) (m : Int) (s : Int) = true) {R : Nat} (hR : rowsN (d : Int) (s : Int) = R) (hdn : d ≤ n)
    (hL : ∀ j, j < d → L j = R) (hG : ∀ r, r < R → Good d d N (fun j => X j r)) (h : ShSl w w.heap.size (.slice a n cp) n N V L X) :
    Calls Try.prog 46 #[planV (d : Int) (m : Int) (s : Int), .slice a n cp] w fun e w' => MadePost w d s R N X e w' := by
  obtain ⟨hnd, hof, hsz⟩ := planOk_spec hp
  have hrb := rowsN_bd hnd hsz
  rw [hR] at hrb
  have hRo := fun w => rowsOf_any (d : Int) (m : Int) (s : Int) w
  have e2 : longP (d : Int) (m : Int) (s : Int) = (R : Int) := by unfold longP; rw [if_pos hp, hR]
  rw [e2] at hRo
  have HRo := hid hRo
  have hdd : 1 ≤ d ∧ d ≤ 4 := by omega
  have hRR : 1 ≤ R ∧ R ≤ 24 := by omega
  have hss : 1 ≤ s ∧ s ≤ 24 := by omega
  have hsR : s ≤ R * d ∧ R * d ≤ 27 := by
    have h1 := hrb.1
    have h2 := hrb.2.2.2.2
    have h3 : ((R * d : Nat) : Int) = (R : Int) * (d : Int) := by simp
    omega
  have HG := hid hG
  obtain ⟨ad, cap, e, ⟨hcap, hbig⟩, hx⟩ := h
  injection e with e3 _ e4
  subst e3 e4
  rcases hx with h0 | ⟨b, off, rfl, hb, hx⟩
  · omega
  have hbx := below_alloc w (.cells #[.int .i64 (d : Int), .int .i64 (m : Int), .int .i64 (s : Int)] 23)
  obtain ⟨W, hW⟩ : ∃ W, w.alloc (.cells #[.int .i64 (d : Int), .int .i64 (m : Int), .int .i64 (s : Int)] 23) = W := ⟨_, rfl⟩
  rw [hW] at hbx
  have p0 : W.cell? ⟨w.heap.size, 0, none⟩ = some (.int .i64 (d : Int)) := by rw [← hW]; exact cell_at (heap_alloc_new _ _) rfl
  have p1 : W.cell? ⟨w.heap.size, 1, none⟩ = some (.int .i64 (m : Int)) := by rw [← hW]; exact cell_at (heap_alloc_new _ _) rfl
  have p2 : W.cell? ⟨w.heap.size, 2, none⟩ = some (.int .i64 (s : Int)) := by rw [← hW]; exact cell_at (heap_alloc_new _ _) rfl
  have KP : Hid (∀ w', Below W.heap.size W w' → w'.cell? ⟨w.heap.size, 0, none⟩ = some (.int .i64 (d : Int)) ∧ w'.cell? ⟨w.heap.size, 1, none⟩ = some (.int .i64 (m : Int)) ∧ w'.cell? ⟨w.heap.size, 2, none⟩ = some (.int .i64 (s : Int))) := fun w' hb' =>
    ⟨by rw [hb'.cell (cell_lt p0)]; exact p0, by rw [hb'.cell (cell_lt p1)]; exact p1, by rw [hb'.cell (cell_lt p2)]; exact p2⟩
  have hbW : b < W.heap.size := Nat.lt_of_lt_of_le hb hbx.size
  have HX : Hid (∀ j, j < d → W.cell? ⟨b, off + j * 2, none⟩ = some (.int .i64 (N j)) ∧ W.cell? ⟨b, off + j * 2 + 1, none⟩ = some (V j) ∧ IntSl W W.heap.size (V j) R (X j)) := fun j hj => by
    obtain ⟨x1, x2, x3⟩ := hx j (by omega)
    rw [hL j hj] at x3
    exact ⟨by rw [hbx.cell hb]; exact x1, by rw [hbx.cell hb]; exact x2, x3.up hbx⟩
  have HBx := hid hbx
  obtain ⟨ii, hi, hzz0, hzz1, hzz2⟩ := info_parts Try.infoInt
  have hdi : (d : Int) ≤ (n : Int) := by omega
  have hdc : (d : Int) ≤ (cp : Int) := by omega
  clear hRo e2 hrb hnd hof hsz hp hR hG hL hx hbx
  unfold planV
  go_enter Try.func46, Try.ntmps46
  go_wp2
  clear hW
  go_loopw [6, 22] (fun v iv wr => ∃ k : Nat, k ≤ d ∧ iv = .int .i64 k ∧ Hid (OwnI W wr v k N)) (fun _ iv _ => d - (intOf iv).toNat)
  case atStart => exact ⟨0, Nat.zero_le _, rfl, OwnI.nil _ _⟩
  case round =>
    obtain ⟨k, hk, rfl, OW⟩ := hrel
    by_cases hlt : k < d
    · have hki : (k : Int) < (d : Int) := by omega
      obtain ⟨x1, x2, x3⟩ := HX.out k hlt
      obtain ⟨av, cv, hve, _, _⟩ := x3
      have g1 : wr.cell? ⟨b, off + k * 2, none⟩ = some (.int .i64 (N k)) := by rw [OW.out.2.cell hbW]; exact x1
      have g2 : wr.cell? ⟨b, off + k * 2 + 1, none⟩ = some (.slice av R cv) := by rw [OW.out.2.cell hbW, x2, hve]
      have O2 := hid (OW.out.below (below_alloc wr (.cells #[.int .i64 (N k), .slice av R cv] 27)))
      clear x1 x2 hve
      go_wp2_with (at_builtin; go_must (refine wpList_append_own _ rfl (.tmp 26) (.tmp 29) 24 rfl W.heap.size 3 ii (.int .i64 0) 1 8 Try.underlying24 hi hzz0 hzz1 hzz2 rfl (by decide) _ _ _ rfl (World.ownsRow.alloc O2.out.1 _) ⟨_, 0, none⟩ 1 1 [.int .i64 (N k)] rfl rfl (fun j u hj => by rw [Addr.add_lit]; match j, hj with | 0, hj => (simp at hj; subst hj; exact cell_at (by have h9 := heap_alloc_new (wr.alloc (.cells #[.int .i64 (N k), .slice av R cv] 27)) (.cells #[.int .i64 (N k)] 3); simpa using h9) rfl)) (oneCell _) (by unfold maxLen; omega) (by omega) (by have := O2.out.2.size; simp at *; omega) ?_; intro v1 w6 ho6 hg6 _; have O6 := hid (O2.out.pushA _ ho6 hg6 rfl); clear ho6 hg6))
      go_roundw
      case rel => exact ⟨k + 1, by omega, by go_num, O6⟩
      case measure => simp only [intOf]; omega
    · have hke : k = d := by omega
      subst hke
      obtain ⟨q0, q1, q2⟩ := KP.out wr OW.out.2
      have hIx := OW.out.isl hdd.1 (by omega)
      obtain ⟨gx, cx, hvx, hcx, hrx⟩ := OW.out.row hdd.1
      subst hvx
      go_wp2_with fail
      refine Calls.mono (HRo.out _) ?_
      rintro e w2 ⟨rfl, hb2⟩
      have HIx := hid (hIx.up hb2)
      have HB2 := hid (OW.out.2.trans (hb2.mono OW.out.2.size))
      clear hb2 hIx hrx q0 q1 q2
      go_wp2
      go_loopw [7, 34] (fun vd iv wr => ∃ r : Nat, r ≤ R ∧ iv = .int .i64 r ∧ Hid (OwnI w2 wr vd (r * k) (joinD k N X))) (fun _ iv _ => R - (intOf iv).toNat)
      case atStart => exact ⟨0, Nat.zero_le _, rfl, by rw [Nat.zero_mul]; exact OwnI.nil _ _⟩
      case round =>
        obtain ⟨r, hr, rfl, OD⟩ := hrel
        have HBr := hid (HB2.out.trans (OD.out.2.mono HB2.out.size))
        obtain ⟨q0, q1, q2⟩ := KP.out wr HBr.out
        by_cases hrR : r < R
        · have hri : (r : Int) < (R : Int) := by omega
          have hrk : r * k + k ≤ 27 := by
            have h1 : (r + 1) * k ≤ R * k := Nat.mul_le_mul_right k hrR
            rw [Nat.add_mul, Nat.one_mul] at h1
            omega
          obtain ⟨ad7, cp7, hv7⟩ := OD.out.shape
          subst hv7
          go_wp2
          go_loopw [11, 42] (fun v iv wz => ∃ j : Nat, j ≤ k ∧ iv = .int .i64 j ∧ Hid (OwnI wr wz v j (fun i => X i r))) (fun _ iv _ => k - (intOf iv).toNat)
          case atStart => exact ⟨0, Nat.zero_le _, rfl, OwnI.nil _ _⟩
          case round =>
            obtain ⟨j, hj, rfl, OY⟩ := hrel
            have HBz := hid (HBr.out.trans (OY.out.2.mono HBr.out.size))
            by_cases hjk : j < k
            · have hji : (j : Int) < (k : Int) := by omega
              obtain ⟨x1, x2, x3⟩ := HX.out j hjk
              have x4 := x3.up HBz.out
              obtain ⟨av, cv, hve, _, h5⟩ := x4
              rcases h5 with h0 | ⟨bv, ov, rfl, hbv, h5⟩
              · omega
              have g1 : wr.cell? ⟨b, off + j * 2, none⟩ = some (.int .i64 (N j)) := by rw [HBz.out.cell hbW]; exact x1
              have g2 : wr.cell? ⟨b, off + j * 2 + 1, none⟩ = some (.slice (some ⟨bv, ov, none⟩) R cv) := by rw [HBz.out.cell hbW, x2, hve]
              have g3 := h5 r hrR
              have hbl : bv < wr.heap.size := hbv
              have O2 := hid (OY.out.below (below_alloc wr (.cells #[.int .i64 (N j), .slice (some ⟨bv, ov, none⟩) R cv] 27)))
              clear x1 x2 hve h5
              go_wp2_with (at_builtin; go_must (refine wpList_append_own _ rfl (.tmp 46) (.tmp 52) 24 rfl _ 3 ii (.int .i64 0) 1 8 Try.underlying24 hi hzz0 hzz1 hzz2 rfl (by decide) _ _ _ rfl (World.ownsRow.alloc O2.out.1 _) ⟨_, 0, none⟩ 1 1 [.int .i64 (X j r)] rfl rfl (fun j' u hj => by rw [Addr.add_lit]; match j', hj with | 0, hj => (simp at hj; subst hj; exact cell_at (by have h9 := heap_alloc_new (wr.alloc (.cells #[.int .i64 (N j), .slice (some ⟨bv, ov, none⟩) R cv] 27)) (.cells #[.int .i64 (X j r)] 3); simpa using h9) rfl)) (oneCell _) (by unfold maxLen; omega) (by omega) (by have := O2.out.2.size; simp at *; omega) ?_; intro v1 w6 ho6 hg6 _; have O6 := hid (O2.out.pushA _ ho6 hg6 rfl); clear ho6 hg6))
              go_roundw
              case rel => exact ⟨j + 1, by omega, by go_num, O6⟩
              case measure => simp only [intOf]; omega
            · have hje : j = k := by omega
              subst hje
              obtain ⟨t0, t1, t2⟩ := KP.out wr HBz.out
              obtain ⟨ay, cy, hvy⟩ := OY.out.shape
              subst hvy
              have hBs := hid (Beside.start OD.out OY.out hdd.1 (by omega))
              clear q0 q1 q2
              go_wp2
              go_loopw [7, 57] (fun vd iv wz => ∃ t : Nat, t ≤ j ∧ iv = .int .i64 t ∧ Hid (Beside w2 wz vd (.slice ay j cy) (r * j + t) j (joinD j N X) (fun i => X i r))) (fun _ iv _ => j - (intOf iv).toNat)
              case atStart => exact ⟨0, Nat.zero_le _, rfl, hBs⟩
              case round =>
                obtain ⟨t, ht, rfl, BS⟩ := hrel
                by_cases htj : t < j
                · have hti : (t : Int) < (j : Int) := by omega
                  have HVa := hid (valueAt_good _ _ j N (fun i => X i r) (t : Int) wr (HIx.out.up BS.out.d.2) BS.out.y (HG.out r hrR) ⟨by omega, by omega⟩)
                  go_wp2_with fail
                  refine Calls.mono HVa.out ?_
                  rintro e w5 ⟨rfl, hb5⟩
                  have B5 := hid (BS.out.up hb5)
                  clear hb5
                  obtain ⟨x, hx⟩ : ∃ x, crv j N (fun i => X i r) (t : Int) = x := ⟨_, rfl⟩
                  rw [hx]
                  have HXx : Hid (joinD j N X (r * j + t) = x) := by show _ = _; rw [joinD_row htj]; exact hx
                  clear hx
                  go_wp2_with (at_builtin; go_must (refine wpList_append_own_at _ rfl (.tmp 60) (.tmp 65) 24 rfl w2.heap.size 3 ii (.int .i64 0) 1 8 Try.underlying24 hi hzz0 hzz1 hzz2 rfl (by decide) _ _ _ rfl (World.ownsRow.alloc B5.out.d.1 _) ⟨_, 0, none⟩ 1 1 [.int .i64 x] rfl rfl (newCell _ _ _) (oneCell _) (by unfold maxLen; omega) (by omega) (by have := B5.out.d.2.size; simp; omega) ?_; intro v1 w6 ho6 hg6 _ hat6; have B6 := hid (B5.out.next hdd.1 ho6 hg6 hat6 HXx.out); clear ho6 hg6 hat6))
                  go_roundw
                  case rel => exact ⟨t + 1, by omega, by go_num, B6⟩
                  case measure => simp only [intOf]; omega
                · have hte : t = j := by omega
                  subst hte
                  go_wp2
                  go_roundw
                  case rel => exact ⟨r + 1, by omega, by go_num, by rw [Nat.add_mul, Nat.one_mul]; exact BS.out.d⟩
                  case measure => simp only [intOf]; omega
        · have hre : r = R := by omega
          subst hre
          obtain ⟨g, cd, hvd, hcd, hrow⟩ := OD.out.row (by omega)
          subst hvd
          have hsi : (s : Int) ≤ ((r * k : Nat) : Int) := by omega
          have hsc : (s : Int) ≤ (cd : Int) := by omega
          have HRow := hid hrow
          clear hrow
          by_cases hcs : cd = s
          · have hrs : r * k = s := by omega
            have hmb : madeB k s r N X = true := decide_eq_true fun j hj => Or.inl (by omega)
            have HM := hid hmb
            have hz0 : r * k - s = 0 := by omega
            have HRs := hid hrs
            have HCs := hid hcs
            clear hmb hrs
            go_wp2
            refine wp_loop_rounds 1 ?_
            rw [rounds_succ]
            go_wp2
            go_ret2
            refine ⟨HBx.out.trans (HBr.out.mono HBx.out.size), Or.inl ⟨HM.out, _, rfl, _, _, rfl, ⟨by have := HCs.out; omega, by omega⟩, Or.inr ⟨g, 0, rfl, cell_lt (HRow.out.cell 0 (by omega)), fun j hj => ?_⟩⟩⟩
            rw [Nat.zero_add]
            exact HRow.out.cell j (by have := HRs.out; omega)
          · go_wp2
            go_loop [74] (fun iv => ∃ i : Nat, i ≤ r * k - s ∧ iv = .int .i64 i ∧ Hid (∀ j, s ≤ j → j < s + i → joinD k N X j = 0)) (fun iv => r * k - s - (intOf iv).toNat)
            case atStart => exact ⟨0, Nat.zero_le _, rfl, fun j h1 h2 => by omega⟩
            case round =>
              obtain ⟨i, hi', rfl, HZ⟩ := hrel
              by_cases hil : i < r * k - s
              · have hii : (i : Int) < ((r * k - s : Nat) : Int) := by omega
                have c0 := HRow.out.cell (s + i) (by omega)
                obtain ⟨x, hx⟩ : ∃ x, joinD k N X (s + i) = x := ⟨_, rfl⟩
                rw [hx] at c0
                have HXx := hid hx
                clear hx
                by_cases hx0 : x = 0
                · subst hx0
                  go_wp2
                  go_round
                  case rel =>
                    refine ⟨i + 1, by omega, by go_num, fun j h1 h2 => ?_⟩
                    by_cases e : j = s + i
                    · rw [e]; exact HXx.out
                    · exact HZ.out j h1 (by omega)
                  case measure => simp only [intOf]; omega
                · have hxb : (x != 0) = true := by simpa using hx0
                  have hmb : madeB k s r N X = false := decide_eq_false fun h => by
                    rcases h (s + i) (by omega) with h1 | h1
                    · omega
                    · rw [HXx.out] at h1; exact hx0 h1
                  have HM := hid hmb
                  clear hmb hx0
                  go_wp2
                  go_ret2
                  exact ⟨HBx.out.trans (HBr.out.mono HBx.out.size), Or.inr ⟨HM.out, rfl⟩⟩
              · have hie : i = r * k - s := by omega
                have hii : ((r * k - s : Nat) : Int) ≤ (i : Int) := by omega
                have hzz : ∀ j, s ≤ j → j < r * k → joinD k N X j = 0 := fun j h1 h2 => HZ.out j h1 (by omega)
                have hmb : madeB k s r N X = true := decide_eq_true fun j hj => by
                  by_cases h : j < s
                  · exact Or.inl h
                  · exact Or.inr (hzz j (by omega) hj)
                have HM := hid hmb
                clear hmb hzz hie
                go_wp2
                go_ret2
                refine ⟨HBx.out.trans (HBr.out.mono HBx.out.size), Or.inl ⟨HM.out, _, rfl, _, cd, rfl, ⟨by omega, by omega⟩, Or.inr ⟨g, 0, rfl, cell_lt (HRow.out.cell 0 (by omega)), fun j hj => ?_⟩⟩⟩
                rw [Nat.zero_add]
                exact HRow.out.cell j (by omega)

end Go.Proofs.Ytfcpmpcfbhkacaa
