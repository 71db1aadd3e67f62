/- What BookGrows leans on: a map of bools, slices.IsSorted, slices.ContainsFunc. -/
import Derived.Test.YtngiefhkjkpmjadBookListed
import Derived.Test.YtngiefhkjkpmjadBookGrowMath
import Derived.Test.YtngiefhkjkpmjadLawAt
namespace Go.Proofs.Ytngiefhkjkpmjad
open Go.RowKit Go.Maps
set_option linter.unusedVariables false

theorem zeroBool (w : World) : (zeroValue 4).run Try.prog w = .ok (.bool false) w := by kernel_rfl

/-- block g is a map of at most m entries: a set of numbers, those up to n -/
def SetM (w : World) (g m n : Nat) (S : Nat → Bool) : Prop := ∃ D : DataW Empty, w.ownsMap Try.prog 3 (plainElem Try.prog 4) g m D ∧ (∀ x : Nat, D.atKey (.int .i64 (x : Int)) (.lit (.bool false)) = .lit (.bool (S x))) ∧ (∀ x : Nat, Maps.has D (.int .i64 (x : Int)) = S x) ∧ Maps.size D = ((List.range (n + 1)).filter S).length

theorem setM_made (w : World) (n : Nat) : SetM (w.alloc (.map #[] 0)) w.heap.size 0 n (fun _ => false) := ⟨_, World.ownsMap_made _ _ _ _, fun x => rfl, fun x => rfl, by rw [List.filter_eq_nil_iff.2 (fun _ _ h => by cases h)]; rfl⟩

theorem setM_put {w w' : World} {g m n : Nat} {S : Nat → Bool} {D : DataW Empty} {x : Nat} (hD : w.ownsMap Try.prog 3 (plainElem Try.prog 4) g m D) (h : ∀ x : Nat, D.atKey (.int .i64 (x : Int)) (.lit (.bool false)) = .lit (.bool (S x))) (hh : ∀ x : Nat, Maps.has D (.int .i64 (x : Int)) = S x) (hs : Maps.size D = ((List.range (n + 1)).filter S).length) (hx : x ≤ n)
    (ho : w'.ownsMap Try.prog 3 (plainElem Try.prog 4) g (m + 1) (D.put (.int .i64 (x : Int)) (.lit (.bool true)))) : SetM w' g (m + 1) n (fun y => S y || decide (y = x)) := by
  have hne : ∀ {y : Nat}, y ≠ x → Lit.int .i64 (y : Int) ≠ Lit.int .i64 (x : Int) := fun hyx e => hyx (by injection e with _ e2; omega)
  refine ⟨_, ho, fun y => ?_, fun y => ?_, ?_⟩
  · by_cases e : y = x
    · subst e
      rw [atKey_put_same hD.isMap (by simp [WideAt.IsKeyLit])]
      simp
    · rw [atKey_put_other (hne e), h y]
      simp [e]
  · by_cases e : y = x
    · subst e
      rw [has_put_same hD.isMap (by simp [WideAt.IsKeyLit])]
      simp
    · rw [has_put_other (hne e), hh y]
      simp [e]
  · rw [size_put (hD.tidy keyedInt), hh x, hs, count_add S x (n + 1) (by omega)]

theorem SetM.kept {w w' : World} {g m n : Nat} {S : Nat → Bool} {row : Option Nat} (h : SetM w g m n S) (hg : w.grownBy w' row) (hne : some g ≠ row) : SetM w' g m n S := by
  obtain ⟨D, h1, h2⟩ := h
  exact ⟨D, h1.kept hg hne, h2⟩

theorem SetM.up {w w' : World} {g m n : Nat} {S : Nat → Bool} (h : SetM w g m n S) (hb : Below w.heap.size w w') : SetM w' g m n S := h.kept (grown_of_below hb none) (by intro e; cases e)

theorem SetM.ne {w : World} {g m n : Nat} {S : Nat → Bool} (h : SetM w g m n S) {a : Addr} {u : Value} (ha : w.cell? a = some u) : a.block ≠ g := by
  obtain ⟨D, ⟨es, clock, hb, _⟩, _⟩ := h
  intro e
  rw [World.cell?, e, hb] at ha
  simp at ha

theorem SetM.mono {w : World} {g m m' n : Nat} {S : Nat → Bool} (h : SetM w g m n S) (hm : m ≤ m') : SetM w g m' n S := by
  obtain ⟨D, h1, h2⟩ := h
  exact ⟨D, h1.mono hm, h2⟩

theorem SetM.lt {w : World} {g m n : Nat} {S : Nat → Bool} (h : SetM w g m n S) : g < w.heap.size := by
  obtain ⟨D, h1, _⟩ := h
  exact h1.lt

/-- lists stay where a map changes -/
theorem IntSl.grownM {w w' : World} {B g m n l : Nat} {S : Nat → Bool} {v : Value} {X : Nat → Int} (h : IntSl w B v l X) (hm : SetM w g m n S) (hg : w.grownBy w' (some g)) : IntSl w' B v l X := by
  obtain ⟨ad, cap, rfl, h0, h2⟩ := h
  refine ⟨ad, cap, rfl, h0, ?_⟩
  rcases h2 with h2 | ⟨b, off, rfl, h4, h5⟩
  · exact Or.inl h2
  · exact Or.inr ⟨b, off, rfl, h4, fun j hj => hg.cell (h5 j hj) (by intro e; injection e with e; exact hm.ne (h5 j hj) e)⟩

theorem VeSl.grownM {w w' : World} {B g m n l : Nat} {S : Nat → Bool} {v : Value} {PV : Nat → Value} {b : Bk} (h : VeSl w B v l PV b) (hm : SetM w g m n S) (hg : w.grownBy w' (some g)) : VeSl w' B v l PV b := by
  obtain ⟨ad, cap, rfl, h0, h2⟩ := h
  refine ⟨ad, cap, rfl, h0, ?_⟩
  rcases h2 with h2 | ⟨bl, off, rfl, h4, h5⟩
  · exact Or.inl h2
  · have key : ∀ {a : Addr} {u : Value}, w.cell? a = some u → w'.cell? a = some u := fun ha => hg.cell ha (by intro e; injection e with e; exact hm.ne ha e)
    refine Or.inr ⟨bl, off, rfl, h4, fun j hj => ?_⟩
    obtain ⟨g1, g2, g3, g4, g5⟩ := h5 j hj
    exact ⟨key g1, key g2, key g3, key g4, g5.grownM hm hg⟩

/-- slices.IsSorted of a list that rises -/
theorem isSorted_rise {w : World} {v : Value} {n : Nat} {X : Nat → Int} (h : IntSl w w.heap.size v n X) (hX : ∀ i, i + 1 < n → X i < X (i + 1)) :
    Calls Try.prog 9 #[v] w fun e w' => e = .returned (.bool true) ∧ Below w.heap.size w w' := by
  obtain ⟨ad, cap, rfl, ⟨hcap, hbig⟩, hx⟩ := h
  have HX := hid hx
  have HR := hid hX
  clear hx hX
  go_enter Try.func9, Try.ntmps9
  go_wp2
  go_loopw [3] (fun iv wr => ∃ j : Nat, j ≤ n ∧ iv = .int .i64 ((j : Int) - 1) ∧ Hid (Below w.heap.size w wr)) (fun iv _ => (intOf iv + 1).toNat)
  case atStart => exact ⟨n, Nat.le_refl _, rfl, Below.refl _ _⟩
  case round =>
    obtain ⟨j, hj, rfl, HB⟩ := hrel
    by_cases h1 : j ≤ 1
    · have hj1 : ¬ 0 < (j : Int) - 1 := by omega
      clear h1
      go_wp2
      go_ret
      exact ⟨rfl, HB.out⟩
    · obtain ⟨y, rfl⟩ : ∃ y, j = y + 1 + 1 := ⟨j - 2, by omega⟩
      have hy : ((y + 1 + 1 : Nat) : Int) - 1 = ((y + 1 : Nat) : Int) := by omega
      rw [hy]
      rcases HX.out with h0 | ⟨b1, o1, rfl, hb1, hx⟩
      · omega
      have g0 : wr.cell? ⟨b1, o1 + y, none⟩ = some (.int .i64 (X y)) := by rw [HB.out.cell hb1]; exact hx y (by omega)
      have g1 : wr.cell? ⟨b1, o1 + (y + 1), none⟩ = some (.int .i64 (X (y + 1))) := by rw [HB.out.cell hb1]; exact hx (y + 1) (by omega)
      have hlt := HR.out y (by omega)
      have hyn : ((y : Int) + 1) < (n : Int) := by omega
      have hyn2 : (y : Int) < (n : Int) := by omega
      have HC : Hid (∀ w : World, Calls Try.prog 24 #[.int .i64 (X (y + 1)), .int .i64 (X y)] w fun e w' => e = .returned (.bool false) ∧ w' = w) := fun w => by
        have h := Try.cmp_Less_int2 (X (y + 1)) (X y) w
        rw [decide_eq_false (by omega)] at h
        exact h
      have hpos : 0 < ((y + 1 : Nat) : Int) := by omega
      clear hy h1 hx hlt
      go_wp2
      go_quiet ((go_at_call 24; exact Calls.quiet_of_same (HC.out _)))
      go_wp2
      go_roundw
      case rel => exact ⟨y + 1, by omega, by go_num, HB.out.trans ⟨rfl, rfl, rfl, Nat.le_refl _, fun _ _ => rfl⟩⟩
      case measure => simp only [intOf]; omega

/-- is it in the set? -/
theorem askGrows (bx g m n : Nat) (S : Nat → Bool) (k : Nat) (hk : k ≤ 1000) (w : World) (hx : w.cell? ⟨bx, 0, none⟩ = some (.map (some g))) (hc : SetM w g m n S) :
    Calls Try.prog 11 #[.int .i64 (k : Int), .pointer (some ⟨bx, 0, none⟩)] w fun e w' => e = .returned (.bool (!S k)) ∧ Below w.heap.size w w' := by
  obtain ⟨D, hD, hat, _⟩ := hc
  obtain ⟨v, ps, hrun, hv⟩ := hD.lookup (t := 37) (e := 4) keyedInt Try.underlying37 (zeroBool w) (plainElem_bool Try.underlying4 false) (keyInt (x := (k : Int)) (by omega))
  rw [hat k] at hv
  have hvb : v = .bool (S k) := by
    unfold plainElem at hv
    rw [Try.underlying4] at hv
    cases v <;> simp at hv
    rw [hv.1]
  subst hvb
  clear hv hD hat
  go_enter Try.func11, Try.ntmps11
  go_wp2
  go_ret
  exact ⟨rfl, Below.refl _ _⟩

set_option maxHeartbeats 1000000 in
theorem indexFunc_grows (bx : Nat) (v : Value) (m : Nat) (X : Nat → Int) (p : Nat → Bool) (w : World) (h : IntSl w w.heap.size v m X)
    (hp : ∀ i, i < m → ∀ w', Below w.heap.size w w' → Calls Try.prog 11 #[.int .i64 (X i), .pointer (some ⟨bx, 0, none⟩)] w' fun e w'' => e = .returned (.bool (p i)) ∧ Below w'.heap.size w' w'') :
    Calls Try.prog 25 #[v, .func (.func 11) #[] #[.pointer (some ⟨bx, 0, none⟩)]] w fun e w' => ∃ r : Int, e = .returned (.int .i64 r) ∧ decide (0 ≤ r) = anyB p m 0 ∧ Below w.heap.size w w' := by
  obtain ⟨ad, cap, rfl, ⟨hc, hr⟩, hx⟩ := h
  obtain ⟨ans, hans⟩ : ∃ ans, anyB p m 0 = ans := ⟨_, rfl⟩
  rw [hans]
  have HA := hid hans
  have HX := hid hx
  have HP := hid hp
  clear hans hx hp
  go_enter Try.func25, Try.ntmps25
  go_wp2
  go_loopw [8] (fun iv wr => ∃ i : Nat, i ≤ m ∧ iv = .int .i64 i ∧ Hid (Below w.heap.size w wr) ∧ Hid (anyB p (m - i) i = ans)) (fun iv _ => m - (intOf iv).toNat)
  case atStart => exact ⟨0, Nat.zero_le _, rfl, Below.refl _ _, HA⟩
  case round =>
    obtain ⟨i, hi, rfl, HB, HS⟩ := hrel
    by_cases hlt : i < m
    · have hii : (i : Int) < (m : Int) := by omega
      rcases HX.out with h0 | ⟨b1, o1, rfl, hb1, hx⟩
      · omega
      have g0 : wr.cell? ⟨b1, o1 + i, none⟩ = some (.int .i64 (X i)) := by rw [HB.out.cell hb1]; exact hx i hlt
      have hstep := HS.out
      rw [show m - i = (m - (i + 1)) + 1 by omega] at hstep
      simp only [anyB] at hstep
      have HC := hid (HP.out i hlt wr HB.out)
      clear hx
      cases hpi : p i with
      | true =>
        rw [hpi, Bool.true_or] at hstep
        rw [hpi] at HC
        have HSt := hid hstep
        clear hstep hpi
        go_wp2_with fail
        refine Calls.mono HC.out ?_
        rintro e w2 ⟨rfl, hb2⟩
        have HB2 := hid (HB.out.trans (hb2.mono HB.out.size))
        clear hb2
        go_wp2
        go_ret
        exact ⟨_, rfl, by rw [← HSt.out]; exact decide_eq_true (by omega), HB2.out⟩
      | false =>
        rw [hpi, Bool.false_or] at hstep
        rw [hpi] at HC
        have HSt := hid hstep
        clear hstep hpi
        go_wp2_with fail
        refine Calls.mono HC.out ?_
        rintro e w2 ⟨rfl, hb2⟩
        have HB2 := hid (HB.out.trans (hb2.mono HB.out.size))
        clear hb2
        go_wp2
        go_roundw
        case rel => exact ⟨i + 1, by omega, by go_num, HB2, HSt⟩
        case measure => simp only [intOf]; omega
    · have hie : m = i := by omega
      subst hie
      have hst := HS.out
      rw [Nat.sub_self] at hst
      have HFin : Hid (false = ans) := hst
      clear hst
      go_wp2
      go_ret
      exact ⟨_, rfl, by rw [← HFin.out]; decide, HB.out⟩

theorem containsFunc_grows (bx : Nat) (v : Value) (m : Nat) (X : Nat → Int) (p : Nat → Bool) (w : World) (h : IntSl w w.heap.size v m X)
    (hp : ∀ i, i < m → ∀ w', Below w.heap.size w w' → Calls Try.prog 11 #[.int .i64 (X i), .pointer (some ⟨bx, 0, none⟩)] w' fun e w'' => e = .returned (.bool (p i)) ∧ Below w'.heap.size w' w'') :
    Calls Try.prog 10 #[v, .func (.func 11) #[] #[.pointer (some ⟨bx, 0, none⟩)]] w fun e w' => e = .returned (.bool (anyB p m 0)) ∧ Below w.heap.size w w' := by
  have HI := hid (indexFunc_grows bx v m X p w h hp)
  obtain ⟨ad, cap, rfl, _, _⟩ := h
  clear hp
  go_enter Try.func10, Try.ntmps10
  go_wp2_with fail
  refine HI.out.mono ?_
  rintro e w2 ⟨r, rfl, hd, hb⟩
  have HB := hid hb
  have HD := hid hd
  clear hb hd
  go_wp2
  go_ret
  exact ⟨by rw [← HD.out]; simp, HB.out⟩

theorem anyB_none (p : Nat → Bool) (f i : Nat) (h : ∀ j, i ≤ j → j < i + f → p j = false) : anyB p f i = false := by
  cases hh : anyB p f i with
  | false => rfl
  | true =>
    obtain ⟨j, h1, h2, h3⟩ := (anyB_iff p f i).1 hh
    rw [h j h1 h2] at h3
    cases h3

/-- all of a list are in the set -/
theorem containsFunc_all (bx g m n : Nat) (S : Nat → Bool) (v : Value) (l : List Int) (w : World) (h : IntSl w w.heap.size v l.length (fun j => l.getD j 0)) (hx : w.cell? ⟨bx, 0, none⟩ = some (.map (some g))) (hc : SetM w g m n S) (hl : ∀ j, j < l.length → ∃ y : Nat, l.getD j 0 = (y : Int) ∧ y ≤ 1000 ∧ S y = true) :
    Calls Try.prog 10 #[v, .func (.func 11) #[] #[.pointer (some ⟨bx, 0, none⟩)]] w fun e w' => e = .returned (.bool false) ∧ Below w.heap.size w w' := by
  have h1 := containsFunc_grows bx v l.length (fun j => l.getD j 0) (fun _ => false) w h (fun i hi w' hb => by
    obtain ⟨y, e, hy, hS⟩ := hl i hi
    have h2 := askGrows bx g m n S y hy w' (by rw [hb.cell (cell_lt hx)]; exact hx) (hc.up hb)
    rw [hS] at h2
    rw [e]
    exact h2)
  rw [anyB_none _ _ _ (fun _ _ _ => rfl)] at h1
  exact h1

end Go.Proofs.Ytngiefhkjkpmjad
