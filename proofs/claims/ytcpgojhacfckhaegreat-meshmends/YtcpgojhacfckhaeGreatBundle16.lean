/- Several texts of one proof, in their order. -/
import Derived.Test.YtcpgojhacfckhaeGreatBundle6
import Derived.Test.YtcpgojhacfckhaeGreatBundle12
import Derived.Test.YtcpgojhacfckhaeGreatBundle7
import Derived.Test.YtcpgojhacfckhaeGreatBundle4
import Derived.Test.YtcpgojhacfckhaeGreatBundle3
import Derived.Maps.Own
import Derived.Maps.OwnOps
import Derived.Maps.OwnSet
import Derived.Maps.AppendAt
import Derived.Laws.CopyOwn
import Derived.Laws.ResultCell
import Derived.Test.YtcpgojhacfckhaeGreatBundle5
import Derived.Sort.Grow

/- The shares that are there, one peer after the other, and what is counted of them. -/
namespace Go.Proofs.YtcpgojhacfckhaeGreat
open Go.RowKit CurveMath
set_option linter.unusedVariables false

theorem flatS_eqv {n : Nat} {N N' : Nat → Int} {V V' : Nat → Value} (h : ∀ j, j < n → N j = N' j ∧ V j = V' j) : flatS n N V = flatS n N' V' := by
  unfold flatS
  refine List.map_congr_left fun i hi => ?_
  have hi2 := List.mem_range.1 hi
  obtain ⟨h1, h2⟩ := h (i / 2) (by omega)
  unfold cellS
  rw [h1, h2]

theorem flatS_snoc (P : Ps) (UV : Nat → Nat → Value) (l : List (Nat × Nat)) (k i : Nat) : flatS (l ++ [(k, i)]).length (nL P (l ++ [(k, i)])) (vaL UV (l ++ [(k, i)])) = flatS l.length (nL P l) (vaL UV l) ++ [.int .i64 ((P.t k).N i), UV k i] := by
  rw [List.length_append, show [(k, i)].length = 1 from rfl, flatS_succ]
  have e1 : nL P (l ++ [(k, i)]) l.length = (P.t k).N i := by unfold nL; rw [getD_new]
  have e2 : vaL UV (l ++ [(k, i)]) l.length = UV k i := by unfold vaL; rw [getD_new]
  rw [e1, e2]
  congr 1
  exact flatS_eqv fun j hj => by unfold nL vaL; rw [getD_old _ _ _ hj]; exact ⟨rfl, rfl⟩

theorem seenN_snoc (P : Ps) (l : List (Nat × Nat)) (k i : Nat) (N : Int) : seenN P (l ++ [(k, i)]) N = (seenN P l N || decide ((P.t k).N i = N)) := by
  unfold seenN
  rw [List.any_append]
  simp

theorem cells_pr (w : World) (N : Int) (v : Value) (T : TypeId) : ∀ j u, ([.int .i64 N, v] : List Value)[j]? = some u → (w.alloc (.cells #[.int .i64 N, v] T)).cell? (Addr.add ⟨w.heap.size, 0, none⟩ j) = some u := by
  intro j u hj
  rw [Addr.add_lit]
  match j, hj with
  | 0, hj => simp at hj; subst hj; exact cell_at (heap_alloc_new _ _) rfl
  | 1, hj => simp at hj; subst hj; exact cell_at (heap_alloc_new _ _) rfl

theorem rest_err {w w' : World} {n : Nat} {b : Bk} {np : Nat} {P : Ps} {k c : Int} (hb : Below w.heap.size w w') (hc : verM n b np P k = c) (h0 : c ≠ 0) : RestPost w n b np P k (.returned (.tuple #[.slice none 0 0, .slice none 0 0, .int .i64 c])) w' := by
  have h1 : rsE n b np P k = c := by unfold rsE; rw [hc, if_neg h0]
  have h2 : rsB n b np P k = [] := by unfold rsB; rw [hc, if_neg h0]
  refine ⟨hb, .slice none 0 0, .slice none 0 0, 0, by rw [h1], by rw [h1, if_neg h0]; rfl, ⟨none, 0, rfl, ⟨Nat.le_refl _, by omega⟩, Or.inl rfl⟩, ?_⟩
  rw [h2]
  exact ⟨none, 0, rfl, ⟨Nat.le_refl _, by simp⟩, Or.inl rfl⟩

theorem rest_of {w w1 w' : World} {n : Nat} {b : Bk} {np : Nat} {P : Ps} {k : Int} {e : Ending} (hb : Below w.heap.size w w1) (hv : verM n b np P k = 0) (h : MostPost w1 (b.nd k.toNat) (b.of k.toNat) (b.sz k.toNat) (thereL P k np).length (nT P (thereL P k np)) (lT P (thereL P k np)) (xT P (thereL P k np)) e w') : RestPost w n b np P k e w' := by
  obtain ⟨h1, r, bb, m, h2, h3, h4, h5⟩ := h
  refine ⟨hb.trans (h1.mono hb.size), r, bb, m, ?_, ?_, h4, ?_⟩
  · unfold rsE; rw [if_pos hv]; exact h2
  · unfold rsE; rw [if_pos hv]; exact h3
  · unfold rsB; rw [if_pos hv]; exact h5

/-- a number more is counted; the list of those seen stays or grows -/
theorem seen_hit {P : Ps} {l l' : List (Nat × Nat)} {c : Int → Int} {M k i : Nat} {N : Int} (h : ∀ x, 0 ≤ c x ∧ c x ≤ (M : Int)) (hc : ∀ x, c x = 0 ↔ seenN P l x = false) (hN : (P.t k).N i = N) (hl : l' = if (!seenN P l N) = true then l ++ [(k, i)] else l) :
    (∀ x, 0 ≤ (if x = N then c N + 1 else c x) ∧ (if x = N then c N + 1 else c x) ≤ ((M + 1 : Nat) : Int)) ∧ ∀ x, (if x = N then c N + 1 else c x) = 0 ↔ seenN P l' x = false := by
  have hcN := h N
  refine ⟨fun x => ?_, fun x => ?_⟩
  · have := h x
    by_cases e : x = N
    · rw [if_pos e]; omega
    · rw [if_neg e]; omega
  · by_cases e : x = N
    · subst e
      rw [if_pos rfl]
      constructor
      · intro h9; omega
      · intro h9
        exfalso
        rw [hl] at h9
        cases hs : seenN P l x with
        | true => rw [hs, Bool.not_true, if_neg (by decide), hs] at h9; cases h9
        | false => rw [hs, Bool.not_false, if_pos rfl, seenN_snoc, hN, decide_eq_true rfl, Bool.or_true] at h9; cases h9
    · rw [if_neg e, hc x, hl]
      cases hs : seenN P l N with
      | true => rw [Bool.not_true, if_neg (by decide)]
      | false => rw [Bool.not_false, if_pos rfl, seenN_snoc, hN, decide_eq_false (fun h => e h.symm), Bool.or_false]

/-- .. of a list of numbers -/
theorem nums_hit {T : List Int} {c : Int → Int} {M : Nat} {N : Int} (h : ∀ x, 0 ≤ c x ∧ c x ≤ (M : Int)) (hc : ∀ x, c x = 0 ↔ T.contains x = false) :
    (∀ x, 0 ≤ (if x = N then c N + 1 else c x) ∧ (if x = N then c N + 1 else c x) ≤ ((M + 1 : Nat) : Int)) ∧ ∀ x, (if x = N then c N + 1 else c x) = 0 ↔ (T ++ [N]).contains x = false := by
  have hcN := h N
  refine ⟨fun x => ?_, fun x => ?_⟩
  · have := h x
    by_cases e : x = N
    · rw [if_pos e]; omega
    · rw [if_neg e]; omega
  · by_cases e : x = N
    · subst e
      rw [if_pos rfl]
      constructor
      · intro h9; omega
      · intro h9; simp at h9
    · rw [if_neg e, hc x]
      simp [e]

/-- the first f peers' shares, one peer more -/
theorem thAll_has {n : Nat} {b : Bk} {np : Nat} {P : Ps} (h : MeshR n b np P) (ver : Int) {k : Nat} (hk : k < np) : thAll P ver (k + 1) = if (hasK P ver k && !seenN P (thAll P ver k) (numK P ver k)) = true then thAll P ver k ++ [(k, atK P ver k)] else thAll P ver k := by
  rw [thAll_succ]
  exact thRow_has (fun i j hij hj => (h.peer k hk).rise i j hij hj) _

theorem thAll_len {n : Nat} {b : Bk} {np : Nat} {P : Ps} (h : MeshR n b np P) (ver : Int) : ∀ k, k ≤ np → (thAll P ver k).length ≤ k := by
  intro k
  induction k with
  | zero => intro _; exact Nat.le_refl _
  | succ k ih =>
    intro hk
    have := ih (by omega)
    rw [thAll_has h ver (by omega)]
    split
    · rw [List.length_append]; simp; omega
    · omega

/-- what a version was restored to can be split -/
theorem split_ok {d m s : Nat} {D : Nat → Int} (hp : planOk (d : Int) (m : Int) (s : Int) = true) (hD : ∀ j, 0 ≤ D j ∧ D j ≤ 30) : splitE (d : Int) (m : Int) (s : Int) s D = 0 := by
  unfold splitE
  rw [if_pos hp, if_pos rfl, if_pos]
  unfold numsB
  refine decide_eq_true fun j _ => ?_
  have := hD j
  unfold isNum
  simp
  omega

end Go.Proofs.YtcpgojhacfckhaeGreat

/- A map of ints that a call makes itself and counts in. -/
namespace Go.Proofs.YtcpgojhacfckhaeGreat
open Go.RowKit Go.Maps
set_option linter.unusedVariables false

theorem keyedInt : Keyed Tryz.prog 3 := int_keyed Tryz.underlying3

theorem zeroInt (w : World) : (zeroValue 3).run Tryz.prog w = .ok (.int .i64 0) w := by kernel_rfl

/-- block g is a map of at most m entries that tells c of each number -/
def CntM (w : World) (g m : Nat) (c : Int → Int) : Prop := ∃ D : DataW Empty, w.ownsMap Tryz.prog 3 (plainElem Tryz.prog 3) g m D ∧ ∀ x : Int, D.atKey (.int .i64 x) (.lit (.int .i64 0)) = .lit (.int .i64 (c x))

theorem cntM_made (w : World) : CntM (w.alloc (.map #[] 0)) w.heap.size 0 (fun _ => 0) := ⟨_, World.ownsMap_made _ _ _ _, fun x => rfl⟩

theorem cnt_val {D : DataW Empty} {c : Int → Int} (h : ∀ x : Int, D.atKey (.int .i64 x) (.lit (.int .i64 0)) = .lit (.int .i64 (c x))) {x v : Int} (hat : D.atKey (.int .i64 x) (.lit (.int .i64 0)) = .lit (.int .i64 v)) : v = c x := by
  rw [h x] at hat
  injection hat with h1
  injection h1 with _ h2
  exact h2.symm

theorem cntM_put {w w' : World} {g m : Nat} {c : Int → Int} {D : DataW Empty} {x v : Int} (hD : w.ownsMap Tryz.prog 3 (plainElem Tryz.prog 3) g m D) (h : ∀ x : Int, D.atKey (.int .i64 x) (.lit (.int .i64 0)) = .lit (.int .i64 (c x)))
    (ho : w'.ownsMap Tryz.prog 3 (plainElem Tryz.prog 3) g (m + 1) (D.put (.int .i64 x) (.lit (.int .i64 v)))) : CntM w' g (m + 1) (fun y => if y = x then v else c y) := by
  refine ⟨_, ho, fun y => ?_⟩
  by_cases e : y = x
  · subst e
    rw [atKey_put_same hD.isMap (by simp [WideAt.IsKeyLit])]
    simp only [if_true]
  · rw [atKey_put_other (fun h => e (by injection h)), h y]
    simp only [if_neg e]

theorem CntM.kept {w w' : World} {g m : Nat} {c : Int → Int} {row : Option Nat} (h : CntM w g m c) (hg : w.grownBy w' row) (hne : some g ≠ row) : CntM w' g m c := by
  obtain ⟨D, h1, h2⟩ := h
  exact ⟨D, h1.kept hg hne, h2⟩

theorem CntM.up {w w' : World} {g m : Nat} {c : Int → Int} (h : CntM w g m c) (hb : Below w.heap.size w w') : CntM w' g m c := h.kept (grown_of_below hb none) (by intro e; cases e)

theorem CntM.lt {w : World} {g m : Nat} {c : Int → Int} (h : CntM w g m c) : g < w.heap.size := by
  obtain ⟨D, h1, _⟩ := h
  exact h1.lt

/-- a cell lies in no map -/
theorem CntM.ne {w : World} {g m : Nat} {c : Int → Int} (h : CntM w g m c) {a : Addr} {u : Value} (ha : w.cell? a = some u) : a.block ≠ g := by
  obtain ⟨D, ⟨es, clock, hb, _⟩, _⟩ := h
  intro e
  rw [World.cell?, e, hb] at ha
  simp at ha

theorem keyInt {x : Int} (h : 0 ≤ x ∧ x ≤ 1000) : keyOf Tryz.prog 3 (.int .i64 x) = some (.int .i64 x) := keyOf_int_mk Tryz.underlying3 (WalkArith.wf_i64 (by omega))

/-- what 'count' has done to the map behind i of the numbers -/
def Cnted (c ci : Int → Int) (X : Nat → Int) (M i : Nat) : Prop := (∀ x, 0 ≤ ci x ∧ ci x ≤ (M : Int) + i) ∧ ∀ x, ci x = 0 ↔ c x = 0 ∧ ∀ j, j < i → X j ≠ x

theorem Cnted.step {c ci : Int → Int} {X : Nat → Int} {M i : Nat} (h : Cnted c ci X M i) {x : Int} (hx : X i = x) : Cnted c (fun y => if y = x then ci x + 1 else ci y) X M (i + 1) := by
  obtain ⟨h1, h2⟩ := h
  have h3 := h1 x
  refine ⟨fun y => ?_, fun y => ?_⟩
  · have h4 := h1 y
    by_cases e : y = x
    · simp only [if_pos e]; omega
    · simp only [if_neg e]; omega
  · by_cases e : y = x
    · simp only [if_pos e]
      constructor
      · intro h; omega
      · rintro ⟨_, hh⟩; exact absurd (by rw [hx, e]) (hh i (by omega))
    · simp only [if_neg e]
      rw [h2 y]
      constructor
      · rintro ⟨g1, g2⟩
        refine ⟨g1, fun j hj => ?_⟩
        by_cases ej : j = i
        · subst ej; rw [hx]; exact fun h => e h.symm
        · exact g2 j (by omega)
      · rintro ⟨g1, g2⟩; exact ⟨g1, fun j hj => g2 j (by omega)⟩

end Go.Proofs.YtcpgojhacfckhaeGreat

/- What package book answers of a book: its error. -/
namespace Go.Proofs.YtcpgojhacfckhaeGreat
open Go.RowKit
set_option linter.unusedVariables false

/-- the parent ahead of number i; -1: there is none -/
def lastP (X : Nat → Int) (i : Nat) : Int := if i = 0 then -1 else X (i - 1)

/-- the error of version k with these parents, of this plan -/
def oneV (k : Int) (m : Nat) (X : Nat → Int) (nd of sz : Int) : Int := if parE k X m 0 (-1) = 0 then chkP nd of sz else parE k X m 0 (-1)

set_option maxHeartbeats 2000000 in
theorem bkOne (k : Nat) (pv : Value) (m : Nat) (X : Nat → Int) (nd of sz : Int) (w : World) (h : IntSl w w.heap.size pv m X) :
    Calls Tryz.prog 111 #[.int .i64 (k : Int), verV pv nd of sz] w fun e w' => e = .returned (.int .i64 (oneV k m X nd of sz)) ∧ Below w.heap.size w w' := by
  have hbA := below_alloc w (.cells #[pv, .int .i64 nd, .int .i64 of, .int .i64 sz] 60)
  obtain ⟨ap, cp, rfl, ⟨hcap, hbig⟩, hpc⟩ := h
  obtain ⟨W, hW⟩ : ∃ W, w.alloc (.cells #[.slice ap m cp, .int .i64 nd, .int .i64 of, .int .i64 sz] 60) = W := ⟨_, rfl⟩
  rw [hW] at hbA
  have s0 : W.cell? ⟨w.heap.size, 0, none⟩ = some (.slice ap m cp) := by rw [← hW]; exact cell_at (heap_alloc_new _ _) rfl
  have s1 : W.cell? ⟨w.heap.size, 1, none⟩ = some (.int .i64 nd) := by rw [← hW]; exact cell_at (heap_alloc_new _ _) rfl
  have s2 : W.cell? ⟨w.heap.size, 2, none⟩ = some (.int .i64 of) := by rw [← hW]; exact cell_at (heap_alloc_new _ _) rfl
  have s3 : W.cell? ⟨w.heap.size, 3, none⟩ = some (.int .i64 sz) := by rw [← hW]; exact cell_at (heap_alloc_new _ _) rfl
  have HBW := hid hbA
  have HPc := hid hpc
  obtain ⟨ans, hans⟩ : ∃ a, oneV k m X nd of sz = a := ⟨_, rfl⟩
  rw [hans]
  unfold oneV at hans
  have HA := hid hans
  clear hbA hpc hans
  unfold verV
  go_enter Tryz.func111, Tryz.ntmps111
  go_wp2
  go_loopw [10] (fun iv wz => ∃ i : Nat, i ≤ m ∧ iv = .int .i64 i ∧ wz = W ∧ Hid (parE k X (m - i) i (lastP X i) = parE k X m 0 (-1))) (fun iv _ => m - (intOf iv).toNat)
  case atStart => exact ⟨0, Nat.zero_le _, rfl, rfl, rfl⟩
  case round =>
    obtain ⟨i, hi, rfl, hwz, HP⟩ := hrel
    subst hwz
    by_cases him : i < m
    · have himi : (i : Int) < (m : Int) := by omega
      rcases HPc.out with h0 | ⟨bp, op, rfl, hbp, hpx⟩
      · omega
      have e0 : wr.cell? ⟨bp, op + i, none⟩ = some (.int .i64 (X i)) := by rw [HBW.out.cell hbp]; exact hpx i him
      have hp := HP.out
      rw [show m - i = (m - (i + 1)) + 1 by omega] at hp
      simp only [parE] at hp
      obtain ⟨x, hxx⟩ : ∃ x, X i = x := ⟨_, rfl⟩
      have hlast : lastP X (i + 1) = x := by unfold lastP; rw [if_neg (by omega)]; exact hxx
      rw [hxx] at e0 hp
      have HLx := hid hlast
      clear hxx hlast
      by_cases c1 : x < 0 ∨ (k : Int) ≤ x
      · rw [if_pos c1] at hp
        have hst := HA.out
        rw [← hp, if_neg (by decide)] at hst
        have HFin := hid hst
        clear hp hst hpx
        by_cases c2 : x < 0
        · go_wp2
          go_ret
          exact ⟨by rw [← HFin.out]; rfl, HBW.out⟩
        · have c3 : (k : Int) ≤ x := by omega
          go_wp2
          go_ret
          exact ⟨by rw [← HFin.out]; rfl, HBW.out⟩
      · rw [if_neg c1] at hp
        have c2 : ¬ x < 0 := fun h => c1 (Or.inl h)
        have c3 : ¬ (k : Int) ≤ x := fun h => c1 (Or.inr h)
        by_cases h0 : i = 0
        · have hz : ¬ 0 < (i : Int) := by omega
          rw [show lastP X i = -1 from if_pos h0, if_neg (by omega)] at hp
          have HP2 := hid hp
          clear hp c1 hpx h0
          go_wp2
          go_roundw
          case rel => exact ⟨i + 1, by omega, by go_num, trivial, by rw [HLx.out]; exact HP2.out⟩
          case measure => simp only [intOf]; omega
        · have hpos : 0 < (i : Int) := by omega
          obtain ⟨j, rfl⟩ : ∃ j, i = j + 1 := ⟨i - 1, by omega⟩
          have e1 : wr.cell? ⟨bp, op + j, none⟩ = some (.int .i64 (X j)) := by rw [HBW.out.cell hbp]; exact hpx j (by omega)
          have hjm : (j : Int) < (m : Int) := by omega
          rw [show lastP X (j + 1) = X j from rfl] at hp
          obtain ⟨y, hyy⟩ : ∃ y, X j = y := ⟨_, rfl⟩
          rw [hyy] at e1 hp
          clear hpx hyy
          by_cases c4 : x ≤ y
          · rw [if_pos c4] at hp
            have hst := HA.out
            rw [← hp, if_neg (by decide)] at hst
            have HFin := hid hst
            clear hp hst c1
            go_wp2
            go_ret
            exact ⟨by rw [← HFin.out]; rfl, HBW.out⟩
          · rw [if_neg c4] at hp
            have HP2 := hid hp
            clear hp c1
            go_wp2
            go_roundw
            case rel => exact ⟨j + 1 + 1, by omega, by go_num, trivial, by rw [HLx.out]; exact HP2.out⟩
            case measure => simp only [intOf]; omega
    · have hie : m = i := by omega
      subst hie
      have hp := HP.out
      rw [Nat.sub_self] at hp
      have hp0 : parE k X m 0 (-1) = 0 := hp.symm
      have hst := HA.out
      rw [hp0, if_pos rfl] at hst
      have HCk := hid (shCheck nd of sz wr)
      rw [hst] at HCk
      clear hp hp0 hst
      unfold planV at HCk
      go_wp2_with fail
      refine Calls.mono HCk.out ?_
      rintro e w5 ⟨rfl, hb5⟩
      have HB5 := hid (HBW.out.trans (hb5.mono HBW.out.size))
      clear hb5
      go_wp2
      go_ret
      exact ⟨rfl, HB5.out⟩

set_option maxHeartbeats 2000000 in
theorem bkCheck (v : Value) (n : Nat) (PV : Nat → Value) (b : Bk) (w : World) (h : VeSl w w.heap.size v n PV b) :
    Calls Tryz.prog 72 #[bookV v] w fun e w' => e = .returned (.int .i64 (bookE n b)) ∧ Below w.heap.size w w' := by
  obtain ⟨ad, cap, rfl, ⟨hcap, hbig⟩, hx⟩ := h
  have hbx := below_alloc w (.cells #[.slice ad n cap] 24)
  have HBx := hid hbx
  have HX := hid hx
  obtain ⟨ans, hans⟩ : ∃ a, bookE n b = a := ⟨_, rfl⟩
  rw [hans]
  unfold bookE at hans
  clear hbx hx
  unfold bookV
  by_cases hn : n ≤ 12
  · rw [if_pos hn] at hans
    have HA := hid hans
    have hni : (n : Int) ≤ 12 := by omega
    clear hans
    go_enter Tryz.func72, Tryz.ntmps72
    go_wp2
    go_loopw [13] (fun iv wr => ∃ k : Nat, k ≤ n ∧ iv = .int .i64 k ∧ Hid (Below w.heap.size w wr) ∧ Hid (scanV b (n - k) k = ans)) (fun iv _ => n - (intOf iv).toNat)
    case atStart => exact ⟨0, Nat.zero_le _, rfl, HBx, HA⟩
    case round =>
      obtain ⟨k, hk, rfl, HB, HS⟩ := hrel
      by_cases hlt : k < n
      · have hki : (k : Int) < (n : Int) := by omega
        rcases HX.out with h0 | ⟨bl, off, rfl, hbl, hx⟩
        · omega
        obtain ⟨x0, x1, x2, x3, x4⟩ := hx k hlt
        have hstep := HS.out
        rw [show n - k = (n - (k + 1)) + 1 by omega] at hstep
        simp only [scanV] at hstep
        have HI : Hid (∀ w', Below w.heap.size w w' → IntSl w' w'.heap.size (PV k) (b.PL k) (b.PX k)) := fun w' hb => x4.up hb
        obtain ⟨ap, cp, hpe, _, _⟩ := x4
        rw [hpe] at x0 HI
        have g0 : wr.cell? ⟨bl, off + k * 4, none⟩ = some (.slice ap (b.PL k) cp) := by rw [HB.out.cell hbl]; exact x0
        have g1 : wr.cell? ⟨bl, off + k * 4 + 1, none⟩ = some (.int .i64 (b.nd k)) := by rw [HB.out.cell hbl]; exact x1
        have g2 : wr.cell? ⟨bl, off + k * 4 + 2, none⟩ = some (.int .i64 (b.of k)) := by rw [HB.out.cell hbl]; exact x2
        have g3 : wr.cell? ⟨bl, off + k * 4 + 3, none⟩ = some (.int .i64 (b.sz k)) := by rw [HB.out.cell hbl]; exact x3
        have hbA := below_alloc wr (.cells #[.slice ap (b.PL k) cp, .int .i64 (b.nd k), .int .i64 (b.of k), .int .i64 (b.sz k)] 60)
        have HBW := hid (HB.out.trans (hbA.mono HB.out.size))
        have HC := hid (bkOne k _ _ _ (b.nd k) (b.of k) (b.sz k) _ (HI.out _ HBW.out))
        rw [show oneV k (b.PL k) (b.PX k) (b.nd k) (b.of k) (b.sz k) = verE b k from rfl] at HC
        obtain ⟨c, hcc⟩ : ∃ c, verE b k = c := ⟨_, rfl⟩
        rw [hcc] at HC hstep
        clear x0 x1 x2 x3 hx hpe hbA hcc
        unfold verV at HC
        by_cases hc0 : c = 0
        · subst hc0
          rw [if_pos rfl] at hstep
          have HNx := hid hstep
          clear hstep
          go_wp2_with fail
          refine Calls.mono HC.out ?_
          rintro e w5 ⟨rfl, hb5⟩
          have HB5 := hid (HBW.out.trans (hb5.mono HBW.out.size))
          clear hb5
          go_wp2
          go_roundw
          case rel => exact ⟨k + 1, by omega, by go_num, HB5, HNx⟩
          case measure => simp only [intOf]; omega
        · rw [if_neg hc0] at hstep
          have HFin := hid hstep
          have hcb : (c != 0) = true := by simpa using hc0
          clear hstep hc0
          go_wp2_with fail
          refine Calls.mono HC.out ?_
          rintro e w5 ⟨rfl, hb5⟩
          have HB5 := hid (HBW.out.trans (hb5.mono HBW.out.size))
          clear hb5
          go_wp2
          go_ret
          exact ⟨by rw [← HFin.out]; rfl, HB5.out⟩
      · have hke : n = k := by omega
        subst hke
        have hst := HS.out
        rw [Nat.sub_self] at hst
        have HFin : Hid ((0 : Int) = ans) := hst
        clear hst
        go_wp2
        go_ret
        exact ⟨by rw [← HFin.out]; rfl, HB.out⟩
  · rw [if_neg hn] at hans
    have HA := hid hans
    have hni : ¬ (n : Int) ≤ 12 := by omega
    clear hans
    go_enter Tryz.func72, Tryz.ntmps72
    go_wp2
    go_ret
    exact ⟨by rw [← HA.out]; rfl, HBx.out⟩

end Go.Proofs.YtcpgojhacfckhaeGreat

/- What package book makes of its own: a version, a book, copied whole. -/
namespace Go.Proofs.YtcpgojhacfckhaeGreat
open Go.RowKit
set_option linter.unusedVariables false

theorem splice_all {n : Nat} (D : Nat → Int) (j : Nat) (hj : j < n) :
    (splice (List.replicate n (Value.int .i64 0)) 0 ((List.range n).map fun j => Value.int .i64 (D j)))[j]? = some (.int .i64 (D j)) := by
  unfold splice
  simp only [List.take_zero, List.nil_append]
  rw [List.getElem?_append_left (by simpa using hj)]
  simp [hj]

/-- a list copied over as many noughts -/
theorem copy_all2 {w0 w : World} {g m cp : Nat} {a : Option Addr} {D : Nat → Int} (hg : w.heap[g]? = some (.cells (List.replicate m (Value.int .i64 0)).toArray 3 (0, 0))) (h : IntSl w w.heap.size (.slice a m cp) m D) (hb0 : Below g w0 w) :
    ∃ w', (Builtin.copy_ #[28, 28] 3 #[.slice (some ⟨g, 0, none⟩) m m, .slice a m cp]).run Tryz.prog w = .ok (.int .i64 (m : Int)) w' ∧ (∀ j, j < m → w'.cell? ⟨g, j, none⟩ = some (.int .i64 (D j))) ∧ Below g w0 w' ∧ ∃ cs : Array Value, w'.heap[g]? = some (.cells cs 3 (0, 0)) := by
  obtain ⟨ad, cp', e, _, hx⟩ := h
  injection e with e1
  subst e1
  by_cases hm : m = 0
  · subst hm
    exact ⟨w, run_copy_none (P := Tryz.prog) w 28 28 3 3 _ _ 0 0 0 cp Tryz.underlying28 Tryz.sizeInt rfl, fun j hj => by omega, hb0, _, hg⟩
  rcases hx with h0 | ⟨b, o, rfl, hb, hx⟩
  · omega
  have hsrc : ∀ j v, ((List.range m).map fun j => Value.int .i64 (D j))[j]? = some v → w.cell? (Addr.add ⟨b, o, none⟩ j) = some v := fun j v hj => by
    have hjs : j < m := by
      rcases Nat.lt_or_ge j m with h | h
      · exact h
      · rw [List.getElem?_eq_none (by simpa using h)] at hj; cases hj
    simp only [List.getElem?_map, List.getElem?_range hjs, Option.map_some, Option.some.injEq] at hj
    rw [Addr.add_lit, hx j hjs, hj]
  have hrun := run_copy_row (P := Tryz.prog) w 28 28 3 3 g 0 m m ⟨b, o, none⟩ m cp (List.replicate m (Value.int .i64 0)).toArray 3 ((List.range m).map fun j => Value.int .i64 (D j)) Tryz.underlying28 Tryz.sizeInt hg (by simp) hsrc (by simp) (fun v hv => by obtain ⟨j, _, rfl⟩ := List.mem_map.1 hv; rfl)
  have hl : (((List.range m).map fun j => Value.int .i64 (D j)).length : Int) = (m : Int) := by simp
  refine ⟨_, by rw [hrun, hl]; rfl, fun j hj => ?_, below_setRow hb0 (Nat.le_refl _) _, _, setRow_heap w g _ _ _ _ hg⟩
  refine cell_at (setRow_heap w g _ _ _ _ hg) ?_
  have h1 := splice_all D j hj
  unfold splice at h1
  simpa using h1

theorem copy_all {w0 w : World} {g m cp : Nat} {a : Option Addr} {D : Nat → Int} (hg : w.heap[g]? = some (.cells (List.replicate m (Value.int .i64 0)).toArray 3 (0, 0))) (h : IntSl w w.heap.size (.slice a m cp) m D) (hb0 : Below g w0 w) :
    ∃ w', (Builtin.copy_ #[28, 28] 3 #[.slice (some ⟨g, 0, none⟩) m m, .slice a m cp]).run Tryz.prog w = .ok (.int .i64 (m : Int)) w' ∧ (∀ j, j < m → w'.cell? ⟨g, j, none⟩ = some (.int .i64 (D j))) ∧ Below g w0 w' := by
  obtain ⟨w', h1, h2, h3, _⟩ := copy_all2 hg h hb0
  exact ⟨w', h1, h2, h3⟩

theorem four_at {w : World} {g : Nat} {T : TypeId} {u0 u1 u2 u3 : Value} (h : w.heap[g]? = some (.cells #[u0, u1, u2, u3] T (0, 0))) :
    w.cell? ⟨g, 0, none⟩ = some u0 ∧ w.cell? ⟨g, 1, none⟩ = some u1 ∧ w.cell? ⟨g, 2, none⟩ = some u2 ∧ w.cell? ⟨g, 3, none⟩ = some u3 := ⟨cell_at h rfl, cell_at h rfl, cell_at h rfl, cell_at h rfl⟩

theorem four_free {w : World} {g : Nat} {T : TypeId} {u0 u1 u2 u3 : Value} (h : w.heap[g]? = some (.cells #[u0, u1, u2, u3] T (0, 0))) :
    w.frozen? ⟨g, 0, none⟩ = false ∧ w.frozen? ⟨g, 1, none⟩ = false ∧ w.frozen? ⟨g, 2, none⟩ = false ∧ w.frozen? ⟨g, 3, none⟩ = false := ⟨frozen_at h, frozen_at h, frozen_at h, frozen_at h⟩

/-- a version put into its cells -/
def put4 (w : World) (g o : Nat) (u0 u1 u2 u3 : Value) : World := (((w.setCell ⟨g, o, none⟩ u0).setCell ⟨g, o + 1, none⟩ u1).setCell ⟨g, o + 2, none⟩ u2).setCell ⟨g, o + 3, none⟩ u3

theorem put4_whole {w : World} {g : Nat} {T : TypeId} {v0 v1 v2 v3 : Value} (h : w.heap[g]? = some (.cells #[v0, v1, v2, v3] T (0, 0))) (u0 u1 u2 u3 : Value) : (put4 w g 0 u0 u1 u2 u3).heap[g]? = some (.cells #[u0, u1, u2, u3] T (0, 0)) := by
  simp [put4, World.setCell, Array.getElem?_modify, h]

theorem below_put4 {B : Nat} {w0 w : World} (h : Below B w0 w) {g : Nat} (hg : B ≤ g) (o : Nat) (u0 u1 u2 u3 : Value) : Below B w0 (put4 w g o u0 u1 u2 u3) :=
  (((h.setCell (p := ⟨g, o, none⟩) hg _).setCell (p := ⟨g, o + 1, none⟩) hg _).setCell (p := ⟨g, o + 2, none⟩) hg _).setCell (p := ⟨g, o + 3, none⟩) hg _

theorem put4_other {w : World} {g o : Nat} {u0 u1 u2 u3 : Value} {a : Addr} (h : a.block ≠ g) : (put4 w g o u0 u1 u2 u3).cell? a = w.cell? a := by
  unfold put4
  rw [World.cell?_setCell_other _ _ _ _ (by intro e; rw [← e] at h; exact h rfl), World.cell?_setCell_other _ _ _ _ (by intro e; rw [← e] at h; exact h rfl), World.cell?_setCell_other _ _ _ _ (by intro e; rw [← e] at h; exact h rfl), World.cell?_setCell_other _ _ _ _ (by intro e; rw [← e] at h; exact h rfl)]

set_option maxHeartbeats 1000000 in
theorem bkOwn (pv : Value) (m : Nat) (X : Nat → Int) (nd of sz : Int) (w : World) (h : IntSl w w.heap.size pv m X) :
    Calls Tryz.prog 74 #[verV pv nd of sz] w fun e w' => Below w.heap.size w w' ∧ ∃ pv', e = .returned (verV pv' nd of sz) ∧ IntSl w' w'.heap.size pv' m X ∧ Above w.heap.size pv' := by
  have hbA := ((Below.refl w.heap.size w).alloc (Nat.le_refl _) (.cells #[pv, .int .i64 nd, .int .i64 of, .int .i64 sz] 60)).alloc (by simp) (.cells #[.slice none 0 0, .int .i64 0, .int .i64 0, .int .i64 0] 60)
  have HI := hid h
  obtain ⟨ap, cp, rfl, ⟨hcap, hbig⟩, hpc⟩ := h
  obtain ⟨W, hW⟩ : ∃ W, (w.alloc (.cells #[.slice ap m cp, .int .i64 nd, .int .i64 of, .int .i64 sz] 60)).alloc (.cells #[.slice none 0 0, .int .i64 0, .int .i64 0, .int .i64 0] 60) = W := ⟨_, rfl⟩
  rw [hW] at hbA
  have k0 : W.heap[w.heap.size]? = some (.cells #[.slice ap m cp, .int .i64 nd, .int .i64 of, .int .i64 sz] 60 (0, 0)) := by rw [← hW]; exact heap_two_old w _ _
  have k1 : W.heap[w.heap.size + 1]? = some (.cells #[.slice none 0 0, .int .i64 0, .int .i64 0, .int .i64 0] 60 (0, 0)) := by rw [← hW]; exact heap_two_new w _ _
  have hsz : w.heap.size + 1 < W.heap.size := (Array.getElem?_eq_some_iff.1 k1).1
  have s0 : W.cell? ⟨w.heap.size, 0, none⟩ = some (.slice ap m cp) := cell_at k0 rfl
  obtain ⟨ii, hii, hz0, hz1, hz2⟩ := info_parts Tryz.infoInt
  have HBW := hid hbA
  have HK0 := hid k0
  have HK1 := hid k1
  have HSz := hid hsz
  clear hbA hpc k0 k1 hsz
  unfold verV
  go_enter Tryz.func74, Tryz.ntmps74
  go_wp2_with (at_make; refine wpList_make_full _ rfl (.tmp 6) (.tmp 6) 28 rfl _ 3 ii (.int .i64 0) 1 Tryz.underlying28 hii hz0 hz1 _ _ _ _ m rfl rfl rfl rfl (by rw [hz2]; omega) (by unfold maxLen; omega) (Nat.le_refl _) ?_; intro w1 ho1 hg1; have HB1 := hid (below_of_grown hg1); have t0 : w1.cell? ⟨w.heap.size, 0, none⟩ = some (.slice ap m cp) := (HB1.out.cell (cell_lt s0)).trans s0; obtain ⟨w2, hrun, hm2, hb2⟩ := copy_all (made_block ho1) ((HI.out.up HBW.out).up HB1.out) HB1.out; have HM2 := hid hm2; have HB2 := hid hb2; obtain ⟨c0, c1, c2, c3⟩ := four_at ((hb2.block _ (Nat.lt_of_succ_lt HSz.out)).trans HK0.out); obtain ⟨d0, d1, d2, d3⟩ := four_at ((hb2.block _ HSz.out).trans HK1.out); obtain ⟨f0, f1, f2, f3⟩ := four_free ((hb2.block _ HSz.out).trans HK1.out); clear ho1 hg1 hm2 hb2)
  have hB3 : Below w.heap.size w (put4 w2 (w.heap.size + 1) 0 (.slice (some ⟨W.heap.size, 0, none⟩) m m) (.int .i64 nd) (.int .i64 of) (.int .i64 sz)) := below_put4 (HBW.out.trans (HB2.out.mono HBW.out.size)) (by omega) _ _ _ _ _
  have hH := put4_whole ((HB2.out.block _ HSz.out).trans HK1.out) (.slice (some ⟨W.heap.size, 0, none⟩) m m) (.int .i64 nd) (.int .i64 of) (.int .i64 sz)
  refine bodyPost_ret (results_cell_row rfl _ _ (w.heap.size + 1) 60 #[.slice (some ⟨W.heap.size, 0, none⟩) m m, .int .i64 nd, .int .i64 of, .int .i64 sz] (0, 0) _ rfl hH Tryz.underlying60 rfl (by kernel_rfl)) rfl ?_
  refine ⟨hB3, _, rfl, ⟨_, _, rfl, ⟨Nat.le_refl _, by omega⟩, ?_⟩, fun ad n' c' e' => by injection e' with e1; injection e1 with e1; subst e1; exact HBW.out.size⟩
  by_cases hm : m = 0
  · exact Or.inl hm
  · have hsz := HSz.out
    have hc : ∀ j, j < m → (put4 w2 (w.heap.size + 1) 0 (.slice (some ⟨W.heap.size, 0, none⟩) m m) (.int .i64 nd) (.int .i64 of) (.int .i64 sz)).cell? ⟨W.heap.size, 0 + j, none⟩ = some (.int .i64 (X j)) := fun j hj => by
      rw [put4_other (by show W.heap.size ≠ w.heap.size + 1; omega), Nat.zero_add]
      exact HM2.out j hj
    exact Or.inr ⟨_, 0, rfl, cell_lt (hc 0 (by omega)), hc⟩

end Go.Proofs.YtcpgojhacfckhaeGreat

/- What package place owes, and the closed fact that chapter 8's laws ask first. -/
namespace Go.Proofs.YtcpgojhacfckhaeGreat
open Go.RowKit
set_option linter.unusedVariables false

theorem kel_nil (w : World) (B : Nat) (UV : Nat → Value) (t : Kt) : KeSl w B (.slice none 0 0) 0 UV t := ⟨none, 0, rfl, ⟨Nat.le_refl _, by omega⟩, Or.inl rfl⟩

end Go.Proofs.YtcpgojhacfckhaeGreat

/- How package place holds two peers against each other: by how much room is left. -/
namespace Go.Proofs.YtcpgojhacfckhaeGreat
open Go.RowKit Go.Lib Go.Sort
set_option linter.unusedVariables false

/-- which of two numbers is greater -/
def cmpZ (a c : Int) : Int := if a < c then -1 else if c < a then 1 else 0

/-- a world that has drawn, and holds more -/
def GrO (w u : World) : Prop := ∃ q os, u = grow (w.drewN q) os

theorem GrO.refl (w : World) : GrO w w := ⟨0, #[], by rw [grow_empty]; rfl⟩
theorem GrO.alloc {w u : World} (h : GrO w u) (o : Obj) : GrO w (u.alloc o) := by
  obtain ⟨q, os, rfl⟩ := h
  exact ⟨q, os ++ #[o], by rw [alloc_eq_grow, grow_grow]⟩
theorem GrO.drew {w u : World} (h : GrO w u) : GrO w u.drew := by
  obtain ⟨q, os, rfl⟩ := h
  exact ⟨q + 1, os, rfl⟩
theorem GrO.below {w u : World} (h : GrO w u) : Below w.heap.size w u := by
  obtain ⟨q, os, rfl⟩ := h
  refine ⟨rfl, rfl, rfl, by simp [grow], fun k hk => ?_⟩
  show (w.heap ++ os)[k]? = w.heap[k]?
  rw [Array.getElem?_append_left hk]

theorem isNaN_int (x : Int) (w : World) : Calls Tryz.prog 129 #[.int .i64 x] w fun e w' => e = .returned (.bool false) ∧ w' = w := by
  have hx : (x != x) = false := by simp
  go_enter Tryz.func129, Tryz.ntmps129
  go_wp2
  go_ret
  exact ⟨by first | rfl | rw [hx], rfl⟩

theorem compare_int (x y : Int) (w : World) : Calls Tryz.prog 107 #[.int .i64 x, .int .i64 y] w fun e w' => e = .returned (.int .i64 (cmpZ x y)) ∧ w' = w := by
  unfold cmpZ
  by_cases h1 : x < y
  · rw [if_pos h1]
    go_enter Tryz.func107, Tryz.ntmps107
    go_wp2_with (go_at_call 129; go_must (refine (isNaN_int _ _).mono ?_; rintro e w1 ⟨rfl, hw1⟩; subst w1))
    go_ret
    exact ⟨rfl, rfl⟩
  · rw [if_neg h1]
    by_cases h2 : y < x
    · rw [if_pos h2]
      go_enter Tryz.func107, Tryz.ntmps107
      go_wp2_with (go_at_call 129; go_must (refine (isNaN_int _ _).mono ?_; rintro e w1 ⟨rfl, hw1⟩; subst w1))
      go_ret
      exact ⟨rfl, rfl⟩
    · rw [if_neg h2]
      go_enter Tryz.func107, Tryz.ntmps107
      go_wp2_with (go_at_call 129; go_must (refine (isNaN_int _ _).mono ?_; rintro e w1 ⟨rfl, hw1⟩; subst w1))
      go_ret
      exact ⟨rfl, rfl⟩

theorem plLeft (th : Bool) (room : Int) (a : Option Addr) (m c : Nat) (w : World) (h1 : 0 ≤ room ∧ room ≤ 20) (h2 : (m : Int) ≤ room) :
    Calls Tryz.prog 104 #[peerV th room (.slice a m c)] w fun e w' => e = .returned (.int .i64 (room - m)) ∧ w' = w.alloc (.cells #[.bool th, .int .i64 room, .slice a m c] 47) := by
  unfold peerV
  go_enter Tryz.func104, Tryz.ntmps104
  go_wp2
  go_ret
  exact ⟨rfl, rfl⟩

set_option maxHeartbeats 2000000 in
theorem plComp (bx : Nat) (a : Option Addr) (c : Nat) (np : Nat) (KV : Nat → Value) (UV : Nat → Nat → Value) (P : Ps) (i j : Nat) (hi : i < np) (hj : j < np) (hr : ∀ k, k < np → (0 ≤ P.rm k ∧ P.rm k ≤ 20) ∧ (P.m k : Int) ≤ P.rm k) (w : World)
    (hl : PsSl w w.heap.size (.slice a np c) np KV UV P) (hx : w.cell? ⟨bx, 0, none⟩ = some (.slice a np c)) :
    Calls Tryz.prog 106 #[.int .i64 (i : Int), .int .i64 (j : Int), .pointer (some ⟨bx, 0, none⟩)] w fun e w' => e = .returned (.int .i64 (cmpZ (leftK P j) (leftK P i))) ∧ GrO w w' := by
  obtain ⟨bl, off, rfl, hbl, g0, g1, g2, g3⟩ := hl.at hi
  obtain ⟨bl', off', he, _, f0, f1, f2, f3⟩ := hl.at hj
  injection he with he
  injection he with he1 he2 _
  subst he1 he2
  obtain ⟨ai, ci, hki, _, _⟩ := g3
  obtain ⟨aj, cj, hkj, _, _⟩ := f3
  obtain ⟨_, _, _, ⟨hcl, hbig⟩, _⟩ := hl
  have hri := hr i hi
  have hrj := hr j hj
  rw [hki] at g2
  rw [hkj] at f2
  have hne : Nonempty (Of (GrO w)) := ⟨⟨w, GrO.refl w⟩⟩
  have F0 : ∀ u : Of (GrO w), u.val.cell? ⟨bx, 0, none⟩ = some (.slice (some ⟨bl, off, none⟩) np c) := fun u => by rw [u.is.below.cell (cell_lt hx)]; exact hx
  have F1 : ∀ u : Of (GrO w), u.val.cell? ⟨bl, off + i * 3, none⟩ = some (.bool (P.th i)) := fun u => by rw [u.is.below.cell hbl]; exact g0
  have F2 : ∀ u : Of (GrO w), u.val.cell? ⟨bl, off + i * 3 + 1, none⟩ = some (.int .i64 (P.rm i)) := fun u => by rw [u.is.below.cell hbl]; exact g1
  have F3 : ∀ u : Of (GrO w), u.val.cell? ⟨bl, off + i * 3 + 2, none⟩ = some (.slice ai (P.m i) ci) := fun u => by rw [u.is.below.cell hbl]; exact g2
  have F4 : ∀ u : Of (GrO w), u.val.cell? ⟨bl, off + j * 3, none⟩ = some (.bool (P.th j)) := fun u => by rw [u.is.below.cell hbl]; exact f0
  have F5 : ∀ u : Of (GrO w), u.val.cell? ⟨bl, off + j * 3 + 1, none⟩ = some (.int .i64 (P.rm j)) := fun u => by rw [u.is.below.cell hbl]; exact f1
  have F6 : ∀ u : Of (GrO w), u.val.cell? ⟨bl, off + j * 3 + 2, none⟩ = some (.slice aj (P.m j) cj) := fun u => by rw [u.is.below.cell hbl]; exact f2
  have hii : (i : Int) < (np : Int) := by omega
  have hjj : (j : Int) < (np : Int) := by omega
  have C1 : Hid (∀ u, _) := fun u => plLeft (P.th j) (P.rm j) aj (P.m j) cj u hrj.1 hrj.2
  have C2 : Hid (∀ u, _) := fun u => plLeft (P.th i) (P.rm i) ai (P.m i) ci u hri.1 hri.2
  have C3 : Hid (∀ u, _) := fun u => compare_int (P.rm j - P.m j) (P.rm i - P.m i) u
  unfold peerV at C1 C2
  clear g0 g1 g2 f0 f1 f2 hki hkj hx hr
  unfold leftK
  obtain ⟨ans, hans⟩ : ∃ x, cmpZ (P.rm j - P.m j) (P.rm i - P.m i) = x := ⟨_, rfl⟩
  rw [hans]
  rw [hans] at C3
  clear hans
  go_enter Tryz.func106, Tryz.ntmps106
  go_wp2_with fail
  have HD1 : Hid (GrO w w.drew) := (GrO.refl w).drew
  refine region_mixed (GrO w) [([0, 1, 2, 3, 5, 6, 7, 8], 4), ([], 9), ([], 10)] [11] (by kernel_rfl) (by kernel_rfl) HD1.out ?_
  refine mixO_cons (by simp only [pickO, List.getElem?_cons_zero, List.getElem?_cons_succ]; exact rfl) (by simp only [pickO, List.getElem?_cons_zero, List.getElem?_cons_succ]; exact rfl) ?_
  repeat (go_big_quiet_step (fail))
  refine wpQuiet_nil ?_
  intro K hK
  go_wp2_with fail
  refine Calls.mono (C1.out _) ?_
  rintro e w5 ⟨rfl, hw5⟩
  have H5 : Hid (GrO w w5) := by show GrO w w5; rw [hw5]; exact HD1.out.alloc _
  clear hw5
  go_wp2
  refine ⟨rfl, hK _ _ H5.out ?_⟩
  clear hK K
  refine mixO_cons (lq := []) rfl (by simp only [pickO, List.getElem?_cons_zero, List.getElem?_cons_succ]; exact rfl) ?_
  refine wpQuiet_nil ?_
  intro K hK
  go_wp2_with fail
  refine Calls.mono (C2.out _) ?_
  rintro e w6 ⟨rfl, hw6⟩
  have H6 : Hid (GrO w w6) := by show GrO w w6; rw [hw6]; exact H5.out.alloc _
  clear hw6
  go_wp2
  refine ⟨rfl, hK _ _ H6.out ?_⟩
  clear hK K
  refine mixO_cons (lq := []) rfl (by simp only [pickO, List.getElem?_cons_zero, List.getElem?_cons_succ]; exact rfl) ?_
  refine wpQuiet_nil ?_
  intro K hK
  go_wp2_with fail
  refine Calls.mono (C3.out _) ?_
  rintro e w7 ⟨rfl, hw7⟩
  subst w7
  go_wp2
  refine ⟨rfl, hK _ _ H6.out ?_⟩
  clear hK K
  refine mixO_nil (by simp only [pickO, List.getElem?_cons_zero, List.getElem?_cons_succ]; exact rfl) ?_
  repeat (go_big_quiet_step (fail))
  refine wpQuiet_nil ?_
  clear F0 F1 F2 F3 F4 F5 F6 hne
  go_wp2
  go_ret
  exact ⟨rfl, H6.out⟩

end Go.Proofs.YtcpgojhacfckhaeGreat
