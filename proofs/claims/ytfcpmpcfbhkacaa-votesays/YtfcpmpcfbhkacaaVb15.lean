/- Several texts of one proof, in their order. -/
import Derived.Test.YtfcpmpcfbhkacaaVb12
import Derived.Maps.AppendAt

/- The laws' own helper that picks some of a list of shares, each once, in an order that is handed in. -/
namespace Go.Proofs.Ytfcpmpcfbhkacaa

open Go.RowKit CurveMath
set_option linter.unusedVariables false

/-- places of n, each once: c that were picked, and those that are left -/
structure Pick (n c : Nat) (O Lf : Nat → Nat) : Prop where
  le : c ≤ n
  o : ∀ j, j < c → O j < n
  l : ∀ j, j < n - c → Lf j < n
  oinj : ∀ i j, i < c → j < c → O i = O j → i = j
  linj : ∀ i j, i < n - c → j < n - c → Lf i = Lf j → i = j
  apart : ∀ i j, i < c → j < n - c → O i ≠ Lf j

theorem Pick.start (n : Nat) (O : Nat → Nat) : Pick n 0 O id :=
  ⟨Nat.zero_le _, fun j hj => by omega, fun j hj => by simpa using hj, fun i j hi => by omega, fun i j _ _ e => e, fun i j hi => by omega⟩

/-- one more is picked: the one at place k of those left -/
theorem Pick.next {n c k : Nat} {O Lf : Nat → Nat} (h : Pick n c O Lf) (hk : k < n - c) : Pick n (c + 1) (fun j => if j < c then O j else Lf k) (without k Lf) := by
  have hw : ∀ j, j < n - (c + 1) → ∃ i, i < n - c ∧ i ≠ k ∧ without k Lf j = Lf i ∧ (i = if j < k then j else j + 1) := fun j hj => by
    unfold without
    by_cases h1 : j < k
    · exact ⟨j, by omega, by omega, by rw [if_pos h1], by rw [if_pos h1]⟩
    · exact ⟨j + 1, by omega, by omega, by rw [if_neg h1], by rw [if_neg h1]⟩
  refine ⟨by omega, fun j hj => ?_, fun j hj => ?_, fun i j hi hj e => ?_, fun i j hi hj e => ?_, fun i j hi hj e => ?_⟩
  · show (if j < c then O j else Lf k) < n
    split
    · exact h.o j (by assumption)
    · exact h.l k hk
  · obtain ⟨i, hi, _, e, _⟩ := hw j hj
    rw [e]
    exact h.l i hi
  · have e' : (if i < c then O i else Lf k) = (if j < c then O j else Lf k) := e
    by_cases h1 : i < c
    · by_cases h2 : j < c
      · rw [if_pos h1, if_pos h2] at e'
        exact h.oinj i j h1 h2 e'
      · rw [if_pos h1, if_neg h2] at e'
        exact absurd e' (h.apart i k h1 hk)
    · by_cases h2 : j < c
      · rw [if_neg h1, if_pos h2] at e'
        exact absurd e'.symm (h.apart j k h2 hk)
      · omega
  · obtain ⟨i', hi', _, ei, di⟩ := hw i hi
    obtain ⟨j', hj', _, ej, dj⟩ := hw j hj
    rw [ei, ej] at e
    have := h.linj i' j' hi' hj' e
    split at di <;> split at dj <;> omega
  · obtain ⟨j', hj', hne, ej, _⟩ := hw j hj
    have e' : (if i < c then O i else Lf k) = without k Lf j := e
    rw [ej] at e'
    by_cases h1 : i < c
    · rw [if_pos h1] at e'
      exact h.apart i j' h1 hj' e'
    · rw [if_neg h1] at e'
      exact hne (h.linj k j' hk hj' e').symm

theorem flatS_congr {n : Nat} {N N' : Nat → Int} {V V' : Nat → Value} (h : ∀ j, j < n → N j = N' j ∧ V j = V' j) : flatS n N V = flatS n N' V' := by
  apply List.ext_getElem?
  intro i
  rw [flatS_get, flatS_get]
  by_cases hi : i < n * 2
  · rw [if_pos hi, if_pos hi]
    unfold cellS
    obtain ⟨h1, h2⟩ := h (i / 2) (by omega)
    rw [h1, h2]
  · rw [if_neg hi, if_neg hi]

/-- what the loop holds: those left, those picked, each in a row of its own -/
structure Picks (w0 wr : World) (vl vo : Value) (n c : Nat) (N : Nat → Int) (V : Nat → Value) (O Lf : Nat → Nat) : Prop where
  l : OwnS w0 wr vl (n - c) (fun j => N (Lf j)) (fun j => V (Lf j))
  o : OwnS w0 wr vo c (fun j => N (O j)) (fun j => V (O j))
  ne : vl.ownBlock ≠ none ∧ vl.ownBlock ≠ vo.ownBlock
  pick : Pick n c O Lf

theorem Picks.next {w0 wr w2 w3 : World} {gl cap : Nat} {vo vo' : Value} {n c k : Nat} {N : Nat → Int} {V : Nat → Value} {O Lf : Nat → Nat} {ob : Obj} (h : Picks w0 wr (.slice (some ⟨gl, 0, none⟩) (n - c) cap) vo n c N V O Lf) (hk : k < n - c)
    (ho : w2.ownsRow w0.heap.size 27 2 vo' (c + 1) (flatS c (fun j => N (O j)) (fun j => V (O j)) ++ [.int .i64 (N (Lf k)), V (Lf k)])) (hg : (wr.alloc ob).grownBy w2 vo.ownBlock)
    (hat : vo'.ownBlock = vo.ownBlock ∨ vo'.ownBlock = some (wr.alloc ob).heap.size)
    (hd : w3.ownsRow w0.heap.size 27 2 (.slice (some ⟨gl, 0, none⟩) (n - c - 1) cap) (n - c - 1) (flatS (n - c - 1) (without k fun j => N (Lf j)) (without k fun j => V (Lf j)))) (hg3 : w2.grownBy w3 (some gl)) :
    Picks w0 w3 (.slice (some ⟨gl, 0, none⟩) (n - c - 1) cap) vo' n (c + 1) N V (fun j => if j < c then O j else Lf k) (without k Lf) := by
  have hle := h.pick.le
  have hbA : Below w0.heap.size w0 (wr.alloc ob) := h.o.2.alloc h.o.2.size ob
  have hlo : ∀ g, vo.ownBlock = some g → w0.heap.size ≤ g := fun g hgg => (h.o.1.lt g hgg).1
  have hb2 : Below w0.heap.size w0 w2 := hbA.grown hg hbA.size hlo
  have hgl := h.l.1.lt gl rfl
  have hb3 : Below w0.heap.size w0 w3 := hb2.grown hg3 hb2.size (fun g hgg => by injection hgg with e; rw [← e]; exact hgl.1)
  have hne : vo'.ownBlock ≠ some gl := by
    rcases hat with e | e
    · rw [e]; exact fun e2 => h.ne.2 e2.symm
    · rw [e]; intro e2; injection e2 with e2; simp at e2; omega
  refine ⟨⟨?_, hb3⟩, ⟨?_, hb3⟩, ⟨by simp [Value.ownBlock], fun e => hne e.symm⟩, h.pick.next hk⟩
  · have e1 : n - (c + 1) = n - c - 1 := by omega
    rw [e1]
    have e2 : flatS (n - c - 1) (fun j => N (without k Lf j)) (fun j => V (without k Lf j)) = flatS (n - c - 1) (without k fun j => N (Lf j)) (without k fun j => V (Lf j)) := flatS_congr fun j hj => by
      unfold without
      split <;> exact ⟨rfl, rfl⟩
    rw [e2]
    exact hd
  · rw [flatS_succ]
    have e1 : flatS c (fun j => N (if j < c then O j else Lf k)) (fun j => V (if j < c then O j else Lf k)) = flatS c (fun j => N (O j)) (fun j => V (O j)) := flatS_congr fun j hj => by rw [if_pos hj]; exact ⟨rfl, rfl⟩
    rw [e1, if_neg (Nat.lt_irrefl c)]
    exact ho.kept hg3 (Or.inr hne)

theorem OwnS.shape {w0 wr : World} {v : Value} {n : Nat} {N : Nat → Int} {V : Nat → Value} (h : OwnS w0 wr v n N V) : ∃ ad cap, v = .slice ad n cap := by
  obtain ⟨_, h2⟩ := h.1
  rcases h2 with ⟨h1, h0⟩ | ⟨g, cap, cur, h1, _⟩
  · exact ⟨none, 0, by rw [h0]; exact h1⟩
  · exact ⟨_, _, h1⟩

theorem OwnS.shape' {w0 wr : World} {v : Value} {n : Nat} {N : Nat → Int} {V : Nat → Value} (h : OwnS w0 wr v n N V) (hne : v.ownBlock ≠ none) : ∃ g cap, v = .slice (some ⟨g, 0, none⟩) n cap := by
  obtain ⟨_, h2⟩ := h.1
  rcases h2 with ⟨h1, h0⟩ | ⟨g, cap, cur, h1, _⟩
  · rw [h1] at hne; exact absurd rfl hne
  · exact ⟨g, cap, h1⟩

/-- what picked leaves -/
def PickPost (w : World) (n m : Nat) (N : Nat → Int) (V : Nat → Value) (e : Ending) (w' : World) : Prop := ∃ v' O Lf, e = .returned v' ∧ OwnS w w' v' m (fun j => N (O j)) (fun j => V (O j)) ∧ Pick n m O Lf

/-- how many are picked -/
def pickM (many : Int) (n : Nat) : Nat := if many ≤ 0 then 0 else min many.toNat n

theorem cells_two (w : World) (N : Int) (v : Value) (T : TypeId) : ∀ j u, ([.int .i64 N, v] : List Value)[j]? = some u → (w.alloc (.cells #[.int .i64 N, v] T)).cell? (Addr.add ⟨w.heap.size, 0, none⟩ j) = some u := by
  intro j u hj
  rw [Addr.add_lit]
  match j, hj with
  | 0, hj => simp at hj; subst hj; exact cell_at (heap_alloc_new _ _) rfl
  | 1, hj => simp at hj; subst hj; exact cell_at (heap_alloc_new _ _) rfl

set_option maxHeartbeats 2000000 in
set_option maxRecDepth 10000 in
theorem picked_any {w : World} {v : Value} {n : Nat} {N : Nat → Int} {V : Nat → Value} {L : Nat → Nat} {X : Nat → Nat → Int} (h : ShSl w w.heap.size v n N V L X) (hn : 1 ≤ n ∧ n ≤ 100) (a : Option Addr) (lo co : Nat) (Od : Nat → Int) (hd : IntSl w w.heap.size (.slice a lo co) lo Od) (many : Int) :
    Calls Try.prog 28 #[v, .slice a lo co, .int .i64 many] w fun e w' => PickPost w n (pickM many n) N V e w' := by
  have hV : ∀ j, j < n → (V j).oneCell' = true := by
    obtain ⟨_, _, _, _, h2⟩ := h
    rcases h2 with h0 | ⟨_, _, _, _, h5⟩
    · omega
    · exact fun j hj => slice_one (h5 j hj).2.2
  have hVs : ∀ j, j < n → ∃ a l c, V j = .slice a l c := by
    obtain ⟨_, _, _, _, h2⟩ := h
    rcases h2 with h0 | ⟨_, _, _, _, h5⟩
    · omega
    · exact fun j hj => by obtain ⟨ad, cap, e, _⟩ := (h5 j hj).2.2; exact ⟨_, _, _, e⟩
  have HC := hid (cloneS h (by omega))
  have HV := hid hV
  have HVs := hid hVs
  have HD := hid hd
  have hbig : lo * 8 ≤ 140737488351232 := by obtain ⟨_, _, _, ⟨_, h2⟩, _⟩ := hd; exact h2
  clear hV hVs h hd
  obtain ⟨ii, hi, hz0, hz1, hz2⟩ := info_parts Try.infoShare
  go_enter Try.func28, Try.ntmps28
  go_wp2_with (go_at_call 35; go_must (refine HC.out.mono ?_; rintro e w1 ⟨vl0, rfl, howl⟩; have HW := hid howl; clear howl))
  go_loopw [7, 8, 9] (fun vl vo i wr => ∃ (c : Nat) (O Lf : Nat → Nat), c ≤ pickM many n ∧ i = .int .i64 c ∧ Hid (Picks w wr vl vo n c N V O Lf)) (fun _ _ i _ => n - (intOf i).toNat)
  case atStart =>
    refine ⟨0, id, id, Nat.zero_le _, rfl, ?_⟩
    refine ⟨HW.out, ⟨World.ownsRow_nil _ _ _ _, HW.out.2⟩, ⟨?_, ?_⟩, Pick.start n id⟩
    · obtain ⟨g, cap, _, e, _⟩ := HW.out.at (by omega)
      rw [e]; simp [Value.ownBlock]
    · obtain ⟨g, cap, _, e, _⟩ := HW.out.at (by omega)
      rw [e]; simp [Value.ownBlock]
  case round =>
    obtain ⟨c, O, Lf, hc, rfl, HP⟩ := hrel
    have hle := HP.out.pick.le
    obtain ⟨gl, capl, rfl⟩ := HP.out.l.shape' HP.out.ne.1
    obtain ⟨ao, capo, rfl⟩ := HP.out.o.shape
    by_cases hcm : (c : Int) < many
    · have hmm : 0 < many := by omega
      by_cases hcn : c < n
      · have hpm : c + 1 ≤ pickM many n := by unfold pickM; rw [if_neg (by omega)]; omega
        have hl0 : (0 : Int) < ((n - c : Nat) : Int) := by omega
        obtain ⟨gl', capl', cur, e1, hge, hh, _, _, _, hcell⟩ := HP.out.l.at (by omega)
        injection e1 with e1 _ e3
        injection e1 with e1
        injection e1 with e1
        subst e1 e3
        have hglt := (HP.out.l.1.lt gl rfl).2
        obtain ⟨k, hk, hcase⟩ : ∃ k : Nat, k < n - c ∧ ((c < lo ∧ Od c % ((n - c : Nat) : Int) = (k : Int)) ∨ (¬ c < lo ∧ k = 0)) := by
          by_cases h1 : c < lo
          · have h2 := Int.emod_nonneg (Od c) (show ((n - c : Nat) : Int) ≠ 0 by omega)
            have h3 := Int.emod_lt_of_pos (Od c) hl0
            exact ⟨(Od c % ((n - c : Nat) : Int)).toNat, by omega, Or.inl ⟨h1, by omega⟩⟩
          · exact ⟨0, by omega, Or.inr ⟨h1, rfl⟩⟩
        have hki : (k : Int) < ((n - c : Nat) : Int) := by omega
        obtain ⟨c1', c2'⟩ := hcell k hk
        obtain ⟨av, lv, cv, ev⟩ := HVs.out (Lf k) (HP.out.pick.l k hk)
        have c1 : wr.cell? ⟨gl, k * 2, none⟩ = some (.int .i64 (N (Lf k))) := c1'
        have c2 : wr.cell? ⟨gl, k * 2 + 1, none⟩ = some (.slice av lv cv) := by rw [← ev]; exact c2'
        have HEv := hid ev
        have hwn : n - c + 1 ≤ 1000 := by omega
        have HDel : Hid (∀ w2, w2.ownsRow w.heap.size 27 2 (.slice (some ⟨gl, 0, none⟩) (n - c) capl) (n - c) (flatS (n - c) (fun j => N (Lf j)) (fun j => V (Lf j))) → Calls Try.prog 48 #[.slice (some ⟨gl, 0, none⟩) (n - c) capl, .int .i64 k, .int .i64 ((k : Int) + 1)] w2 fun e w' => e = .returned (.slice (some ⟨gl, 0, none⟩) (n - c - 1) capl) ∧
            w'.ownsRow w.heap.size 27 2 (.slice (some ⟨gl, 0, none⟩) (n - c - 1) capl) (n - c - 1) (flatS (n - c - 1) (without k fun j => N (Lf j)) (without k fun j => V (Lf j))) ∧ w2.grownBy w' (some gl)) := fun w2 ho =>
          deleteS w.heap.size gl (n - c) capl k _ _ w2 ho hk (by omega) (fun j hj => HV.out (Lf j) (HP.out.pick.l j hj))
        clear hcell hh ev c1' c2'
        rcases hcase with ⟨hclo, hkx⟩ | ⟨hclo, rfl⟩
        · have hci : (c : Int) < (lo : Int) := by omega
          have hod : ∃ bo oo, a = some ⟨bo, oo, none⟩ ∧ wr.cell? ⟨bo, oo + c, none⟩ = some (.int .i64 (Od c)) := by
            obtain ⟨ad, cp, e, _, h2⟩ := HD.out
            injection e with e4
            subst e4
            rcases h2 with h0 | ⟨bo, oo, rfl, hb, hx⟩
            · omega
            · exact ⟨bo, oo, rfl, by rw [HP.out.l.2.cell hb]; exact hx c hclo⟩
          obtain ⟨bo, oo, rfl, god⟩ := hod
          go_wp2_with (first
            | (go_at_call 27; go_must (refine (at_any _ _ (by omega) _).mono ?_; rintro e wq ⟨rfl, hwq⟩; subst wq; rw [hkx]))
            | (at_builtin; go_must (refine wpList_append_own_at _ rfl (.tmp 35) (.tmp 40) 25 rfl w.heap.size 27 ii (.agg #[.int .i64 0, .slice none 0 0]) 2 32 Try.underlying25 hi hz0 hz1 hz2 rfl (by decide) _ _ _ rfl (World.ownsRow.alloc HP.out.o.1 _) ⟨_, 0, none⟩ 1 1 [.int .i64 (N (Lf k)), .slice av lv cv] rfl rfl (cells_two _ _ _ _) (by intro u hu; simp at hu; rcases hu with rfl | rfl <;> rfl) (by unfold maxLen; omega) (by omega) (by have := HP.out.o.2.size; simp; omega) ?_; intro v1 w2 ho hg _ hat; have HO2 := hid ho; have HG2 := hid hg; have HA2 := hid hat; clear ho hg hat))
            | (go_at_call 48; go_must (refine (HDel.out _ ((World.ownsRow.alloc HP.out.l.1 _).kept HG2.out (Or.inr HP.out.ne.2))).mono ?_; rintro e w3 ⟨rfl, hd3, hg3⟩; have HD3 := hid hd3; have HG3 := hid hg3; clear hd3 hg3)))
          go_roundw
          case rel =>
            refine ⟨c + 1, _, _, hpm, by go_num, HP.out.next hk ?_ HG2.out HA2.out HD3.out HG3.out⟩
            rw [HEv.out]
            exact HO2.out
          case measure => simp only [intOf]; omega
        · have hci : (lo : Int) ≤ (c : Int) := by omega
          go_wp2_with (first
            | (at_builtin; go_must (refine wpList_append_own_at _ rfl (.tmp 35) (.tmp 40) 25 rfl w.heap.size 27 ii (.agg #[.int .i64 0, .slice none 0 0]) 2 32 Try.underlying25 hi hz0 hz1 hz2 rfl (by decide) _ _ _ rfl (World.ownsRow.alloc HP.out.o.1 _) ⟨_, 0, none⟩ 1 1 [.int .i64 (N (Lf 0)), .slice av lv cv] rfl rfl (cells_two _ _ _ _) (by intro u hu; simp at hu; rcases hu with rfl | rfl <;> rfl) (by unfold maxLen; omega) (by omega) (by have := HP.out.o.2.size; simp; omega) ?_; intro v1 w2 ho hg _ hat; have HO2 := hid ho; have HG2 := hid hg; have HA2 := hid hat; clear ho hg hat))
            | (go_at_call 48; go_must (refine (HDel.out _ ((World.ownsRow.alloc HP.out.l.1 _).kept HG2.out (Or.inr HP.out.ne.2))).mono ?_; rintro e w3 ⟨rfl, hd3, hg3⟩; have HD3 := hid hd3; have HG3 := hid hg3; clear hd3 hg3)))
          go_roundw
          case rel =>
            refine ⟨c + 1, _, _, hpm, by go_num, HP.out.next hk ?_ HG2.out HA2.out HD3.out HG3.out⟩
            rw [HEv.out]
            exact HO2.out
          case measure => simp only [intOf]; omega
      · have e : c = pickM many n := by unfold pickM at *; rw [if_neg (by omega)] at *; omega
        have hz : n - c = 0 := by omega
        have hz2 : ((n - c : Nat) : Int) = 0 := by omega
        have HE := hid e
        clear e hz
        go_wp2
        go_ret
        refine ⟨_, O, Lf, rfl, ?_, ?_⟩
        · rw [← HE.out]; exact HP.out.o
        · rw [← HE.out]; exact HP.out.pick
    · have e : c = pickM many n := by
        unfold pickM at *
        by_cases h0 : many ≤ 0
        · rw [if_pos h0] at *; omega
        · rw [if_neg h0] at *; omega
      have hcm2 : many ≤ (c : Int) := by omega
      have HE := hid e
      clear e
      go_wp2
      go_ret
      refine ⟨_, O, Lf, rfl, ?_, ?_⟩
      · rw [← HE.out]; exact HP.out.o
      · rw [← HE.out]; exact HP.out.pick

end Go.Proofs.Ytfcpmpcfbhkacaa
