/- Several texts of one proof, in their order. -/
import Derived.Test.YtfcpmpcfbhkacaaRows
import Derived.WalkKit
import Derived.ProofKit
import Derived.OpenShut
import Derived.SizedLaws
import Derived.Below
import Derived.WalkSpells
import Derived.Handy
import Derived.BigQuiet
import Derived.Deep.QuietTactic

/- How the laws' arguments are read: a slice of ints that comes in, within the form's own reach. -/
namespace Go.Proofs.Ytfcpmpcfbhkacaa

open Go.ChangeShapes Go.WideShapes Go.ChangeAt Go.RowKit
set_option linter.unusedVariables false

theorem Try.own : ownKnob Try.prog.godebug = none := by kernel_rfl
theorem Try.laidOut : laidOutB Try.prog = true := by kernel_rfl
theorem Try.cellsInt : Try.prog.cellsOf 3 = 1 := by kernel_rfl
theorem Try.bytesInt : Try.prog.bytesOf 3 = 8 := by kernel_rfl

/-- a slice of ints that came in: its elements by place -/
structure SlArg (W : World) (a : Option Addr) (len cap : Nat) (X : Nat → Int) : Prop where
  le : len ≤ cap
  reach : cap * 8 ≤ 140737488351232
  cells : len = 0 ∨ ∃ b off, a = some ⟨b, off, none⟩ ∧ b < W.heap.size ∧ ∀ j, j < len → W.cell? ⟨b, off + j, none⟩ = some (.int .i64 (X j))
  wf : ∀ j, j < len → -9223372036854775808 ≤ X j ∧ X j ≤ 9223372036854775807

theorem cell_lt {w : World} {a : Addr} {v : Value} (h : w.cell? a = some v) : a.block < w.heap.size := by
  rcases Nat.lt_or_ge a.block w.heap.size with h1 | h1
  · exact h1
  · rw [World.cell?] at h
    simp [Array.getElem?_eq_none h1] at h

theorem slArg_open {H : Type} {enc : TypeId × Value → H} {W : World} {T : TypeId} {a : Option Addr} {len cap : Nat} {d : DataW H} {p : List MemPlace}
    (ht : Try.prog.underlying T = some (.slice 3))
    (h : DataW.Trod enc Try.prog W 0 (fun _ => true) true T (.slice a len cap) d p)
    (hs : ∀ elems spare, d = .slice elems spare → (elems.length + spare.length) * Try.prog.bytesOf 3 ≤ reachBytes) : ∃ X, SlArg W a len cap X := by
  obtain ⟨fuel, hf⟩ := h
  rcases open_ints ht Try.underlying3 Try.cellsInt hf with ⟨hcs, _⟩ | ⟨x, l, c, zs, hcs, _, hl, hm, hz, hx, hcell, hwz⟩
  · simp [Value.cells] at hcs
    obtain ⟨rfl, rfl, rfl⟩ := hcs
    exact ⟨fun _ => 0, Nat.le_refl _, by omega, Or.inl rfl, fun j hj => by omega⟩
  · simp [Value.cells] at hcs
    obtain ⟨rfl, rfl, rfl⟩ := hcs
    simp only [if_true] at hz
    have hd : d = .slice (lits .i64 (zs.take len)) (lits .i64 (zs.drop len)) := congrArg Prod.fst hx
    have hr := hs _ _ hd
    rw [Try.bytesInt] at hr
    simp only [lits, List.length_map, List.length_take, List.length_drop, reachBytes] at hr
    refine ⟨fun j => zs.getD j 0, hl, by omega, ?_, ?_⟩
    · by_cases h0 : len = 0
      · exact Or.inl h0
      · obtain ⟨b, off, rfl, hc⟩ := ints_at hcell (by omega)
        exact Or.inr ⟨b, off, rfl, cell_lt (hc 0 (by omega)), fun j hj => hc j (by omega)⟩
    · intro j hj
      have h1 : zs.getD j 0 ∈ zs := by
        have hj' : j < zs.length := by omega
        rw [List.getD_eq_getElem?_getD, List.getElem?_eq_getElem hj']
        exact List.getElem_mem hj'
      have h2 := hwz _ h1
      have h3 : IntKind.i64.min = -9223372036854775808 := rfl
      have h4 : IntKind.i64.max = 9223372036854775807 := rfl
      simp only [Lit.wf, Bool.and_eq_true, decide_eq_true_eq] at h2
      omega

end Go.Proofs.Ytfcpmpcfbhkacaa

/- Slices of ints that are read: what they hold, by place; slices.Index and slices.Contains over them. -/
namespace Go.Proofs.Ytfcpmpcfbhkacaa

open Go.RowKit
set_option linter.unusedVariables false

/-- kept from the walk -/
theorem hid {p : Prop} (h : p) : Hid p := h

/-- the slice value v, of n ints X 0, X 1 .., lies below block B of the world w -/
def IntSl (w : World) (B : Nat) (v : Value) (n : Nat) (X : Nat → Int) : Prop :=
  ∃ (ad : Option Addr) (cap : Nat), v = .slice ad n cap ∧ (n ≤ cap ∧ n * 8 ≤ 140737488351232) ∧ (n = 0 ∨ ∃ b off, ad = some ⟨b, off, none⟩ ∧ b < B ∧ ∀ j, j < n → w.cell? ⟨b, off + j, none⟩ = some (.int .i64 (X j)))

theorem IntSl.below {w w' : World} {B : Nat} {v : Value} {n : Nat} {X : Nat → Int} (h : IntSl w B v n X) (hb : Below B w w') : IntSl w' B v n X := by
  obtain ⟨ad, cap, h1, h0, h2⟩ := h
  refine ⟨ad, cap, h1, h0, ?_⟩
  rcases h2 with h2 | ⟨b, off, h3, h4, h5⟩
  · exact Or.inl h2
  · exact Or.inr ⟨b, off, h3, h4, fun j hj => by rw [hb.cell h4]; exact h5 j hj⟩

theorem IntSl.mono {w : World} {B B' : Nat} {v : Value} {n : Nat} {X : Nat → Int} (h : IntSl w B v n X) (hb : B ≤ B') : IntSl w B' v n X := by
  obtain ⟨ad, cap, h1, h0, h2⟩ := h
  refine ⟨ad, cap, h1, h0, ?_⟩
  rcases h2 with h2 | ⟨b, off, h3, h4, h5⟩
  · exact Or.inl h2
  · exact Or.inr ⟨b, off, h3, by omega, h5⟩

/-- a row of ints that the call has laid, written out -/
theorem intSl_lit {w : World} {B b : Nat} {l : List Int} {cs : Array Value} {t : TypeId} (hh : w.heap[b]? = some (.cells cs t (0, 0))) (hcs : cs = (l.map (Value.int .i64)).toArray) (hB : b < B) (hl : l.length ≤ 1000) :
    IntSl w B (.slice (some ⟨b, 0, none⟩) l.length l.length) l.length (fun j => l.getD j 0) := by
  subst hcs
  refine ⟨_, _, rfl, ⟨Nat.le_refl _, by omega⟩, Or.inr ⟨b, 0, rfl, hB, fun j hj => ?_⟩⟩
  simp [World.cell?, hh, hj]

/-- the first place from k on, of m more, that holds v; -1: none -/
def fstAt (X : Nat → Int) (v : Int) : Nat → Nat → Int
  | 0, _ => -1
  | m + 1, k => if v = X k then (k : Int) else fstAt X v m (k + 1)

theorem fstAt_neg (X : Nat → Int) (v : Int) (m : Nat) : ∀ k, (0 ≤ fstAt X v m k ↔ ∃ j, k ≤ j ∧ j < k + m ∧ X j = v) := by
  induction m with
  | zero => intro k; simp only [fstAt]; constructor
            · intro h; omega
            · rintro ⟨j, h1, h2, _⟩; omega
  | succ m ih =>
    intro k
    simp only [fstAt]
    by_cases h : v = X k
    · rw [if_pos h]
      constructor
      · intro _; exact ⟨k, by omega, by omega, h.symm⟩
      · intro _; omega
    · rw [if_neg h, ih (k + 1)]
      constructor
      · rintro ⟨j, h1, h2, h3⟩; exact ⟨j, by omega, by omega, h3⟩
      · rintro ⟨j, h1, h2, h3⟩
        by_cases hj : j = k
        · subst hj; exact absurd h3.symm h
        · exact ⟨j, by omega, by omega, h3⟩

theorem index_any (b off n c : Nat) (X : Nat → Int) (v : Int) (w : World) (hbig : n * 8 ≤ 140737488351232)
    (hc : ∀ j, j < n → w.cell? ⟨b, off + j, none⟩ = some (.int .i64 (X j))) :
    Calls Try.prog 56 #[.slice (some ⟨b, off, none⟩) n c, .int .i64 v] w fun e w' => e = .returned (.int .i64 (fstAt X v n 0)) ∧ w' = w := by
  have HC : Hid (∀ j, j < n → w.cell? ⟨b, off + j, none⟩ = some (.int .i64 (X j))) := hc
  clear hc
  go_enter Try.func56, Try.ntmps56
  go_wp2
  go_loop [8] (fun i => ∃ k : Nat, k ≤ n ∧ i = .int .i64 k ∧ fstAt X v (n - k) k = fstAt X v n 0) (fun i => n - (intOf i).toNat)
  case atStart => exact ⟨0, Nat.zero_le _, rfl, rfl⟩
  case round =>
    obtain ⟨k, hk, rfl, hf⟩ := hrel
    have HF : Hid (fstAt X v (n - k) k = fstAt X v n 0) := hf
    clear hf
    by_cases hlt : k < n
    · have hcell := HC.out k hlt
      have hi : (k : Int) < (n : Int) := by omega
      obtain ⟨u, hu⟩ : ∃ u, X k = u := ⟨_, rfl⟩
      rw [hu] at hcell
      have HU : Hid (X k = u) := hu
      clear hu
      by_cases he : v = u
      · have heq : (v == u) = true := by simp [he]
        have HE : Hid (v = u) := he
        clear he
        go_wp2
        go_ret
        refine ⟨?_, rfl⟩
        have h1 := HF.out
        rw [show n - k = (n - k - 1) + 1 by omega] at h1
        simp only [fstAt] at h1
        rw [if_pos (by rw [HU.out]; exact HE.out)] at h1
        rw [← h1]
        rfl
      · have heq : (v == u) = false := by simp [he]
        have HE : Hid (¬ v = u) := he
        clear he
        go_wp2
        have h1 := HF.out
        rw [show n - k = (n - (k + 1)) + 1 by omega] at h1
        simp only [fstAt] at h1
        rw [if_neg (by rw [HU.out]; exact HE.out)] at h1
        go_round
        case rel => exact ⟨k + 1, by omega, by go_num, h1⟩
        case measure => simp only [intOf]; omega
    · have he : k = n := by omega
      subst he
      go_wp2
      go_ret
      refine ⟨?_, rfl⟩
      have h1 := HF.out
      rw [Nat.sub_self] at h1
      rw [← h1]
      rfl

/-- does one of the first n hold v? -/
def hasB (X : Nat → Int) (n : Nat) (v : Int) : Bool := decide (0 ≤ fstAt X v n 0)

theorem hasB_iff (X : Nat → Int) (n : Nat) (v : Int) : hasB X n v = true ↔ ∃ j, j < n ∧ X j = v := by
  unfold hasB
  rw [decide_eq_true_iff, fstAt_neg]
  constructor
  · rintro ⟨j, _, h2, h3⟩; exact ⟨j, by omega, h3⟩
  · rintro ⟨j, h2, h3⟩; exact ⟨j, by omega, by omega, h3⟩

theorem contains_any (b off n c : Nat) (X : Nat → Int) (v : Int) (w : World) (hbig : n * 8 ≤ 140737488351232)
    (hc : ∀ j, j < n → w.cell? ⟨b, off + j, none⟩ = some (.int .i64 (X j))) :
    Calls Try.prog 34 #[.slice (some ⟨b, off, none⟩) n c, .int .i64 v] w fun e w' => e = .returned (.bool (hasB X n v)) ∧ w' = w := by
  have HC : Hid (∀ j, j < n → w.cell? ⟨b, off + j, none⟩ = some (.int .i64 (X j))) := hc
  clear hc
  unfold hasB
  go_enter Try.func34, Try.ntmps34
  go_wp2_with (go_at_call 56; go_must (refine (index_any _ _ _ _ X _ _ hbig HC.out).mono ?_; rintro e w' ⟨rfl, rfl⟩))
  go_ret
  exact ⟨rfl, rfl⟩

/-- nothing is found in nothing -/
theorem contains_none (ad : Option Addr) (c : Nat) (v : Int) (w : World) :
    Calls Try.prog 34 #[.slice ad 0 c, .int .i64 v] w fun e w' => e = .returned (.bool false) ∧ w' = w := by
  go_enter Try.func34, Try.ntmps34
  go_wp2_with go_in
  refine wp_loop_rounds 1 ?_
  rw [rounds_succ]
  go_wp2
  go_ret
  exact ⟨rfl, rfl⟩

end Go.Proofs.Ytfcpmpcfbhkacaa

/- A place brought within bounds, as the laws do it. -/
namespace Go.Proofs.Ytfcpmpcfbhkacaa

open Go.RowKit
set_option linter.unusedVariables false

/-- Go's remainder, and what 'at' makes of it -/
theorem tmod_bd (k n : Int) (hn : 1 ≤ n) : -n < k.tmod n ∧ k.tmod n < n ∧ (if k.tmod n < 0 then k.tmod n + n else k.tmod n) = k % n := by
  by_cases hk : 0 ≤ k
  · have e : k.tmod n = k % n := Int.tmod_eq_emod_of_nonneg hk
    have h1 := Int.emod_nonneg k (show n ≠ 0 by omega)
    have h2 := Int.emod_lt_of_pos k (show 0 < n by omega)
    rw [e, if_neg (by omega)]
    omega
  · obtain ⟨m, rfl⟩ : ∃ m : Int, k = -m := ⟨-k, by omega⟩
    have e : (-m).tmod n = -(m % n) := by rw [Int.neg_tmod, Int.tmod_eq_emod_of_nonneg (by omega)]
    have h1 := Int.emod_nonneg m (show n ≠ 0 by omega)
    have h2 := Int.emod_lt_of_pos m (show 0 < n by omega)
    rw [e]
    refine ⟨by omega, by omega, ?_⟩
    have e2 : (-m) % n = (-(m % n)) % n := by
      have := Int.mul_ediv_add_emod m n
      have e3 : -m = -(m % n) + n * (-(m / n)) := by rw [Int.mul_neg]; omega
      rw [e3, Int.add_mul_emod_self_left]
    rw [e2]
    by_cases h0 : m % n = 0
    · rw [h0]; simp
    · rw [if_pos (by omega)]
      have e4 : (-(m % n)) % n = (-(m % n) + n) % n := by simp
      have e5 : (-(m % n) + n) % n = -(m % n) + n := Int.emod_eq_of_lt (by omega) (by omega)
      rw [e4, e5]

theorem at_any (k n : Int) (hn : 1 ≤ n ∧ n ≤ 100) (w : World) :
    Calls Try.prog 27 #[.int .i64 k, .int .i64 n] w fun e w' => e = .returned (.int .i64 (k % n)) ∧ w' = w := by
  obtain ⟨h1, h2, h3⟩ := tmod_bd k n hn.1
  rw [← h3]
  clear h3
  by_cases h0 : k.tmod n < 0
  · rw [if_pos h0]
    go_enter Try.func27, Try.ntmps27
    go_wp2
    go_ret
    exact ⟨rfl, rfl⟩
  · rw [if_neg h0]
    go_enter Try.func27, Try.ntmps27
    go_wp2
    go_ret
    exact ⟨rfl, rfl⟩

end Go.Proofs.Ytfcpmpcfbhkacaa

/- Is it a number: what package field answers, and what the reference answers. -/
namespace Go.Proofs.Ytfcpmpcfbhkacaa

open Go.RowKit
set_option linter.unusedVariables false

theorem check_ok (a : Int) (ha : 0 ≤ a ∧ a ≤ 30) (w : World) :
    Calls Try.prog 57 #[.int .i64 a] w fun e w' => e = .returned (.int .i64 0) ∧ w' = w := by
  go_enter Try.func57, Try.ntmps57
  go_wp2
  go_ret
  exact ⟨rfl, rfl⟩

theorem check_bad (a : Int) (ha : ¬ (0 ≤ a ∧ a ≤ 30)) (w : World) :
    Calls Try.prog 57 #[.int .i64 a] w fun e w' => e = .returned (.int .i64 2) ∧ w' = w := by
  by_cases h0 : a < 0
  · go_enter Try.func57, Try.ntmps57
    go_wp2
    go_ret
    exact ⟨rfl, rfl⟩
  · have h1 : 31 ≤ a := by omega
    clear ha
    go_enter Try.func57, Try.ntmps57
    go_wp2
    go_ret
    exact ⟨rfl, rfl⟩

theorem isNumber_ok (a : Int) (ha : 0 ≤ a ∧ a ≤ 30) (w : World) :
    Calls Try.prog 43 #[.int .i64 a] w fun e w' => e = .returned (.bool true) ∧ w' = w := by
  go_enter Try.func43, Try.ntmps43
  go_wp2
  go_ret
  exact ⟨rfl, rfl⟩

theorem isNumber_bad (a : Int) (ha : ¬ (0 ≤ a ∧ a ≤ 30)) (w : World) :
    Calls Try.prog 43 #[.int .i64 a] w fun e w' => e = .returned (.bool false) ∧ w' = w := by
  by_cases h0 : a < 0
  · clear ha
    go_enter Try.func43, Try.ntmps43
    go_wp2
    go_ret
    exact ⟨rfl, rfl⟩
  · have h1 : 31 ≤ a := by omega
    clear ha
    have hd : decide (a ≤ 30) = false := decide_eq_false (by omega)
    go_enter Try.func43, Try.ntmps43
    go_wp2
    go_ret
    exact ⟨rfl, rfl⟩

/-- is it a number? -/
def isNum (a : Int) : Bool := decide (0 ≤ a ∧ a ≤ 30)

theorem isNumber_any (a : Int) (w : World) :
    Calls Try.prog 43 #[.int .i64 a] w fun e w' => e = .returned (.bool (isNum a)) ∧ w' = w := by
  by_cases h : 0 ≤ a ∧ a ≤ 30
  · have e : isNum a = true := decide_eq_true h
    rw [e]
    exact isNumber_ok a h w
  · have e : isNum a = false := decide_eq_false h
    rw [e]
    exact isNumber_bad a h w

theorem isNum_iff (a : Int) : isNum a = true ↔ 0 ≤ a ∧ a ≤ 30 := by unfold isNum; simp

end Go.Proofs.Ytfcpmpcfbhkacaa
