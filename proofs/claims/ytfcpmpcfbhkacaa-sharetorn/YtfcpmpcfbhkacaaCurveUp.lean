/- What the laws of chapter 2 take of a package that does what it owes: calls made in later worlds; sums, lines, and points in another order. -/
import Derived.Test.YtfcpmpcfbhkacaaCurveLaw
import Derived.Test.YtfcpmpcfbhkacaaOwn
namespace Go.Proofs.Ytfcpmpcfbhkacaa
open Go.RowKit CurveMath
set_option linter.unusedVariables false

theorem check_up (hC : CheckSpec) {w0 : World} {v1 v2 : Value} {n1 n2 : Nat} {X Y : Nat → Int} (h1 : IntSl w0 w0.heap.size v1 n1 X) (h2 : IntSl w0 w0.heap.size v2 n2 Y) (w' : World) (hb : Below w0.heap.size w0 w') :
    Calls Try.prog 76 #[v1, v2] w' fun e w'' => e = .returned (.int .i64 (chk n1 n2 X Y)) ∧ Below w0.heap.size w0 w'' :=
  (hC _ _ n1 n2 X Y w' (h1.up hb) (h2.up hb)).mono fun e w'' ⟨he, hb2⟩ => ⟨he, hb.trans (hb2.mono hb.size)⟩

/-- At, of points that are in order, at a number -/
theorem at_up (hA : AtSpec) {w0 : World} {v1 v2 : Value} {n1 n2 : Nat} {X Y : Nat → Int} (h1 : IntSl w0 w0.heap.size v1 n1 X) (h2 : IntSl w0 w0.heap.size v2 n2 Y) (hg : chk n1 n2 X Y = 0) (t : Int) (ht : 0 ≤ t ∧ t ≤ 30) (w' : World) (hb : Below w0.heap.size w0 w') :
    Calls Try.prog 59 #[v1, v2, .int .i64 t] w' fun e w'' => e = .returned (.tuple #[.int .i64 (crv n1 X Y t), .int .i64 0]) ∧ Below w0.heap.size w0 w'' := by
  obtain ⟨e1, e2⟩ := atE_ok (t := t) hg ((isNum_iff t).2 ht)
  have h := hA _ _ n1 n2 X Y t w' (h1.up hb) (h2.up hb)
  rw [e1, e2] at h
  exact h.mono fun e w'' ⟨he, hb2⟩ => ⟨he, hb.trans (hb2.mono hb.size)⟩

theorem crv_flat {n m : Nat} {X : Nat → Int} {a : Int} (h : Good n m X (fun _ => a)) (t : Int) (ha : 0 ≤ a ∧ a ≤ 30) : crv n X (fun _ => a) t = a :=
  crv_uniq h (fun _ => toF a) ((Deg.const (toF a)).mono h.len.1) (fun j hj => rfl) t a ha rfl

theorem crv_line {n : Nat} {X : Nat → Int} {a b : Int} (hx : ∀ j, j < n → 0 ≤ X j ∧ X j ≤ 30) (h : Good n n X (fun j => (a + b * (X j % 31)) % 31)) (hn : 2 ≤ n) (t : Int) : crv n X (fun j => (a + b * (X j % 31)) % 31) t = (a + b * t) % 31 := by
  refine crv_uniq h (fun u => toF a + toF b * u) ?_ ?_ t _ (by omega) ?_
  · have h1 : Deg 2 (fun u => (u - 0) * (fun _ => toF b) u) := (Deg.const (toF b)).mulLin 0
    have h2 : Deg 2 (fun _ => toF a) := (Deg.const (toF a)).mono (by omega)
    exact ((h2.add h1).congr fun u => by grind).mono hn
  · intro j hj
    show toF a + toF b * toF (X j) = toF ((a + b * (X j % 31)) % 31)
    rw [toF_mod, toF_add, toF_mul, toF_mod]
  · show toF ((a + b * t) % 31) = toF a + toF b * toF t
    rw [toF_mod, toF_add, toF_mul]

theorem clone_isl {w : World} {v : Value} {n : Nat} {X : Nat → Int} (h : IntSl w w.heap.size v n X) (hn : 1 ≤ n) :
    Calls Try.prog 29 #[v] w fun e w' => ∃ g cap, e = .returned (.slice (some ⟨g, 0, none⟩) n cap) ∧ n ≤ cap ∧ Row w w' g n X := by
  obtain ⟨ad, cap, rfl, ⟨hc, hr⟩, hx⟩ := h
  rcases hx with h0 | ⟨b, off, rfl, _, hx⟩
  · omega
  · exact clone_any b off n cap X hn hr w hx

theorem crv_sum {n : Nat} {X Y Z S : Nat → Int} (hy : Good n n X Y) (hz : Good n n X Z) (hs : ∀ j, j < n → S j = (Y j + Z j) % 31) (t : Int) : Good n n X S ∧ crv n X S t = (crv n X Y t + crv n X Z t) % 31 := by
  have hg : Good n n X S := ⟨rfl, hy.len, hy.xs, fun j hj => by rw [hs j hj]; omega, hy.inj⟩
  refine ⟨hg, ?_⟩
  refine crv_uniq hg (fun u => newt (fun i => toF (X i)) (fun i => dd (fun i => toF (X i)) (fun i => toF (Y i)) i i) n u + newt (fun i => toF (X i)) (fun i => dd (fun i => toF (X i)) (fun i => toF (Z i)) i i) n u) ((newt_deg _ _ n hy.injF).add (newt_deg _ _ n hy.injF)) ?_ t _ (by omega) ?_
  · intro j hj
    rw [hs j hj, toF_mod, toF_add]
    have e1 := newt_at (fun i => toF (X i)) (fun i => toF (Y i)) n hy.injF j hj
    have e2 := newt_at (fun i => toF (X i)) (fun i => toF (Z i)) n hy.injF j hj
    rw [e1, e2]
  · rw [toF_mod, toF_add, toF_crv, toF_crv]
    rfl

theorem crv_turn {n : Nat} {X Y : Nat → Int} (h : Good n n X Y) (t : Int) : Good n n (fun j => X (n - 1 - j)) (fun j => Y (n - 1 - j)) ∧ crv n (fun j => X (n - 1 - j)) (fun j => Y (n - 1 - j)) t = crv n X Y t := by
  have hl := h.len
  have hg : Good n n (fun j => X (n - 1 - j)) (fun j => Y (n - 1 - j)) := ⟨rfl, h.len, fun j hj => h.xs _ (by omega), fun j hj => h.ys _ (by omega), fun i j hi hj e => by have := h.inj _ _ (by omega) (by omega) e; omega⟩
  refine ⟨hg, crv_uniq hg (fun u => newt (fun i => toF (X i)) (fun i => dd (fun i => toF (X i)) (fun i => toF (Y i)) i i) n u) (newt_deg _ _ n h.injF) ?_ t _ (crv_num n X Y t) (toF_crv n X Y t)⟩
  intro j hj
  exact newt_at (fun i => toF (X i)) (fun i => toF (Y i)) n h.injF (n - 1 - j) (by omega)

end Go.Proofs.Ytfcpmpcfbhkacaa
