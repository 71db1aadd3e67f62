/- Several texts of one proof, in their order. -/
import Derived.Test.YtikchpffkhohlaaGreatASum13
import Derived.Test.YtikchpffkhohlaaGreatASum14
import Derived.Test.YtikchpffkhohlaaGreatASum6
import Derived.Test.YtikchpffkhohlaaGreatASum12
import Derived.Test.YtikchpffkhohlaaGreatASum8
import Derived.Shelf.SlLaysF
import Derived.Shelf.SlSortCmp.NoneTotal
import Derived.Test.YtikchpffkhohlaaGreatProg
import Derived.Test.YtikchpffkhohlaaGreatASum0
import Derived.Maps.Own
import Derived.Maps.OwnOps
import Derived.Maps.OwnSet

namespace Go.Proofs.YtikchpffkhohlaaGreat

open Go.RowKit CurveMath
set_option linter.unusedVariables false

def lackV (n : Nat) (b : Bk) (np : Nat) (P : Ps) (k : Int) : Int := if verM n b np P k = 0 then laN b np P k else 0
def blameV (n : Nat) (b : Bk) (np : Nat) (P : Ps) (k : Int) : List Int := if rsE n b np P k = 0 then blL b np P k else []

structure AuditOwes : Prop where
  blamed : ∀ (vb : Value) (n : Nat) (PV : Nat → Value) (b : Bk) (vl : Value) (np : Nat) (KV : Nat → Value) (UV : Nat → Nat → Value) (P : Ps) (k : Int) (w : World), VeSl w w.heap.size vb n PV b → PsSl w w.heap.size vl np KV UV P →
    Calls Tryz.prog 30 #[meshV vb vl, .int .i64 k] w (LiPost w (blameV n b np P k) (rsE n b np P k))
  lacking : ∀ (vb : Value) (n : Nat) (PV : Nat → Value) (b : Bk) (vl : Value) (np : Nat) (KV : Nat → Value) (UV : Nat → Nat → Value) (P : Ps) (k : Int) (w : World), VeSl w w.heap.size vb n PV b → PsSl w w.heap.size vl np KV UV P →
    Calls Tryz.prog 31 #[meshV vb vl, .int .i64 k] w fun e w' => e = .returned (.tuple #[.int .i64 (lackV n b np P k), .int .i64 (verM n b np P k)]) ∧ Below w.heap.size w w'

def wJ : Ps := ⟨fun k => if k = 3 then false else (wP true 8).th k, (wP true 8).rm, (wP true 8).m, (wP true 8).t⟩

theorem j_e : rsE 1 wB 5 (wP true 8) 0 = 0 := by decide +kernel
theorem j_l : blL wB 5 (wP true 8) 0 = [1] := by decide +kernel
theorem j_v : verM 1 wB 5 wJ 0 = 0 := by decide +kernel
theorem j_n : laN wB 5 wJ 0 = 1 := by decide +kernel
theorem j_w : verM 1 wB 5 wJ 1 = 4 := by decide +kernel
theorem j_ok : peersE 1 wB 5 (wP true 8) = 0 := by decide +kernel

theorem isl_num1 {w : World} {g : Nat} {x : Int} {T : TypeId} (h : w.heap[g]? = some (.cells #[.int .i64 x] T (0, 0))) : IntSl w w.heap.size (.slice (some ⟨g, 0, none⟩) 1 1) 1 (fun i => [x].getD i 0) :=
  ⟨_, _, rfl, ⟨Nat.le_refl _, by omega⟩, Or.inr ⟨g, 0, rfl, (Array.getElem?_eq_some_iff.1 h).1, fun j hj => by
    match j, hj with
    | 0, _ => exact cell_at h rfl⟩⟩

set_option maxHeartbeats 8000000 in
set_option maxRecDepth 10000 in
theorem judged_any (hO : MeshCore) (hA : AuditOwes) (w : World) : Calls Tryz.prog 34 #[] w fun e w' => e = .returned (.bool true) ∧ Below w.heap.size w w' := by
  have HO := hid hO
  have HAu := hid hA
  clear hO hA
  go_enter Tryz.func34, Tryz.ntmps34
  go_wp2_with fail
  refine Calls.mono (begun_any HO.out w) ?_
  rintro e W1 ⟨hb1, ab, cb, PV, al, cl, KV, UV, rfl, hv1, hl1, hN1⟩
  have hbM := below_alloc W1 (.cells #[.slice ab 1 cb, .slice al 5 cl] 27)
  have hx := MsAt.box hv1 hl1
  obtain ⟨bl, off, hal, hbl, _, _, _, _⟩ := hl1.at (i := 0) (by omega)
  obtain ⟨bl', off', hal', _, _, _, _, ke⟩ := hl1.at (i := 1) (by omega)
  subst hal
  injection hal' with hal'
  injection hal' with e1 e2
  subst e1 e2
  obtain ⟨ak, ck, hke, _, hk1⟩ := ke
  rcases hk1 with hk1 | ⟨bk, ok, rfl, hbk, hk1⟩
  · exact absurd hk1 (by show ¬ (1 : Nat) = 0; decide)
  obtain ⟨au, cu, hue, _, hu1⟩ := (hk1 0 (by show (0 : Nat) < 1; decide)).2.2.2
  rcases hu1 with hu1 | ⟨bu, ou, rfl, hbu, hu1⟩
  · exact absurd hu1 (by show ¬ (2 : Nat) = 0; decide)
  obtain ⟨V1, hV1⟩ : ∃ v, World.alloc W1 (.cells #[.slice ab 1 cb, .slice (some ⟨bl, off, none⟩) 5 cl] 27) = v := ⟨_, rfl⟩
  rw [hV1] at hbM hx
  obtain ⟨g1, hg1⟩ : ∃ g, W1.heap.size = g := ⟨_, rfl⟩
  have A1 : Hid (WvAt w.heap.size V1 g1 ab cb PV bl off cl KV UV bk ok ck bu ou cu true 7) := ⟨by rw [← hg1]; exact hx, hN1.up hbM, hke, hue, by omega, by omega⟩
  have B1 := hid (hb1.trans (hbM.mono hb1.size))
  have hlo : w.heap.size ≤ bl := (hN1.1 _ _ _ rfl).1
  have hlo2 : w.heap.size ≤ bu := by
    have h9 := ((hN1.2 1 (by omega)).2 0 (by show (0 : Nat) < 1; decide)).resolve_left (by show ¬ (2 : Nat) = 0; decide)
    rw [hue] at h9
    exact (h9 _ _ _ rfl).1
  have HLo := hid hlo
  have HLo2 := hid hlo2
  obtain ⟨⟨c0, c1⟩, _, u2, v2, ⟨x0, fx⟩⟩ := A1.out.cells
  have A2 := hid (A1.out.bends (Or.inl rfl) 8)
  have B2 := hid (B1.out.setCell (p := ⟨bu, ou, none⟩) (by show w.heap.size ≤ bu; exact HLo2.out) (.int .i64 8))
  obtain ⟨V2, hV2⟩ : ∃ v, V1.setCell ⟨bu, ou, none⟩ (.int .i64 8) = v := ⟨_, rfl⟩
  rw [hV2] at A2 B2
  obtain ⟨⟨d0, d1⟩, _⟩ := A2.out.cells
  have CK := hid (HAu.out.blamed _ 1 PV wB _ 5 KV UV (wP true 8) 0 V2 A2.out.box.2.1 A2.out.box.2.2)
  unfold blameV at CK
  rw [j_e, if_pos rfl, j_l] at CK
  unfold meshV at CK
  clear hbM hx hb1 hv1 hl1 hN1 hk1 hu1 hbl hbk hbu hlo hlo2 hke hue
  go_wp2_with fail
  refine Calls.mono CK.out ?_
  rintro e u3 ⟨hb, vo, rfl, hlo3⟩
  have A3 := hid (A2.out.up hb)
  have B3 := hid (B2.out.trans (hb.mono B2.out.size))
  have R3 := hid hlo3
  obtain ⟨ao, co, rfl, _, _⟩ := hlo3
  clear hb CK c0 c1 u2 v2 x0 fx d0 d1 hV1 hV2 A1 A2 B1 B2
  obtain ⟨⟨c0, c1⟩, _⟩ := A3.out.cells
  obtain ⟨bl', off', e, _, q0, _, _, _⟩ := A3.out.box.2.2.at (i := 3) (by omega)
  injection e with e
  injection e with e1 e2
  subst e1 e2
  have q9 : u3.cell? ⟨bl, off + 9, none⟩ = some (.bool true) := q0
  have f9 : u3.frozen? ⟨bl, off + 9, none⟩ = false := (A3.out.new.1 _ _ _ rfl).2.2 (off + 9)
  have hp := ps_there (P' := wJ) A3.out.box.2.2 (q := 3) (by omega) false (fun k hk => ⟨rfl, rfl, rfl, rfl⟩)
  have hz : (u3.setCell ⟨bl, off + 9, none⟩ (.bool false)).heap.size = u3.heap.size := by simp [World.setCell]
  have X4 : Hid (MsAt (u3.setCell ⟨bl, off + 9, none⟩ (.bool false)) g1 ab 1 cb PV wB (some ⟨bl, off, none⟩) 5 cl KV UV wJ) := by
    refine ⟨?_, ?_, hp⟩
    · rw [Below.heap_setCell _ _ _ _ (by show g1 ≠ bl; exact fun e => A3.out.ne1 e.symm)]; exact A3.out.box.1
    · rw [hz]; exact ve_bool A3.out.box.2.1 q9 _
  have B4 := hid (B3.out.setCell (p := ⟨bl, off + 9, none⟩) (by show w.heap.size ≤ bl; exact HLo.out) (.bool false))
  have R4 : Hid (IntSl (u3.setCell ⟨bl, off + 9, none⟩ (.bool false)) (u3.setCell ⟨bl, off + 9, none⟩ (.bool false)).heap.size (.slice ao [(1 : Int)].length co) [(1 : Int)].length (fun j => [(1 : Int)].getD j 0)) := by
    show IntSl _ _ _ _ _
    rw [hz]
    exact isl_bool R3.out q9 _
  obtain ⟨V4, hV4⟩ : ∃ v, u3.setCell ⟨bl, off + 9, none⟩ (.bool false) = v := ⟨_, rfl⟩
  rw [hV4] at X4 B4 R4
  obtain ⟨d0, d1⟩ := X4.out.cells
  have CK := hid (HAu.out.lacking _ 1 PV wB _ 5 KV UV wJ 0 V4 X4.out.2.1 X4.out.2.2)
  unfold lackV at CK
  rw [j_v, if_pos rfl, j_n] at CK
  unfold meshV at CK
  clear q0 hp hz
  go_wp2_with fail
  refine Calls.mono CK.out ?_
  rintro e u5 ⟨rfl, hb⟩
  replace X4 := hid (X4.out.up hb)
  replace B4 := hid (B4.out.trans (hb.mono B4.out.size))
  replace R4 := hid (R4.out.up hb)
  clear hb CK c0 c1 q9 f9 d0 d1 hV4 A3 B3 R3
  obtain ⟨d0, d1⟩ := X4.out.cells
  have CK := hid (HAu.out.lacking _ 1 PV wB _ 5 KV UV wJ 1 u5 X4.out.2.1 X4.out.2.2)
  unfold lackV at CK
  rw [j_w, if_neg (by decide)] at CK
  unfold meshV at CK
  go_wp2_with fail
  refine Calls.mono CK.out ?_
  rintro e u6 ⟨rfl, hb⟩
  replace B4 := hid (B4.out.trans (hb.mono B4.out.size))
  replace R4 := hid (R4.out.up hb)
  clear hb CK d0 d1 X4
  have hbD := below_alloc u6 (.cells #[.int .i64 1] 3)
  have kd := heap_alloc_new u6 (.cells #[.int .i64 1] 3)
  obtain ⟨V8, hV8⟩ : ∃ v, World.alloc u6 (.cells #[.int .i64 1] 3) = v := ⟨_, rfl⟩
  rw [hV8] at hbD kd
  have CK := hid (equal_isl (R4.out.up hbD) (isl_num1 kd))
  rw [show eqB [(1 : Int)].length 1 (fun j => [(1 : Int)].getD j 0) (fun i => [(1 : Int)].getD i 0) = true from decide_eq_true ⟨rfl, fun _ _ => rfl⟩] at CK
  have B9 := hid (B4.out.trans (hbD.mono B4.out.size))
  clear hbD kd
  go_wp2_with fail
  refine Calls.mono CK.out ?_
  rintro e y1 ⟨rfl, j1, hy1⟩
  have hb : Below V8.heap.size V8 y1 := by rw [hy1]; exact drewN_up _ _
  have B10 := hid (B9.out.trans (hb.mono B9.out.size))
  clear hb hy1 CK hV8 B9
  go_wp2
  go_ret
  exact ⟨rfl, B10.out⟩

end Go.Proofs.YtikchpffkhohlaaGreat

namespace Go.Proofs.YtikchpffkhohlaaGreat

open Go.RowKit CurveMath
set_option linter.unusedVariables false

theorem flatS_eqv {n : Nat} {N N' : Nat → Int} {V V' : Nat → Value} (h : ∀ j, j < n → N j = N' j ∧ V j = V' j) : flatS n N V = flatS n N' V' := by
  unfold flatS
  refine List.map_congr_left fun i hi => ?_
  have hi2 := List.mem_range.1 hi
  obtain ⟨h1, h2⟩ := h (i / 2) (by omega)
  unfold cellS
  rw [h1, h2]

theorem flatS_snoc (P : Ps) (UV : Nat → Nat → Value) (l : List (Nat × Nat)) (k i : Nat) : flatS (l ++ [(k, i)]).length (nL P (l ++ [(k, i)])) (vaL UV (l ++ [(k, i)])) = flatS l.length (nL P l) (vaL UV l) ++ [.int .i64 ((P.t k).N i), UV k i] := by
  rw [List.length_append, show [(k, i)].length = 1 from rfl, flatS_succ]
  have e1 : nL P (l ++ [(k, i)]) l.length = (P.t k).N i := by unfold nL; rw [getD_new]
  have e2 : vaL UV (l ++ [(k, i)]) l.length = UV k i := by unfold vaL; rw [getD_new]
  rw [e1, e2]
  congr 1
  exact flatS_eqv fun j hj => by unfold nL vaL; rw [getD_old _ _ _ hj]; exact ⟨rfl, rfl⟩

theorem seenN_snoc (P : Ps) (l : List (Nat × Nat)) (k i : Nat) (N : Int) : seenN P (l ++ [(k, i)]) N = (seenN P l N || decide ((P.t k).N i = N)) := by
  unfold seenN
  rw [List.any_append]
  simp

theorem row_ne {wr : World} {base : Nat} {e : TypeId} {size n : Nat} {v : Value} {xs : List Value} {g : Nat} {cs : Array Value} {T : TypeId} {fz : Nat × Nat} (h : wr.ownsRow base e size v n xs) (hb : wr.heap[g]? = some (.cells cs T fz)) (hT : T ≠ e) : some g ≠ v.ownBlock := by
  obtain ⟨_, h2⟩ := h
  rcases h2 with ⟨rfl, _⟩ | ⟨g', cap, cur, rfl, _, hh, _⟩
  · intro e; cases e
  · intro e
    injection e with e
    subst e
    rw [hb] at hh
    injection hh with hh
    injection hh with _ h3 _
    exact hT h3

theorem cells_pr (w : World) (N : Int) (v : Value) (T : TypeId) : ∀ j u, ([.int .i64 N, v] : List Value)[j]? = some u → (w.alloc (.cells #[.int .i64 N, v] T)).cell? (Addr.add ⟨w.heap.size, 0, none⟩ j) = some u := by
  intro j u hj
  rw [Addr.add_lit]
  match j, hj with
  | 0, hj => simp at hj; subst hj; exact cell_at (heap_alloc_new _ _) rfl
  | 1, hj => simp at hj; subst hj; exact cell_at (heap_alloc_new _ _) rfl

theorem rest_err {w w' : World} {n : Nat} {b : Bk} {np : Nat} {P : Ps} {k c : Int} (hb : Below w.heap.size w w') (hc : verM n b np P k = c) (h0 : c ≠ 0) : RestPost w n b np P k (.returned (.tuple #[.slice none 0 0, .slice none 0 0, .int .i64 c])) w' := by
  have h1 : rsE n b np P k = c := by unfold rsE; rw [hc, if_neg h0]
  have h2 : rsB n b np P k = [] := by unfold rsB; rw [hc, if_neg h0]
  refine ⟨hb, .slice none 0 0, .slice none 0 0, 0, by rw [h1], by rw [h1, if_neg h0]; rfl, ⟨none, 0, rfl, ⟨Nat.le_refl _, by omega⟩, Or.inl rfl⟩, ?_⟩
  rw [h2]
  exact ⟨none, 0, rfl, ⟨Nat.le_refl _, by simp⟩, Or.inl rfl⟩

theorem rest_of {w w1 w' : World} {n : Nat} {b : Bk} {np : Nat} {P : Ps} {k : Int} {e : Ending} (hb : Below w.heap.size w w1) (hv : verM n b np P k = 0) (h : MostPost w1 (b.nd k.toNat) (b.of k.toNat) (b.sz k.toNat) (thereL P k np).length (nT P (thereL P k np)) (lT P (thereL P k np)) (xT P (thereL P k np)) e w') : RestPost w n b np P k e w' := by
  obtain ⟨h1, r, bb, m, h2, h3, h4, h5⟩ := h
  refine ⟨hb.trans (h1.mono hb.size), r, bb, m, ?_, ?_, h4, ?_⟩
  · unfold rsE; rw [if_pos hv]; exact h2
  · unfold rsE; rw [if_pos hv]; exact h3
  · unfold rsB; rw [if_pos hv]; exact h5

theorem seen_hit {P : Ps} {l l' : List (Nat × Nat)} {c : Int → Int} {M k i : Nat} {N : Int} (h : ∀ x, 0 ≤ c x ∧ c x ≤ (M : Int)) (hc : ∀ x, c x = 0 ↔ seenN P l x = false) (hN : (P.t k).N i = N) (hl : l' = if (!seenN P l N) = true then l ++ [(k, i)] else l) :
    (∀ x, 0 ≤ (if x = N then c N + 1 else c x) ∧ (if x = N then c N + 1 else c x) ≤ ((M + 1 : Nat) : Int)) ∧ ∀ x, (if x = N then c N + 1 else c x) = 0 ↔ seenN P l' x = false := by
  have hcN := h N
  refine ⟨fun x => ?_, fun x => ?_⟩
  · have := h x
    by_cases e : x = N
    · rw [if_pos e]; omega
    · rw [if_neg e]; omega
  · by_cases e : x = N
    · subst e
      rw [if_pos rfl]
      constructor
      · intro h9; omega
      · intro h9
        exfalso
        rw [hl] at h9
        cases hs : seenN P l x with
        | true => rw [hs, Bool.not_true, if_neg (by decide), hs] at h9; cases h9
        | false => rw [hs, Bool.not_false, if_pos rfl, seenN_snoc, hN, decide_eq_true rfl, Bool.or_true] at h9; cases h9
    · rw [if_neg e, hc x, hl]
      cases hs : seenN P l N with
      | true => rw [Bool.not_true, if_neg (by decide)]
      | false => rw [Bool.not_false, if_pos rfl, seenN_snoc, hN, decide_eq_false (fun h => e h.symm), Bool.or_false]

theorem nums_hit {T : List Int} {c : Int → Int} {M : Nat} {N : Int} (h : ∀ x, 0 ≤ c x ∧ c x ≤ (M : Int)) (hc : ∀ x, c x = 0 ↔ T.contains x = false) :
    (∀ x, 0 ≤ (if x = N then c N + 1 else c x) ∧ (if x = N then c N + 1 else c x) ≤ ((M + 1 : Nat) : Int)) ∧ ∀ x, (if x = N then c N + 1 else c x) = 0 ↔ (T ++ [N]).contains x = false := by
  have hcN := h N
  refine ⟨fun x => ?_, fun x => ?_⟩
  · have := h x
    by_cases e : x = N
    · rw [if_pos e]; omega
    · rw [if_neg e]; omega
  · by_cases e : x = N
    · subst e
      rw [if_pos rfl]
      constructor
      · intro h9; omega
      · intro h9; simp at h9
    · rw [if_neg e, hc x]
      simp [e]

theorem thAll_has {n : Nat} {b : Bk} {np : Nat} {P : Ps} (h : MeshR n b np P) (ver : Int) {k : Nat} (hk : k < np) : thAll P ver (k + 1) = if (hasK P ver k && !seenN P (thAll P ver k) (numK P ver k)) = true then thAll P ver k ++ [(k, atK P ver k)] else thAll P ver k := by
  rw [thAll_succ]
  exact thRow_has (fun i j hij hj => (h.peer k hk).rise i j hij hj) _

theorem thAll_len {n : Nat} {b : Bk} {np : Nat} {P : Ps} (h : MeshR n b np P) (ver : Int) : ∀ k, k ≤ np → (thAll P ver k).length ≤ k := by
  intro k
  induction k with
  | zero => intro _; exact Nat.le_refl _
  | succ k ih =>
    intro hk
    have := ih (by omega)
    rw [thAll_has h ver (by omega)]
    split
    · rw [List.length_append]; simp; omega
    · omega

theorem split_ok {d m s : Nat} {D : Nat → Int} (hp : planOk (d : Int) (m : Int) (s : Int) = true) (hD : ∀ j, 0 ≤ D j ∧ D j ≤ 30) : splitE (d : Int) (m : Int) (s : Int) s D = 0 := by
  unfold splitE
  rw [if_pos hp, if_pos rfl, if_pos]
  unfold numsB
  refine decide_eq_true fun j _ => ?_
  have := hD j
  unfold isNum
  simp
  omega

end Go.Proofs.YtikchpffkhohlaaGreat

namespace Go.Proofs.YtikchpffkhohlaaGreat

open Go.RowKit
set_option linter.unusedVariables false

structure ThInv (w wr : World) (vb vl : Value) (P : Ps) (UV : Nat → Nat → Value) (l s : List (Nat × Nat)) (vo : Value) : Prop where
  below : Below w.heap.size w wr
  box : wr.heap[w.heap.size]? = some (.cells #[vb, vl] 27 (0, 0))
  seen : ∃ cs : Array Value, wr.heap[w.heap.size + 1]? = some (.cells cs 81 (0, 0)) ∧ cs.size = 8 ∧ ∀ q, q < 8 → cs[q]? = some (.bool (seenN P s q))
  row : wr.ownsRow (w.heap.size + 2) 53 2 vo l.length (flatS l.length (nL P l) (vaL UV l))

section

variable {w wr w' : World} {vb vl : Value} {P : Ps} {UV : Nat → Nat → Value} {l s : List (Nat × Nat)} {vo : Value}

theorem ThInv.up (h : ThInv w wr vb vl P UV l s vo) (hb : Below wr.heap.size wr w') : ThInv w w' vb vl P UV l s vo := by
  obtain ⟨cs, h1, h2, h3⟩ := h.seen
  exact ⟨h.below.trans (hb.mono h.below.size), stayB h.box hb, ⟨cs, stayB h1 hb, h2, h3⟩, owns_below h.row hb⟩

theorem ThInv.mark (h : ThInv w wr vb vl P UV l s vo) {k i q : Nat} (hq : q < 8) (hN : (P.t k).N i = (q : Int)) : ThInv w (wr.setCell ⟨w.heap.size + 1, q, none⟩ (.bool true)) vb vl P UV l (s ++ [(k, i)]) vo := by
  obtain ⟨cs, h1, h2, h3⟩ := h.seen
  refine ⟨h.below.setCell (p := ⟨w.heap.size + 1, q, none⟩) (by show w.heap.size ≤ w.heap.size + 1; omega) _, ?_, ⟨cs.set! q (.bool true), ?_, by simpa using h2, fun x hx => ?_⟩, ?_⟩
  · rw [Below.heap_setCell _ _ _ _ (by show w.heap.size ≠ w.heap.size + 1; omega)]; exact h.box
  · simp [World.setCell, Array.getElem?_modify, h1]
  · rw [seenN_snoc, hN]
    by_cases e : x = q
    · subst e
      simp [h2, hx]
    · have e2 : ¬ (q : Int) = (x : Int) := by omega
      rw [decide_eq_false e2, Bool.or_false, ← h3 x hx]
      simp [Ne.symm e]
  · exact ownsRow_setCell_below h.row (by show w.heap.size + 1 < w.heap.size + 2; omega) _

theorem ThInv.push (h : ThInv w wr vb vl P UV l s vo) {k i : Nat} {v1 : Value} {o : Obj} (ho : w'.ownsRow (w.heap.size + 2) 53 2 v1 (l.length + 1) (flatS l.length (nL P l) (vaL UV l) ++ [.int .i64 ((P.t k).N i), UV k i])) (hg : (wr.alloc o).grownBy w' vo.ownBlock) : ThInv w w' vb vl P UV (l ++ [(k, i)]) s v1 := by
  have hA := h.up (below_alloc wr o)
  obtain ⟨cs, h1, h2, h3⟩ := hA.seen
  refine ⟨hA.below.grown hg hA.below.size (fun g hgg => Nat.le_trans (by omega) (hA.row.lt g hgg).1), ?_, ⟨cs, ?_, h2, h3⟩, ?_⟩
  · rw [hg.block _ (Array.getElem?_eq_some_iff.1 hA.box).1 (row_ne hA.row hA.box (by decide))]; exact hA.box
  · rw [hg.block _ (Array.getElem?_eq_some_iff.1 h1).1 (row_ne hA.row h1 (by decide))]; exact h1
  · rw [flatS_snoc, List.length_append]; exact ho

end

set_option maxHeartbeats 8000000 in
set_option maxRecDepth 10000 in
theorem there_any (vb vl : Value) (np : Nat) (KV : Nat → Value) (UV : Nat → Nat → Value) (P : Ps) (ver : Int) (w : World) (hvb : ∃ a n c, vb = .slice a n c) (hl : PsSl w w.heap.size vl np KV UV P) (hn : np ≤ 8) (hm : ∀ k, k < np → P.m k ≤ 20) (hN : ∀ k i, k < np → i < P.m k → 0 ≤ (P.t k).N i ∧ (P.t k).N i < 8) :
    Calls Tryz.prog 45 #[meshV vb vl, .int .i64 ver] w fun e w' => Below w.heap.size w w' ∧ ∃ vo, e = .returned vo ∧ ShSl w' w'.heap.size vo (thereL P ver np).length (nL P (thereL P ver np)) (vaL UV (thereL P ver np)) (lL P (thereL P ver np)) (xL P (thereL P ver np)) := by
  obtain ⟨ab, nb, cb, rfl⟩ := hvb
  have HL := hid hl
  have HM := hid hm
  have HN := hid hN
  obtain ⟨al, cl, rfl, _, _⟩ := hl
  obtain ⟨ii, hii, hz0, hz1, hz2⟩ := info_parts Tryz.infoShare
  have hb0 := ((Below.refl w.heap.size w).alloc (Nat.le_refl _) (.cells #[.slice ab nb cb, .slice al np cl] 27)).alloc (by simp) (.cells #[.bool false, .bool false, .bool false, .bool false, .bool false, .bool false, .bool false, .bool false] 81)
  have k0 := heap_two_old w (.cells #[.slice ab nb cb, .slice al np cl] 27) (.cells #[.bool false, .bool false, .bool false, .bool false, .bool false, .bool false, .bool false, .bool false] 81)
  have k1 := heap_two_new w (.cells #[.slice ab nb cb, .slice al np cl] 27) (.cells #[.bool false, .bool false, .bool false, .bool false, .bool false, .bool false, .bool false, .bool false] 81)
  have J0 : Hid (ThInv w _ (.slice ab nb cb) (.slice al np cl) P UV (thAll P ver 0) (thAll P ver 0) (.slice none 0 0)) := ⟨hb0, k0, ⟨_, k1, rfl, fun q hq => by
    match q, hq with
    | 0, _ => rfl
    | 1, _ => rfl
    | 2, _ => rfl
    | 3, _ => rfl
    | 4, _ => rfl
    | 5, _ => rfl
    | 6, _ => rfl
    | 7, _ => rfl⟩, World.ownsRow_nil _ _ _ _⟩
  have c1 := (two_at k0).2
  have HLen : Hid (∀ f, f ≤ np → (thAll P ver f).length ≤ 8) := fun f hf => once_len (thAll_ok P ver np f hf).once (fun x hx => by
    obtain ⟨h1, h2, _⟩ := (thAll_ok P ver np f hf).at_ x hx
    exact HN.out x.1 x.2 h1 h2)
  have HLen2 : Hid (∀ k f, k < np → f ≤ P.m k → (thRow P ver k (thAll P ver k) f).length ≤ 8) := fun k f hk hf => once_len ((thAll_ok P ver np k (by omega)).row hk f hf).once (fun x hx => by
    obtain ⟨h1, h2, _⟩ := ((thAll_ok P ver np k (by omega)).row hk f hf).at_ x hx
    exact HN.out x.1 x.2 h1 h2)
  clear hb0 k0 k1 hm hN
  unfold meshV thereL
  go_enter Tryz.func45, Tryz.ntmps45
  go_wp2
  clear c1
  go_loopw [5, 14] (fun vo kv wr => ∃ k : Nat, k ≤ np ∧ kv = .int .i64 k ∧ Hid (ThInv w wr (.slice ab nb cb) (.slice al np cl) P UV (thAll P ver k) (thAll P ver k) vo)) (fun _ kv _ => np - (intOf kv).toNat)
  case atStart => exact ⟨0, Nat.zero_le _, rfl, J0⟩
  case round =>
    obtain ⟨k, hk, rfl, J⟩ := hrel
    by_cases hlt : k < np
    · have hki : (k : Int) < (np : Int) := by omega
      obtain ⟨bl, off, rfl, hbl, g0, g1, g2, g3⟩ := (HL.out.up J.out.below).at hlt
      have G3 := hid g3
      obtain ⟨ak, ck, hke, _, _⟩ := g3
      rw [hke] at g2 G3
      have hbA := below_alloc wr (.cells #[.bool (P.th k), .int .i64 (P.rm k), .slice ak (P.m k) ck] 47)
      have kp := heap_alloc_new wr (.cells #[.bool (P.th k), .int .i64 (P.rm k), .slice ak (P.m k) ck] 47)
      have JA := hid (J.out.up hbA)
      have KP := hid kp
      have HKe : Hid (∀ u, Below w.heap.size w u → KeSl u u.heap.size (.slice ak (P.m k) ck) (P.m k) (UV k) (P.t k)) := fun u hbu => by
        obtain ⟨_, _, _, _, _, _, _, h3⟩ := (HL.out.up hbu).at hlt
        rw [hke] at h3
        exact h3
      have hm20 := HM.out k hlt
      go_wp2
      obtain ⟨W1, hW1⟩ : ∃ u, wr.alloc (.cells #[.bool (P.th k), .int .i64 (P.rm k), .slice ak (P.m k) ck] 47) = u := ⟨_, rfl⟩
      rw [hW1] at JA KP ⊢
      obtain ⟨bp, hbp⟩ : ∃ g, wr.heap.size = g := ⟨_, rfl⟩
      rw [hbp] at KP ⊢
      clear g0 g1 g2 hbA kp hke hW1 hbp hbl J G3
      obtain ⟨w0, hw0⟩ : ∃ w0, wr = w0 := ⟨_, rfl⟩
      subst hw0
      go_loopw [5, 21] (fun vo iv wz => ∃ i : Nat, i ≤ P.m k ∧ iv = .int .i64 i ∧ Hid (ThInv w wz (.slice ab nb cb) (.slice (some ⟨bl, off, none⟩) np cl) P UV (thRow P ver k (thAll P ver k) i) (thRow P ver k (thAll P ver k) i) vo) ∧ Hid (wz.heap[bp]? = some (.cells #[.bool (P.th k), .int .i64 (P.rm k), .slice ak (P.m k) ck] 47 (0, 0)))) (fun _ iv _ => P.m k - (intOf iv).toNat)
      case atStart => exact ⟨0, Nat.zero_le _, rfl, JA, KP⟩
      case round =>
        obtain ⟨i, hi, rfl, JZ, KZ⟩ := hrel
        by_cases hil : i < P.m k
        · have hii2 : (i : Int) < (P.m k : Int) := by omega
          obtain ⟨b2, o2, rfl, _, x0, x1, x2, x3⟩ := (HKe.out wr JZ.out.below).at hil
          obtain ⟨au, cu, hue, _, _⟩ := x3
          rw [hue] at x2
          have hbB := below_alloc wr (.cells #[.int .i64 ((P.t k).V i), .int .i64 ((P.t k).N i), .slice au ((P.t k).L i) cu] 55)
          have JB := hid (JZ.out.up hbB)
          have KB := hid (stayB KZ.out hbB)
          obtain ⟨p0, p1, p2⟩ := three_at KB.out
          have hNq := HN.out k i hlt hil
          have hst := thRow_succ P ver k (thAll P ver k) i
          have hln := HLen2.out k i hlt (by omega)
          obtain ⟨l, hl9⟩ : ∃ l, thRow P ver k (thAll P ver k) i = l := ⟨_, rfl⟩
          rw [hl9] at hst JB hln
          obtain ⟨q, hq⟩ : ∃ q : Nat, (P.t k).N i = q := ⟨((P.t k).N i).toNat, by omega⟩
          have hq8 : q < 8 := by omega
          have hqi : (q : Int) < 8 := by omega
          obtain ⟨cs, s1, s2, s3⟩ := JB.out.seen
          have sc := cell_at (i := q) s1 (s3 q hq8)
          have sf := frozen_at (i := q) s1
          unfold thStep isTh at hst
          rw [hq] at hst x1 JB KB p0 p1 p2 sc sf
          obtain ⟨x, hxx⟩ : ∃ x, (P.t k).V i = x := ⟨_, rfl⟩
          rw [hxx] at hst x0 JB KB p0 p1 p2 sc sf
          obtain ⟨sn, hsn⟩ : ∃ b, seenN P l (q : Int) = b := ⟨_, rfl⟩
          rw [hsn] at hst sc
          obtain ⟨tk, htk⟩ : ∃ b, P.th k = b := ⟨_, rfl⟩
          rw [htk] at hst p0
          have HQ := hid hq
          have HU := hid hue
          clear hbB s1 s2 s3 hxx hsn hue hl9 hq htk
          cases tk with
          | false =>
            rw [Bool.false_and, Bool.false_and, if_neg (by decide)] at hst
            have HSt := hid hst
            clear hst
            go_wp2
            go_roundw
            case rel => exact ⟨i + 1, by omega, by go_num, by rw [HSt.out]; exact JB.out, KB⟩
            case measure => simp only [intOf]; omega
          | true =>
            rw [Bool.true_and] at hst
            by_cases hxv : x = ver
            · have hxb : (x == ver) = true := by rw [beq_iff_eq]; exact hxv
              rw [decide_eq_true hxv, Bool.true_and] at hst
              clear hxv
              cases sn with
              | true =>
                rw [Bool.not_true, if_neg (by decide)] at hst
                have HSt := hid hst
                clear hst
                go_wp2
                go_roundw
                case rel => exact ⟨i + 1, by omega, by go_num, by rw [HSt.out]; exact JB.out, KB⟩
                case measure => simp only [intOf]; omega
              | false =>
                rw [Bool.not_false, if_pos rfl] at hst
                have HSt := hid hst
                clear hst
                have hsl : w.heap.size + 1 < wr.heap.size := by
                  obtain ⟨cs, s1, _⟩ := JZ.out.seen
                  exact (Array.getElem?_eq_some_iff.1 s1).1
                have jc := JB.out.mark hq8 HQ.out
                have y0 := heap_alloc_new wr (.cells #[.int .i64 x, .int .i64 (q : Int), .slice au ((P.t k).L i) cu] 55)
                have y1 : ((wr.alloc (.cells #[.int .i64 x, .int .i64 (q : Int), .slice au ((P.t k).L i) cu] 55)).setCell ⟨w.heap.size + 1, q, none⟩ (.bool true)).heap[wr.heap.size]? = _ := (Below.heap_setCell _ _ _ _ (by show wr.heap.size ≠ w.heap.size + 1; omega)).trans y0
                have hpl : bp < wr.heap.size := (Array.getElem?_eq_some_iff.1 KZ.out).1
                have hpn : bp ≠ w.heap.size + 1 := fun e => by
                  obtain ⟨cs, s1, _⟩ := JZ.out.seen
                  have h9 := KZ.out
                  rw [e, s1] at h9
                  injection h9 with h9
                  injection h9 with _ h9 _
                  exact absurd h9 (by decide)
                have y2 : ((wr.alloc (.cells #[.int .i64 x, .int .i64 (q : Int), .slice au ((P.t k).L i) cu] 55)).setCell ⟨w.heap.size + 1, q, none⟩ (.bool true)).heap[bp]? = _ := (Below.heap_setCell _ _ _ _ hpn).trans KB.out
                obtain ⟨WC, hWC⟩ : ∃ u, (wr.alloc (.cells #[.int .i64 x, .int .i64 (q : Int), .slice au ((P.t k).L i) cu] 55)).setCell ⟨w.heap.size + 1, q, none⟩ (.bool true) = u := ⟨_, rfl⟩
                rw [hWC] at jc y1 y2
                have JC := hid jc
                have Y2 := hid y2
                obtain ⟨z0, z1, z2⟩ := three_at y1
                have hge : w.heap.size + 2 ≤ WC.heap.size := by
                  obtain ⟨cs, s1, _⟩ := JC.out.seen
                  have := (Array.getElem?_eq_some_iff.1 s1).1
                  omega
                clear jc y0 y1 y2
                go_wp2_with (at_builtin; go_must (refine wpList_append_own _ rfl (.tmp 45) (.tmp 48) 71 rfl (w.heap.size + 2) 53 ii (.agg #[.int .i64 0, .slice none 0 0]) 2 32 Tryz.underlying71 hii hz0 hz1 hz2 rfl (by decide) _ _ _ rfl (World.ownsRow.alloc JC.out.row _) ⟨_, 0, none⟩ 1 1 [.int .i64 (q : Int), .slice au ((P.t k).L i) cu] rfl rfl (cells_pr _ _ _ _) (by intro u hu; simp at hu; rcases hu with rfl | rfl <;> rfl) (by unfold maxLen; omega) (by omega) (by simp; omega) ?_; intro v1 w6 ho6 hg6 _; have HO6 := hid ho6; have HG6 := hid hg6; clear ho6 hg6))
                have hd : (P.t k).N i = (q : Int) := HQ.out
                have J6 := hid (JC.out.push (k := k) (i := i) (by rw [hd, HU.out]; exact HO6.out) HG6.out)
                have jA := JC.out.up (below_alloc WC (.cells #[.int .i64 (q : Int), .slice au ((P.t k).L i) cu] 53))
                have K6 : Hid (w6.heap[bp]? = some (.cells #[.bool (P.th k), .int .i64 (P.rm k), .slice (some ⟨b2, o2, none⟩) (P.m k) ck] 47 (0, 0))) := by
                  have h8 := stayB Y2.out (below_alloc WC (.cells #[.int .i64 (q : Int), .slice au ((P.t k).L i) cu] 53))
                  show _ = _
                  rw [HG6.out.block _ (Array.getElem?_eq_some_iff.1 h8).1 (row_ne jA.row h8 (by decide))]
                  exact h8
                clear HO6 HG6 jA hd
                go_roundw
                case rel => exact ⟨i + 1, by omega, by go_num, by rw [HSt.out]; exact J6.out, K6⟩
                case measure => simp only [intOf]; omega
            · have hxb : (x == ver) = false := by rw [beq_eq_false_iff_ne]; exact hxv
              rw [decide_eq_false hxv, Bool.false_and, if_neg (by decide)] at hst
              have HSt := hid hst
              clear hst hxv
              go_wp2
              go_roundw
              case rel => exact ⟨i + 1, by omega, by go_num, by rw [HSt.out]; exact JB.out, KB⟩
              case measure => simp only [intOf]; omega
        · have hie : P.m k = i := by omega
          have hil2 : ¬ (i : Int) < (P.m k : Int) := by omega
          have hal : thAll P ver (k + 1) = thRow P ver k (thAll P ver k) i := by rw [thAll_succ, hie]
          have HAl := hid hal
          clear hal
          go_wp2
          go_roundw
          case rel => exact ⟨k + 1, by omega, by go_num, by rw [HAl.out]; exact JZ.out⟩
          case measure => simp only [intOf]; omega
    · have hke : np = k := by omega
      subst hke
      have hlen := HLen.out np (Nat.le_refl _)
      have hsl : ShSl wr wr.heap.size u5 (thAll P ver np).length (nL P (thAll P ver np)) (vaL UV (thAll P ver np)) (lL P (thAll P ver np)) (xL P (thAll P ver np)) := by
        refine OwnS.shl (w0 := w) ⟨owns_base J.out.row (by omega), J.out.below⟩ (by omega) fun j hj => ?_
        obtain ⟨h1, h2, _⟩ := (thAll_ok P ver np np (Nat.le_refl _)).at_ ((thAll P ver np).getD j (0, 0)) (by rw [List.getD_eq_getElem?_getD, List.getElem?_eq_getElem hj]; exact List.getElem_mem hj)
        exact (HL.out.up J.out.below).ints h1 h2
      have HS := hid hsl
      clear hsl
      go_wp2
      go_ret
      exact ⟨J.out.below, _, rfl, HS.out⟩

end Go.Proofs.YtikchpffkhohlaaGreat

namespace Go.Proofs

open Go.Shelf
def Tryz.sortLists_ren : Go.Shelf.Ren := ⟨fun | 6 => 92 | 15 => 74 | 14 => 140 | 28 => 118 | 29 => 119 | 20 => 160 | 21 => 161 | 22 => 162 | 23 => 163 | 24 => 164 | 25 => 165 | 26 => 166 | 27 => 167 | 46 => 177 | 47 => 150 | 48 => 151 | 49 => 178 | 50 => 179 | 57 => 192 | n => n, fun | 22 => 123 | 24 => 28 | 25 => 125 | 3 => 3 | 39 => 101 | 0 => 0 | 53 => 146 | 55 => 148 | 4 => 4 | 46 => 138 | 45 => 137 | 50 => 143 | 5 => 5 | 9 => 9 | 66 => 169 | 70 => 173 | 76 => 184 | 77 => 185 | n => n, fun | n => n⟩
theorem Tryz.sortLists : Go.Proofs.SlLaysF.n6 Tryz.prog Tryz.sortLists_ren := {
  mixed := by kernel_rfl
  f6 := ⟨Tryz.f92.name, by decide, Tryz.func92.trans (congrArg some (by kernel_rfl))⟩
  f14 := ⟨Tryz.f140.name, by decide, Tryz.func140.trans (congrArg some (by kernel_rfl))⟩
  f15 := Tryz.func74.trans (congrArg some (by kernel_rfl))
  f20 := ⟨Tryz.f160.name, by decide, Tryz.func160.trans (congrArg some (by kernel_rfl))⟩
  f21 := ⟨Tryz.f161.name, by decide, Tryz.func161.trans (congrArg some (by kernel_rfl))⟩
  f22 := ⟨Tryz.f162.name, by decide, Tryz.func162.trans (congrArg some (by kernel_rfl))⟩
  f23 := ⟨Tryz.f163.name, by decide, Tryz.func163.trans (congrArg some (by kernel_rfl))⟩
  f24 := ⟨Tryz.f164.name, by decide, Tryz.func164.trans (congrArg some (by kernel_rfl))⟩
  f25 := ⟨Tryz.f165.name, by decide, Tryz.func165.trans (congrArg some (by kernel_rfl))⟩
  f26 := ⟨Tryz.f166.name, by decide, Tryz.func166.trans (congrArg some (by kernel_rfl))⟩
  f27 := ⟨Tryz.f167.name, by decide, Tryz.func167.trans (congrArg some (by kernel_rfl))⟩
  f28 := Tryz.func118.trans (congrArg some (by kernel_rfl))
  f29 := Tryz.func119.trans (congrArg some (by kernel_rfl))
  f46 := ⟨Tryz.f177.name, by decide, Tryz.func177.trans (congrArg some (by kernel_rfl))⟩
  f47 := Tryz.func150.trans (congrArg some (by kernel_rfl))
  f48 := Tryz.func151.trans (congrArg some (by kernel_rfl))
  f49 := ⟨Tryz.f178.name, by decide, Tryz.func178.trans (congrArg some (by kernel_rfl))⟩
  f50 := ⟨Tryz.f179.name, by decide, Tryz.func179.trans (congrArg some (by kernel_rfl))⟩
  f57 := ⟨Tryz.f192.name, by decide, Tryz.func192.trans (congrArg some (by kernel_rfl))⟩
  t0 := Tryz.underlying0
  a0 := Tryz.isAgg0
  z0 := Tryz.sizeOf0
  v0 := Tryz.zeroValue0
  t3 := Tryz.underlying3
  a3 := Tryz.isAgg3
  z3 := Tryz.sizeOf3
  v3 := Tryz.zeroValue3
  t4 := Tryz.underlying4
  a4 := Tryz.isAgg4
  z4 := Tryz.sizeOf4
  v4 := Tryz.zeroValue4
  t5 := Tryz.underlying5
  a5 := Tryz.isAgg5
  z5 := Tryz.sizeOf5
  v5 := Tryz.zeroValue5
  t9 := Tryz.underlying9
  a9 := Tryz.isAgg9
  z9 := Tryz.sizeOf9
  v9 := Tryz.zeroValue9
  t22 := Tryz.underlying123
  a22 := Tryz.isAgg123
  z22 := Tryz.sizeOf123
  v22 := Tryz.zeroValue123
  a24 := Tryz.isAgg28
  z24 := Tryz.sizeOf28
  t25 := Tryz.underlying125
  a25 := Tryz.isAgg125
  z25 := Tryz.sizeOf125
  v25 := Tryz.zeroValue125
  t39 := Tryz.underlying101
  a39 := Tryz.isAgg101
  z39 := Tryz.sizeOf101
  v39 := Tryz.zeroValue101
  t45 := Tryz.underlying137
  a45 := Tryz.isAgg137
  z45 := Tryz.sizeOf137
  v45 := Tryz.zeroValue137
  t46 := Tryz.underlying138
  a46 := Tryz.isAgg138
  z46 := Tryz.sizeOf138
  v46 := Tryz.zeroValue138
  t50 := Tryz.underlying143
  a50 := Tryz.isAgg143
  z50 := Tryz.sizeOf143
  v50 := Tryz.zeroValue143
  t53 := Tryz.underlying146
  a53 := Tryz.isAgg146
  z53 := Tryz.sizeOf146
  v53 := Tryz.zeroValue146
  t55 := Tryz.underlying148
  a55 := Tryz.isAgg148
  z55 := Tryz.sizeOf148
  v55 := Tryz.zeroValue148
  t66 := Tryz.underlying169
  a66 := Tryz.isAgg169
  z66 := Tryz.sizeOf169
  v66 := Tryz.zeroValue169
  t70 := Tryz.underlying173
  a70 := Tryz.isAgg173
  z70 := Tryz.sizeOf173
  v70 := Tryz.zeroValue173
  t76 := Tryz.underlying184
  a76 := Tryz.isAgg184
  z76 := Tryz.sizeOf184
  v76 := Tryz.zeroValue184
  t77 := Tryz.underlying185
  a77 := Tryz.isAgg185
  z77 := Tryz.sizeOf185
  v77 := Tryz.zeroValue185 }

end Go.Proofs

namespace Go.Proofs.YtikchpffkhohlaaGreat

open Go.RowKit CurveMath
set_option linter.unusedVariables false

end Go.Proofs.YtikchpffkhohlaaGreat

namespace Go.Proofs.YtikchpffkhohlaaGreat

open Go.RowKit Go.Maps
set_option linter.unusedVariables false

def setX {H : Type} (u : DataW H) (X : Nat → Int) (k : Nat) : DataW H := setOf u ((List.range k).map fun j => Lit.int .i64 (X j))

theorem setX_zero {H : Type} (u : DataW H) (X : Nat → Int) : setX u X 0 = .map [] := rfl

theorem setX_succ {H : Type} (u : DataW H) (X : Nat → Int) (k : Nat) : setX u X (k + 1) = (setX u X k).put (.int .i64 (X k)) u := by
  unfold setX
  rw [List.range_succ, List.map_append]
  exact setOf_snoc u _ _

theorem isMap_setX {H : Type} (u : DataW H) (X : Nat → Int) (k : Nat) : IsMap (setX u X k) := by
  induction k with
  | zero => rw [setX_zero]; exact isMap_empty
  | succ k ih => rw [setX_succ]; exact ih.put _ _

theorem hasB_succ (X : Nat → Int) (k : Nat) (v : Int) (h : X k ≠ v) : hasB X (k + 1) v = hasB X k v := by
  rw [Bool.eq_iff_iff, hasB_iff, hasB_iff]
  constructor
  · rintro ⟨j, hj, e⟩
    by_cases hjk : j = k
    · subst hjk; exact absurd e h
    · exact ⟨j, by omega, e⟩
  · rintro ⟨j, hj, e⟩; exact ⟨j, by omega, e⟩

theorem atKey_setX {H : Type} (u : DataW H) (X : Nat → Int) (k : Nat) (v : Int) (z : DataW H) : (setX u X k).atKey (.int .i64 v) z = if hasB X k v = true then u else z := by
  induction k with
  | zero => rfl
  | succ k ih =>
    rw [setX_succ]
    by_cases h : X k = v
    · subst h
      rw [atKey_put_same (isMap_setX u X k) (by simp [WideAt.IsKeyLit]), if_pos ((hasB_iff X (k + 1) (X k)).2 ⟨k, by omega, rfl⟩)]
    · rw [atKey_put_other (fun e => h (by injection e with _ e2; exact e2.symm)), ih, hasB_succ X k v h]

end Go.Proofs.YtikchpffkhohlaaGreat
