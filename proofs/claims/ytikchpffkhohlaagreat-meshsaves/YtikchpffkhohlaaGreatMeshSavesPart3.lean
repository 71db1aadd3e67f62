/- Several texts of one proof, in their order. -/
import Derived.Test.YtikchpffkhohlaaGreatMeshSavesPart2
import Derived.Test.YtikchpffkhohlaaGreatMSum13
import Derived.Test.YtikchpffkhohlaaGreatMSum6

namespace Go.Proofs.YtikchpffkhohlaaGreat

open Go.RowKit CurveMath
set_option linter.unusedVariables false

def BoSl (w : World) (B : Nat) (v : Value) (n : Nat) (G : Nat → Bool) : Prop :=
  ∃ (ad : Option Addr) (cap : Nat), v = .slice ad n cap ∧ (n = 0 ∨ ∃ b off, ad = some ⟨b, off, none⟩ ∧ b < B ∧ ∀ j, j < n → w.cell? ⟨b, off + j, none⟩ = some (.bool (G j)))

def tK (P : Ps) (lg : Nat) (G : Nat → Bool) (k : Nat) : Bool := P.th k && !(decide (k < lg) && G k)
def tI (P : Ps) (lg : Nat) (G : Nat → Bool) (i k : Nat) : Bool := if k < i then tK P lg G k else P.th k

theorem tI_zero (P : Ps) (lg : Nat) (G : Nat → Bool) : tI P lg G 0 = P.th := by
  funext k
  unfold tI
  rw [if_neg (Nat.not_lt_zero _)]

theorem tI_stay {P : Ps} {lg : Nat} {G : Nat → Bool} {i : Nat} (h : tK P lg G i = P.th i) : tI P lg G (i + 1) = tI P lg G i := by
  funext k
  unfold tI
  by_cases e : k = i
  · subst e; rw [if_pos (by omega), if_neg (by omega), h]
  · by_cases c : k < i
    · rw [if_pos (by omega), if_pos c]
    · rw [if_neg (by omega), if_neg c]

theorem tI_go {P : Ps} {lg : Nat} {G : Nat → Bool} {i : Nat} (h : tK P lg G i = false) : tI P lg G (i + 1) = fun k => if k = i then false else tI P lg G i k := by
  funext k
  unfold tI
  by_cases e : k = i
  · subst e; rw [if_pos (by omega), if_pos rfl, h]
  · rw [if_neg e]
    by_cases c : k < i
    · rw [if_pos (by omega), if_pos c]
    · rw [if_neg (by omega), if_neg c]

theorem here_count (n np : Nat) (P : Ps) (of : Int) (lg : Nat) (G : Nat → Bool) : hereL n np P of (tI P lg G np) np = hereL n np P of (tK P lg G) np := by
  unfold hereL
  congr 1
  refine List.filter_congr fun k hk => ?_
  unfold hereB tI
  rw [if_pos (List.mem_range.1 hk)]

theorem here_step (n np : Nat) (P : Ps) (of : Int) (t : Nat → Bool) (f : Nat) : (hereL n np P of t (f + 1)).length = (hereL n np P of t f).length + (if hereB n np P of t f = true then 1 else 0) := by
  rw [hereL_succ, List.length_append]
  by_cases c : hereB n np P of t f = true
  · rw [if_pos c, if_pos c]; rfl
  · rw [if_neg c, if_neg c]; rfl

theorem save_fst {n : Nat} {b : Bk} {np : Nat} {P : Ps} {need of : Int} {len : Nat} {D : Nat → Int} {lp : Nat} {X : Nat → Int} (h : SaveOk n b np P need of len D lp X) {k : Nat} (hk : k < np) (ht : P.th k = true) : decide (0 ≤ fstAt ((saveP n np P need of len D).t k).V (n : Int) ((saveP n np P need of len D).m k) 0) = decide (0 ≤ gvn n np P of k) := by
  have h1 := (save_has h hk).1
  unfold hasK at h1
  rw [show (saveP n np P need of len D).th k = true from ht, Bool.true_and] at h1
  exact h1

structure SvInv (w wr : World) (gx : Nat) (ab : Option Addr) (n cb : Nat) (PV : Nat → Value) (b : Bk) (al : Option Addr) (np cl : Nat) (KV : Nat → Value) (UV : Nat → Nat → Value) (Z : Ps) : Prop where
  below : Below w.heap.size w wr
  x : MsAt wr gx ab n cb PV b al np cl KV UV Z
  new : NewP w.heap.size wr (.slice al np cl) np KV UV Z
  ne : ∀ bl off, al = some ⟨bl, off, none⟩ → bl ≠ gx

section

variable {w wr w' : World} {gx : Nat} {ab : Option Addr} {n cb : Nat} {PV : Nat → Value} {b : Bk} {al : Option Addr} {np cl : Nat} {KV : Nat → Value} {UV : Nat → Nat → Value} {Z : Ps}

theorem SvInv.up (h : SvInv w wr gx ab n cb PV b al np cl KV UV Z) (hb : Below wr.heap.size wr w') : SvInv w w' gx ab n cb PV b al np cl KV UV Z :=
  ⟨h.below.trans (hb.mono h.below.size), h.x.up hb, h.new.up hb, h.ne⟩

theorem SvInv.goes {bl off q : Nat} (h : SvInv w wr gx ab n cb PV b (some ⟨bl, off, none⟩) np cl KV UV Z) (hq : q < np) : SvInv w (wr.setCell ⟨bl, off + q * 3, none⟩ (.bool false)) gx ab n cb PV b (some ⟨bl, off, none⟩) np cl KV UV (goP Z fun k => if k = q then false else Z.th k) := by
  obtain ⟨bl', off', e1, _, hc, _, _, _⟩ := h.x.2.2.at hq
  injection e1 with e1
  injection e1 with e1 e2
  subst e1 e2
  have hz : (wr.setCell ⟨bl, off + q * 3, none⟩ (.bool false)).heap.size = wr.heap.size := by simp [World.setCell]
  have hlo : w.heap.size ≤ bl := (h.new.1 _ _ _ rfl).1
  refine ⟨h.below.setCell (p := ⟨bl, off + q * 3, none⟩) hlo _, ⟨?_, ?_, ?_⟩, h.new.set (fun k hk => ⟨rfl, fun i hi => rfl⟩) _ _, h.ne⟩
  · rw [Below.heap_setCell _ _ _ _ (by show gx ≠ bl; exact fun e => h.ne _ _ rfl e.symm)]; exact h.x.1
  · rw [hz]; exact ve_bool h.x.2.1 hc _
  · exact ps_there h.x.2.2 hq false fun k hk => ⟨rfl, rfl, rfl, rfl⟩

theorem SvInv.cells (h : SvInv w wr gx ab n cb PV b al np cl KV UV Z) {i : Nat} (hi : i < np) : ∃ bl off ak ck, al = some ⟨bl, off, none⟩ ∧ (wr.cell? ⟨gx, 0, none⟩ = some (.slice ab n cb) ∧ wr.cell? ⟨gx, 1, none⟩ = some (.slice al np cl)) ∧ (wr.cell? ⟨bl, off + i * 3, none⟩ = some (.bool (Z.th i)) ∧ wr.frozen? ⟨bl, off + i * 3, none⟩ = false) ∧ wr.cell? ⟨bl, off + i * 3 + 1, none⟩ = some (.int .i64 (Z.rm i)) ∧ wr.cell? ⟨bl, off + i * 3 + 2, none⟩ = some (.slice ak (Z.m i) ck) ∧ KeSl wr wr.heap.size (.slice ak (Z.m i) ck) (Z.m i) (UV i) (Z.t i) := by
  obtain ⟨bl, off, e, _, c0, c1, c2, c3⟩ := h.x.2.2.at hi
  have c3' := c3
  obtain ⟨ak, ck, hk, _, _⟩ := c3'
  rw [hk] at c2 c3
  exact ⟨bl, off, ak, ck, e, h.x.cells, ⟨c0, (h.new.1 _ _ _ (by rw [e])).2.2 _⟩, c1, c2, c3⟩

end

end Go.Proofs.YtikchpffkhohlaaGreat
