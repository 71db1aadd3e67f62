/- Several texts of one proof, in their order. -/


/- Curves of low degree over the numbers modulo 31: one that has as many noughts as it has coefficients is nought. No condition; nothing of the program. -/
namespace Go.Proofs.Ytfcpmpcfbhkacaa.CurveMath

set_option linter.unusedVariables false

abbrev F := Fin 31

/-- the inverse: by trying -/
def inv (a : F) : F := a ^ 29

theorem inv_all : ∀ a : F, a ≠ 0 → inv a * a = 1 := by decide +kernel
theorem inv_zero : inv 0 = 0 := by decide +kernel

theorem mul_eq_zero {a b : F} (h : a * b = 0) : a = 0 ∨ b = 0 := by
  by_cases ha : a = 0
  · exact Or.inl ha
  · right
    have := inv_all a ha
    grind

theorem sub_ne {a b : F} (h : a ≠ b) : a - b ≠ 0 := by
  intro h0
  apply h
  grind

def eval : List F → F → F
  | [], _ => 0
  | a :: p, t => a + t * eval p t

/-- a curve of degree below n -/
def Deg (n : Nat) (f : F → F) : Prop := ∃ p : List F, p.length ≤ n ∧ ∀ t, f t = eval p t

theorem Deg.mono {n m : Nat} {f : F → F} (h : Deg n f) (hnm : n ≤ m) : Deg m f := by
  obtain ⟨p, hp, he⟩ := h
  exact ⟨p, Nat.le_trans hp hnm, he⟩

theorem Deg.congr {n : Nat} {f g : F → F} (h : Deg n f) (e : ∀ t, g t = f t) : Deg n g := by
  obtain ⟨p, hp, he⟩ := h
  exact ⟨p, hp, fun t => by rw [e, he]⟩

theorem Deg.const (a : F) : Deg 1 (fun _ => a) := ⟨[a], by simp, fun t => by simp only [eval]; grind⟩
theorem Deg.zero (n : Nat) : Deg n (fun _ => 0) := ⟨[], by simp, fun t => rfl⟩

theorem eval_smul (c : F) (p : List F) (t : F) : eval (p.map (c * ·)) t = c * eval p t := by
  induction p with
  | nil => simp only [List.map_nil, eval]; grind
  | cons a p ih => simp only [List.map_cons, eval, ih]; grind

theorem Deg.smul {n : Nat} {f : F → F} (c : F) (h : Deg n f) : Deg n (fun t => c * f t) := by
  obtain ⟨p, hp, he⟩ := h
  exact ⟨p.map (c * ·), by simpa using hp, fun t => by simp only [eval_smul, he]⟩

def addP : List F → List F → List F
  | [], q => q
  | a :: p, [] => a :: p
  | a :: p, b :: q => (a + b) :: addP p q

theorem eval_addP (p q : List F) (t : F) : eval (addP p q) t = eval p t + eval q t := by
  induction p generalizing q with
  | nil => simp only [addP, eval]; grind
  | cons a p ih =>
    cases q with
    | nil => simp only [addP, eval]; grind
    | cons b q => simp only [addP, eval, ih]; grind

theorem len_addP (p q : List F) (n : Nat) (hp : p.length ≤ n) (hq : q.length ≤ n) : (addP p q).length ≤ n := by
  induction p generalizing q n with
  | nil => simpa only [addP] using hq
  | cons a p ih =>
    cases q with
    | nil => simpa only [addP] using hp
    | cons b q =>
      simp only [addP, List.length_cons] at hp hq ⊢
      obtain ⟨m, rfl⟩ : ∃ m, n = m + 1 := ⟨n - 1, by omega⟩
      have := ih q m (by omega) (by omega)
      omega

theorem Deg.add {n : Nat} {f g : F → F} (hf : Deg n f) (hg : Deg n g) : Deg n (fun t => f t + g t) := by
  obtain ⟨p, hp, he⟩ := hf
  obtain ⟨q, hq, he2⟩ := hg
  exact ⟨addP p q, len_addP p q n hp hq, fun t => by simp only [eval_addP, he, he2]⟩

theorem Deg.sub {n : Nat} {f g : F → F} (hf : Deg n f) (hg : Deg n g) : Deg n (fun t => f t - g t) :=
  (hf.add (hg.smul (-1))).congr fun t => by grind

theorem Deg.mulLin {n : Nat} {f : F → F} (r : F) (h : Deg n f) : Deg (n + 1) (fun t => (t - r) * f t) := by
  obtain ⟨p, hp, he⟩ := h
  have h1 : Deg (n + 1) (fun t => t * f t) := ⟨0 :: p, by simp; omega, fun t => by simp only [eval, he]; grind⟩
  have h2 : Deg (n + 1) (fun t => f t) := Deg.mono ⟨p, hp, he⟩ (by omega)
  exact (h1.sub (h2.smul r)).congr fun t => by grind

/-- what is left when a place is struck -/
theorem split (p : List F) (r : F) : ∃ q : List F, q.length ≤ p.length - 1 ∧ ∀ t, eval p t = (t - r) * eval q t + eval p r := by
  induction p with
  | nil => exact ⟨[], by simp, fun t => by simp only [eval]; grind⟩
  | cons a p ih =>
    cases p with
    | nil => exact ⟨[], by simp, fun t => by simp only [eval]; grind⟩
    | cons b p' =>
      obtain ⟨q, hq, he⟩ := ih
      refine ⟨eval (b :: p') r :: q, by simp only [List.length_cons] at hq ⊢; omega, fun t => ?_⟩
      have h1 : eval (a :: b :: p') t = a + t * eval (b :: p') t := rfl
      have h2 : eval (a :: b :: p') r = a + r * eval (b :: p') r := rfl
      have h3 : eval (eval (b :: p') r :: q) t = eval (b :: p') r + t * eval q t := rfl
      rw [h1, h2, h3, he t]
      generalize eval (b :: p') r = e
      generalize eval q t = u
      grind

/-- places that are all different -/
def Inj (n : Nat) (x : Nat → F) : Prop := ∀ i j, i < n → j < n → x i = x j → i = j

theorem roots (n : Nat) (x : Nat → F) : ∀ (p : List F), p.length ≤ n → Inj n x → (∀ i, i < n → eval p (x i) = 0) → ∀ t, eval p t = 0 := by
  induction n with
  | zero =>
    intro p hp _ _ t
    have : p = [] := List.length_eq_zero_iff.1 (by omega)
    subst this
    rfl
  | succ n ih =>
    intro p hp hx h0 t
    obtain ⟨q, hq, he⟩ := split p (x n)
    have hn := h0 n (by omega)
    have hq0 : ∀ t, eval q t = 0 := by
      apply ih q (by omega) (fun i j hi hj => hx i j (by omega) (by omega))
      intro i hi
      have h1 := h0 i (by omega)
      rw [he (x i), hn] at h1
      have hne : x i - x n ≠ 0 := sub_ne (fun e => by have := hx i n (by omega) (by omega) e; omega)
      have h2 : (x i - x n) * eval q (x i) = 0 := by grind
      exact (mul_eq_zero h2).resolve_left hne
    rw [he t, hn, hq0 t]
    grind

/-- through as many points goes one curve alone -/
theorem Deg.uniq {n : Nat} {f g : F → F} {x : Nat → F} (hf : Deg n f) (hg : Deg n g) (hx : Inj n x) (h : ∀ i, i < n → f (x i) = g (x i)) : ∀ t, f t = g t := by
  obtain ⟨p, hp, he⟩ := hf.sub hg
  have := roots n x p hp hx (fun i hi => by rw [← he]; simp only [h i hi]; grind)
  intro t
  have h1 := he t
  rw [this t] at h1
  grind

/-- the product of t less each of the first n places from m on -/
def prodLin (x : Nat → F) (m : Nat) : Nat → F → F
  | 0, _ => 1
  | k + 1, t => (t - x (m + k)) * prodLin x m k t

/-- degree n, and the first coefficient -/
def Lead (n : Nat) (a : F) (f : F → F) : Prop := Deg n (fun t => f t - a * t ^ n)

theorem Lead.deg {n : Nat} {a : F} {f : F → F} (h : Lead n a f) : Deg (n + 1) f := by
  have h1 : ∀ n : Nat, Deg (n + 1) (fun t => t ^ n) := by
    intro n
    induction n with
    | zero => exact (Deg.const 1).congr fun t => by grind
    | succ n ih =>
      have := ih.mulLin 0
      exact this.congr fun t => by grind
  exact ((h.mono (Nat.le_succ n)).add ((h1 n).smul a)).congr fun t => by grind

theorem Lead.const (a : F) : Lead 0 a (fun _ => a) := (Deg.zero 0).congr fun t => by grind

theorem Lead.mulLin {n : Nat} {a : F} {f : F → F} (r : F) (h : Lead n a f) : Lead (n + 1) a (fun t => (t - r) * f t) := by
  have h1 := Deg.mulLin r h
  have h2 : Deg (n + 1) (fun t => r * (a * t ^ n)) := by
    have h3 : ∀ n : Nat, Deg (n + 1) (fun t => t ^ n) := by
      intro n
      induction n with
      | zero => exact (Deg.const 1).congr fun t => by grind
      | succ n ih =>
        have := ih.mulLin 0
        exact this.congr fun t => by grind
    exact ((h3 n).smul (r * a)).congr fun t => by grind
  exact (h1.sub h2).congr fun t => by grind

theorem Lead.smul {n : Nat} {a : F} {f : F → F} (c : F) (h : Lead n a f) : Lead n (c * a) (fun t => c * f t) :=
  (Deg.smul c h).congr fun t => by grind

theorem Lead.sub {n : Nat} {a b : F} {f g : F → F} (hf : Lead n a f) (hg : Lead n b g) : Lead n (a - b) (fun t => f t - g t) :=
  (Deg.sub hf hg).congr fun t => by grind

theorem Lead.of_deg {n : Nat} {f : F → F} (h : Deg n f) : Lead n 0 f := h.congr fun t => by grind

theorem lead_prodLin (x : Nat → F) (m : Nat) (k : Nat) : Lead k 1 (prodLin x m k) := by
  induction k with
  | zero => exact (Lead.const 1).congr fun t => by simp only [prodLin]
  | succ k ih => exact (Lead.mulLin (x (m + k)) ih).congr fun t => by simp only [prodLin]

theorem prodLin_zero (x : Nat → F) (m k i : Nat) (hi : i < k) : prodLin x m k (x (m + i)) = 0 := by
  induction k with
  | zero => omega
  | succ k ih =>
    simp only [prodLin]
    by_cases h : i = k
    · subst h; grind
    · rw [ih (by omega)]; grind

/-- a curve of degree n that is nought at n places is its first coefficient times the product -/
theorem Lead.product {n : Nat} {a : F} {f : F → F} {x : Nat → F} {m : Nat} (h : Lead n a f) (hx : Inj n (fun i => x (m + i))) (h0 : ∀ i, i < n → f (x (m + i)) = 0) : ∀ t, f t = a * prodLin x m n t := by
  have h1 : Deg n (fun t => f t - a * prodLin x m n t) := by
    have h2 := Lead.sub h (Lead.smul a (lead_prodLin x m n))
    exact Deg.congr h2 fun t => by grind
  have h3 := Deg.uniq h1 (Deg.zero n) hx (fun i hi => by
    show f (x (m + i)) - a * prodLin x m n (x (m + i)) = 0
    rw [h0 i hi, prodLin_zero x m n i hi]; grind)
  intro t
  have := h3 t
  grind

/-- differences of differences -/
def dd (x y : Nat → F) : Nat → Nat → F
  | i, 0 => y i
  | i, k + 1 => (dd x y i k - dd x y (i - 1) k) * inv (x i - x (i - (k + 1)))

/-- the curve through the points from number i - k to number i -/
def nev (x y : Nat → F) : Nat → Nat → F → F
  | i, 0, _ => y i
  | i, k + 1, t => ((t - x (i - (k + 1))) * nev x y i k t - (t - x i) * nev x y (i - 1) k t) * inv (x i - x (i - (k + 1)))

theorem lead_nev (x y : Nat → F) (k : Nat) : ∀ i, Lead k (dd x y i k) (nev x y i k) := by
  induction k with
  | zero => intro i; exact (Lead.const (y i)).congr fun t => by simp only [nev, dd]
  | succ k ih =>
    intro i
    have h := Lead.smul (inv (x i - x (i - (k + 1)))) (Lead.sub (Lead.mulLin (x (i - (k + 1))) (ih i)) (Lead.mulLin (x i) (ih (i - 1))))
    exact Deg.congr h fun t => by simp only [nev, dd]; grind

theorem nev_at (x y : Nat → F) (n : Nat) (hx : Inj n x) (k : Nat) : ∀ i j, k ≤ i → i < n → i - k ≤ j → j ≤ i → nev x y i k (x j) = y j := by
  induction k with
  | zero =>
    intro i j _ _ h1 h2
    have : i = j := by omega
    subst this
    rfl
  | succ k ih =>
    intro i j hk hi h1 h2
    have hne : x i - x (i - (k + 1)) ≠ 0 := sub_ne (fun e => by have := hx i (i - (k + 1)) (by omega) (by omega) e; omega)
    have hinv := inv_all _ hne
    simp only [nev]
    by_cases ha : j = i
    · subst ha
      rw [ih j j (by omega) (by omega) (by omega) (by omega)]
      grind
    · by_cases hb : j = i - (k + 1)
      · rw [hb] at *
        rw [ih (i - 1) (i - (k + 1)) (by omega) (by omega) (by omega) (by omega)]
        grind
      · rw [ih i j (by omega) (by omega) (by omega) (by omega), ih (i - 1) j (by omega) (by omega) (by omega) (by omega)]
        grind

/-- the sum of the first n differences times their products -/
def newt (x : Nat → F) (c : Nat → F) : Nat → F → F
  | 0, _ => 0
  | n + 1, t => newt x c n t + c n * prodLin x 0 n t

theorem newt_nev (x y : Nat → F) (n : Nat) (hx : Inj (n + 1) x) : ∀ t, newt x (fun i => dd x y i i) (n + 1) t = nev x y n n t := by
  induction n with
  | zero => intro t; simp only [newt, prodLin, dd, nev]; grind
  | succ n ih =>
    intro t
    have ih' := ih (fun i j hi hj => hx i j (by omega) (by omega)) t
    have e : newt x (fun i => dd x y i i) (n + 1 + 1) t = newt x (fun i => dd x y i i) (n + 1) t + dd x y (n + 1) (n + 1) * prodLin x 0 (n + 1) t := rfl
    rw [e, ih']
    have h1 := lead_nev x y (n + 1) (n + 1)
    have h2 : Lead (n + 1) 0 (nev x y n n) := Lead.of_deg (lead_nev x y n n).deg
    have h3 := Lead.product (x := x) (m := 0) (Lead.sub h1 h2) (fun i j hi hj e => hx i j (by omega) (by omega) (by simpa using e)) (fun i hi => by
      simp only [Nat.zero_add]
      rw [nev_at x y (n + 1 + 1) hx (n + 1) (n + 1) i (by omega) (by omega) (by omega) (by omega)]
      rw [nev_at x y (n + 1 + 1) hx n n i (by omega) (by omega) (by omega) (by omega)]
      grind) t
    grind

theorem newt_deg (x y : Nat → F) (n : Nat) (hx : Inj n x) : Deg n (newt x (fun i => dd x y i i) n) := by
  cases n with
  | zero => exact (Deg.zero 0).congr fun t => rfl
  | succ n => exact (lead_nev x y n n).deg.congr fun t => newt_nev x y n hx t

theorem newt_at (x y : Nat → F) (n : Nat) (hx : Inj n x) (j : Nat) (hj : j < n) : newt x (fun i => dd x y i i) n (x j) = y j := by
  cases n with
  | zero => omega
  | succ n => rw [newt_nev x y n hx, nev_at x y (n + 1) hx n n j (by omega) (by omega) (by omega) (by omega)]

/-- from the last coefficient down to number m: times t less x m, and c m -/
def horn (x c : Nat → F) (t : F) (n : Nat) : Nat → F
  | 0 => 0
  | k + 1 => horn x c t n k * (t - x (n - (k + 1))) + c (n - (k + 1))

theorem horn_newt (x c : Nat → F) (t : F) (n : Nat) : ∀ k, k ≤ n → horn x c t n k * prodLin x 0 (n - k) t + newt x c (n - k) t = newt x c n t := by
  intro k
  induction k with
  | zero => intro _; simp only [horn, Nat.sub_zero]; grind
  | succ k ih =>
    intro hk
    have ih' := ih (by omega)
    obtain ⟨m, hm⟩ : ∃ m, n - k = m + 1 := ⟨n - k - 1, by omega⟩
    have hm2 : n - (k + 1) = m := by omega
    rw [hm] at ih'
    have e1 : prodLin x 0 (m + 1) t = (t - x (0 + m)) * prodLin x 0 m t := rfl
    have e2 : newt x c (m + 1) t = newt x c m t + c m * prodLin x 0 m t := rfl
    rw [e1, e2, Nat.zero_add] at ih'
    simp only [horn, hm2]
    rw [← ih']
    grind

theorem horn_all (x c : Nat → F) (t : F) (n : Nat) : horn x c t n n = newt x c n t := by
  have := horn_newt x c t n n (Nat.le_refl n)
  simp only [Nat.sub_self, prodLin, newt] at this
  grind

/-- a number as one modulo 31 -/
def toF (a : Int) : F := Fin.ofNat 31 (a % 31).toNat

theorem toF_val (a : Int) : ((toF a).val : Int) = a % 31 := by
  have h1 : 0 ≤ a % 31 := by omega
  have h2 : a % 31 < 31 := by omega
  show (((a % 31).toNat % 31 : Nat) : Int) = a % 31
  omega

theorem toF_inj {a b : Int} (h : toF a = toF b) : a % 31 = b % 31 := by
  rw [← toF_val a, ← toF_val b, h]

theorem toF_eq {a b : Int} (h : a % 31 = b % 31) : toF a = toF b := by
  unfold toF; rw [h]

theorem toF_num {a b : Int} (ha : 0 ≤ a ∧ a ≤ 30) (hb : 0 ≤ b ∧ b ≤ 30) (h : toF a = toF b) : a = b := by
  have := toF_inj h
  omega

theorem toF_mod (a : Int) : toF (a % 31) = toF a := toF_eq (by omega)

theorem toF_add (a b : Int) : toF (a + b) = toF a + toF b := by
  apply Fin.ext
  have h1 := toF_val a
  have h2 := toF_val b
  have h3 := toF_val (a + b)
  rw [Fin.val_add]
  omega

theorem toF_mul (a b : Int) : toF (a * b) = toF a * toF b := by
  apply Fin.ext
  have h1 := toF_val a
  have h2 := toF_val b
  have h3 := toF_val (a * b)
  rw [Fin.val_mul]
  have h4 : (((toF a).val * (toF b).val % 31 : Nat) : Int) = a * b % 31 := by
    rw [Int.natCast_emod, Int.natCast_mul, h1, h2, Int.mul_emod a b 31]
    rfl
  omega

theorem toF_sub (a b : Int) : toF (a - b) = toF a - toF b := by
  have h := toF_add (a - b) b
  rw [show a - b + b = a by omega] at h
  grind

theorem toF_zero : toF 0 = 0 := by decide +kernel
theorem toF_one : toF 1 = 1 := by decide +kernel
theorem toF_p : toF 31 = 0 := by decide +kernel

/-- the product, over the first k places but number i, of t less that one by x i less that one -/
def lb (x : Nat → F) (i : Nat) (t : F) : Nat → F
  | 0 => 1
  | k + 1 => if k = i then lb x i t k else lb x i t k * ((t - x k) * inv (x i - x k))

theorem lb_deg (x : Nat → F) (i : Nat) (k : Nat) : Deg (if i < k then k else k + 1) (fun t => lb x i t k) := by
  induction k with
  | zero => exact ((Deg.const 1).congr fun t => by simp only [lb]).mono (by simp)
  | succ k ih =>
    by_cases h : k = i
    · subst h
      rw [if_pos (by omega)]
      rw [if_neg (by omega)] at ih
      exact ih.congr fun t => by simp [lb]
    · have h1 := (ih.mulLin (x k)).smul (inv (x i - x k))
      refine Deg.congr (h1.mono ?_) fun t => by simp only [lb, if_neg h]; grind
      by_cases h2 : i < k
      · rw [if_pos h2, if_pos (by omega)]; omega
      · rw [if_neg h2, if_neg (by omega)]; omega

theorem lb_other (x : Nat → F) (i j : Nat) (k : Nat) (hj : j < k) (hij : j ≠ i) : lb x i (x j) k = 0 := by
  induction k with
  | zero => omega
  | succ k ih =>
    simp only [lb]
    by_cases h : k = i
    · rw [if_pos h]; exact ih (by omega)
    · rw [if_neg h]
      by_cases h2 : j = k
      · subst h2; grind
      · rw [ih (by omega)]; grind

theorem lb_own (x : Nat → F) (n : Nat) (hx : Inj n x) (i : Nat) (hi : i < n) (k : Nat) (hk : k ≤ n) : lb x i (x i) k = 1 := by
  induction k with
  | zero => rfl
  | succ k ih =>
    simp only [lb]
    by_cases h : k = i
    · rw [if_pos h]; exact ih (by omega)
    · rw [if_neg h, ih (by omega)]
      have hne : x i - x k ≠ 0 := sub_ne (fun e => by have := hx i k hi (by omega) e; omega)
      have := inv_all _ hne
      grind

/-- the sum, over the first m points, of its y times that product over all n -/
def lag (x y : Nat → F) (n : Nat) (t : F) : Nat → F
  | 0 => 0
  | m + 1 => lag x y n t m + y m * lb x m t n

theorem lag_deg (x y : Nat → F) (n : Nat) (m : Nat) (hm : m ≤ n) : Deg n (fun t => lag x y n t m) := by
  induction m with
  | zero => exact (Deg.zero n).congr fun t => by simp only [lag]
  | succ m ih =>
    have h1 := lb_deg x m n
    rw [if_pos (by omega)] at h1
    exact ((ih (by omega)).add (h1.smul (y m))).congr fun t => by simp only [lag]

theorem lag_at_low (x y : Nat → F) (n : Nat) (hx : Inj n x) (j : Nat) (hj : j < n) (m : Nat) (hm : m ≤ j) : lag x y n (x j) m = 0 := by
  induction m with
  | zero => rfl
  | succ m ih =>
    simp only [lag]
    rw [ih (by omega), lb_other x m j n hj (by omega)]
    grind

theorem lag_at_high (x y : Nat → F) (n : Nat) (hx : Inj n x) (j : Nat) (hj : j < n) (m : Nat) (hm : j < m) : lag x y n (x j) m = y j := by
  induction m with
  | zero => omega
  | succ m ih =>
    simp only [lag]
    by_cases h : j = m
    · subst h
      rw [lag_at_low x y n hx j hj j (Nat.le_refl _), lb_own x n hx j hj n (Nat.le_refl _)]
      grind
    · rw [ih (by omega), lb_other x m j n hj h]
      grind

theorem lag_at (x y : Nat → F) (n : Nat) (hx : Inj n x) (j : Nat) (hj : j < n) : lag x y n (x j) n = y j := lag_at_high x y n hx j hj n hj

/-- the sum is the curve by differences -/
theorem lag_newt (x y : Nat → F) (n : Nat) (hx : Inj n x) (t : F) : lag x y n t n = newt x (fun i => dd x y i i) n t :=
  Deg.uniq (lag_deg x y n n (Nat.le_refl _)) (newt_deg x y n hx) hx (fun i hi => by rw [newt_at x y n hx i hi]; exact lag_at x y n hx i hi) t

end Go.Proofs.Ytfcpmpcfbhkacaa.CurveMath
