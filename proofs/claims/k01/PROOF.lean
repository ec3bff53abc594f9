import PyProof.Rows.All
import HandS.ForMost
import HandS.Gcd
import HandS.Wide
import HandS.Star
import HandS.Conv
import HandS.Strs
import HandS.Flow
import HandS.IsInst
import HandS.Codes
import HandS.Walk
import HandS.SortInts
import HandS.SetFor
import HandS.Defaults
import PyProof.ReprRoads
import PyProof.ReprLen
import PyProof.FitsInt
import PySem.Challenge.RW_silentbeats_k01_whole_numbers_and_quotie
import HandS.Style
import HandS.NoneIn
/-! Quotients in lowest terms, plainly. -/
namespace Qu
def gq (a b : Int) : Int := ((Nat.gcd a.natAbs b.natAbs : Nat) : Int)
def cut (a b : Int) : Int × Int := ((if 0 < b then a else -a) / gq a b, (b.natAbs : Int) / gq a b)
structure IsQ (q : Int × Int) : Prop where
  pos : 0 < q.2
  cop : Nat.gcd q.1.natAbs q.2.natAbs = 1
theorem gq_pos {a b : Int} (h : b ≠ 0) : 0 < gq a b := by
  unfold gq
  have := Nat.gcd_pos_of_pos_right a.natAbs (n := b.natAbs) (by omega)
  omega
theorem gq_l (a b : Int) : gq a b ∣ a := by
  unfold gq
  exact Int.gcd_dvd_left a b
theorem gq_r (a b : Int) : gq a b ∣ b := by
  unfold gq
  exact Int.gcd_dvd_right a b
theorem cut_1 {a b : Int} : (cut a b).1 * gq a b = if 0 < b then a else -a := by
  unfold cut
  refine Int.ediv_mul_cancel ?_
  split
  · exact gq_l a b
  · exact (Int.dvd_neg).mpr (gq_l a b)
theorem cut_2 {a b : Int} : (cut a b).2 * gq a b = (b.natAbs : Int) := by
  unfold cut
  refine Int.ediv_mul_cancel ?_
  exact Int.dvd_natAbs.mpr (gq_r a b)
theorem cut_pos {a b : Int} (h : b ≠ 0) : 0 < (cut a b).2 := by
  have h1 := cut_2 (a := a) (b := b)
  have h2 := gq_pos (a := a) h
  have h3 : 0 < (b.natAbs : Int) := by omega
  rw [← h1] at h3
  exact Int.pos_of_mul_pos_left h3 h2 |> fun z => z
theorem cut_isQ {a b : Int} (h : b ≠ 0) : IsQ (cut a b) := by
  refine ⟨cut_pos h, ?_⟩
  have hg := gq_pos (a := a) h
  have e1 : (cut a b).1.natAbs * (gq a b).natAbs = a.natAbs := by
    rw [← Int.natAbs_mul, cut_1]
    split
    · rfl
    · exact Int.natAbs_neg a
  have e2 : (cut a b).2.natAbs * (gq a b).natAbs = b.natAbs := by
    rw [← Int.natAbs_mul, cut_2, Int.natAbs_natCast]
  have e3 : (gq a b).natAbs = Nat.gcd a.natAbs b.natAbs := by
    unfold gq
    exact Int.natAbs_natCast _
  have e4 : Nat.gcd ((cut a b).1.natAbs * (gq a b).natAbs) ((cut a b).2.natAbs * (gq a b).natAbs) = (gq a b).natAbs := by rw [e1, e2, e3]
  rw [Nat.gcd_mul_right] at e4
  have e5 : 0 < (gq a b).natAbs := by omega
  exact Nat.eq_of_mul_eq_mul_right e5 (by rw [e4, Nat.one_mul])
theorem cut_eq {a b : Int} (h : b ≠ 0) : (cut a b).1 * b = a * (cut a b).2 := by
  have hg := gq_pos (a := a) h
  have e1 := cut_1 (a := a) (b := b)
  have e2 := cut_2 (a := a) (b := b)
  have hne : gq a b ≠ 0 := by omega
  apply Int.eq_of_mul_eq_mul_right hne
  by_cases hb : 0 < b
  · rw [if_pos hb] at e1
    have e3 : (b.natAbs : Int) = b := by omega
    rw [e3] at e2
    grind
  · rw [if_neg hb] at e1
    have e3 : (b.natAbs : Int) = -b := by omega
    rw [e3] at e2
    grind
theorem q_ext {p q : Int × Int} (hp : IsQ p) (hq : IsQ q) (h : p.1 * q.2 = q.1 * p.2) : p = q := by
  have hn : p.1.natAbs * q.2.natAbs = q.1.natAbs * p.2.natAbs := by rw [← Int.natAbs_mul, ← Int.natAbs_mul, h]
  have d1 : q.2.natAbs ∣ p.2.natAbs := by
    have : q.2.natAbs ∣ q.1.natAbs * p.2.natAbs := ⟨p.1.natAbs, by rw [← hn, Nat.mul_comm]⟩
    exact Nat.Coprime.dvd_of_dvd_mul_left (show Nat.Coprime q.2.natAbs q.1.natAbs by rw [Nat.coprime_comm]; exact hq.cop) this
  have d2 : p.2.natAbs ∣ q.2.natAbs := by
    have : p.2.natAbs ∣ p.1.natAbs * q.2.natAbs := ⟨q.1.natAbs, by rw [hn, Nat.mul_comm]⟩
    exact Nat.Coprime.dvd_of_dvd_mul_left (show Nat.Coprime p.2.natAbs p.1.natAbs by rw [Nat.coprime_comm]; exact hp.cop) this
  have e := Nat.dvd_antisymm d1 d2
  have h2 : p.2 = q.2 := by
    have := hp.pos
    have := hq.pos
    omega
  have h1 : p.1 = q.1 := by
    rw [h2] at h
    exact Int.eq_of_mul_eq_mul_right (by have := hq.pos; omega) h
  exact Prod.ext h1 h2
theorem cut_q {q : Int × Int} (hq : IsQ q) : cut q.1 q.2 = q := by
  have hne : q.2 ≠ 0 := by have := hq.pos; omega
  exact q_ext (cut_isQ hne) hq (cut_eq hne)
theorem cut_congr {a b c d : Int} (hb : b ≠ 0) (hd : d ≠ 0) (h : a * d = c * b) : cut a b = cut c d := by
  refine q_ext (cut_isQ hb) (cut_isQ hd) ?_
  have e1 := cut_eq (a := a) hb
  have e2 := cut_eq (a := c) hd
  have hbd : b * d ≠ 0 := Int.mul_ne_zero hb hd
  apply Int.eq_of_mul_eq_mul_right hbd
  grind
/-- where the cross products agree with a quotient's, it is that one -/
theorem cut_is {a b : Int} {q : Int × Int} (hb : b ≠ 0) (hq : IsQ q) (h : a * q.2 = q.1 * b) : cut a b = q := by
  have hne : q.2 ≠ 0 := by have := hq.pos; omega
  rw [cut_congr hb hne h, cut_q hq]
theorem cut_le1 {a b : Int} (h : b ≠ 0) : (cut a b).1.natAbs ≤ a.natAbs := by
  have hg := gq_pos (a := a) h
  have e1 : (cut a b).1.natAbs * (gq a b).natAbs = a.natAbs := by
    rw [← Int.natAbs_mul, cut_1]
    split
    · rfl
    · exact Int.natAbs_neg a
  rw [← e1]
  exact Nat.le_mul_of_pos_right _ (by omega)
theorem cut_le2 {a b : Int} (h : b ≠ 0) : (cut a b).2.natAbs ≤ b.natAbs := by
  have hg := gq_pos (a := a) h
  have e2 : (cut a b).2.natAbs * (gq a b).natAbs = b.natAbs := by
    rw [← Int.natAbs_mul, cut_2, Int.natAbs_natCast]
  rw [← e2]
  exact Nat.le_mul_of_pos_right _ (by omega)
theorem q01 : IsQ (0, 1) := ⟨by decide, by decide⟩
theorem q11 : IsQ (1, 1) := ⟨by decide, by decide⟩
theorem IsQ.ne {q : Int × Int} (h : IsQ q) : q.2 ≠ 0 := by have := h.pos; omega
def plusQ (r q : Int × Int) : Int × Int := cut (r.1 * q.2 + q.1 * r.2) (r.2 * q.2)
def prodQ (r q : Int × Int) : Int × Int := cut (r.1 * q.1) (r.2 * q.2)
def lessQ (r q : Int × Int) : Int × Int := cut (r.1 * q.2 - q.1 * r.2) (r.2 * q.2)
def overQ (r q : Int × Int) : Int × Int := cut (r.1 * q.2) (r.2 * q.1)
theorem plus_isQ {r q : Int × Int} (hr : IsQ r) (hq : IsQ q) : IsQ (plusQ r q) := cut_isQ (Int.mul_ne_zero hr.ne hq.ne)
theorem prod_isQ {r q : Int × Int} (hr : IsQ r) (hq : IsQ q) : IsQ (prodQ r q) := cut_isQ (Int.mul_ne_zero hr.ne hq.ne)
theorem less_isQ {r q : Int × Int} (hr : IsQ r) (hq : IsQ q) : IsQ (lessQ r q) := cut_isQ (Int.mul_ne_zero hr.ne hq.ne)
theorem over_isQ {r q : Int × Int} (hr : IsQ r) (hq : q.1 ≠ 0) : IsQ (overQ r q) := cut_isQ (Int.mul_ne_zero hr.ne hq)
theorem plus_0 {q : Int × Int} (hq : IsQ q) : plusQ (0, 1) q = q := cut_is (Int.mul_ne_zero (by decide) hq.ne) hq (by grind)
theorem prod_1 {q : Int × Int} (hq : IsQ q) : prodQ (1, 1) q = q := cut_is (Int.mul_ne_zero (by decide) hq.ne) hq (by grind)
theorem prod_cut {a b : Int} {q : Int × Int} (hb : b ≠ 0) (hq : IsQ q) : prodQ (cut a b) q = cut (a * q.1) (b * q.2) := by
  have h := cut_isQ (a := a) hb
  have e := cut_eq (a := a) hb
  refine cut_congr (Int.mul_ne_zero h.ne hq.ne) (Int.mul_ne_zero hb hq.ne) ?_
  grind
theorem less_minus {r q : Int × Int} : lessQ r q = plusQ r (-q.1, q.2) := by
  unfold lessQ plusQ
  congr 1
  grind
theorem less_back {r q : Int × Int} (hr : IsQ r) (hq : IsQ q) : plusQ (lessQ r q) q = r := by
  have h := less_isQ hr hq
  have hm := Int.mul_ne_zero hr.ne hq.ne
  have e : (lessQ r q).1 * (r.2 * q.2) = (r.1 * q.2 - q.1 * r.2) * (lessQ r q).2 := cut_eq hm
  refine cut_is (Int.mul_ne_zero h.ne hq.ne) hr ?_
  grind
theorem less_self {r : Int × Int} (hr : IsQ r) : lessQ r r = (0, 1) := cut_is (Int.mul_ne_zero hr.ne hr.ne) q01 (by grind)
theorem over_back {r q : Int × Int} (hr : IsQ r) (hq : IsQ q) (h0 : q.1 ≠ 0) : prodQ (overQ r q) q = r := by
  have h := over_isQ hr h0
  have hm := Int.mul_ne_zero hr.ne h0
  have e : (overQ r q).1 * (r.2 * q.1) = (r.1 * q.2) * (overQ r q).2 := cut_eq hm
  refine cut_is (Int.mul_ne_zero h.ne hq.ne) hr ?_
  grind
theorem over_self {r : Int × Int} (hr : IsQ r) (h0 : r.1 ≠ 0) : overQ r r = (1, 1) := cut_is (Int.mul_ne_zero hr.ne h0) q11 (by grind)
theorem prod5 {a b c d e : Int × Int} (ha : IsQ a) (hb : IsQ b) (hc : IsQ c) (hd : IsQ d) (he : IsQ e) :
    prodQ (prodQ (prodQ (prodQ (prodQ (1, 1) e) d) c) b) a = prodQ (prodQ (prodQ (prodQ (prodQ (1, 1) a) b) c) d) e := by
  have n1 : (1 : Int) ≠ 0 := by decide
  have s : ∀ {p : Int × Int}, IsQ p → prodQ (1, 1) p = cut p.1 p.2 := fun {p} hp => by rw [prod_1 hp, cut_q hp]
  rw [s he, s ha, prod_cut he.ne hd, prod_cut (Int.mul_ne_zero he.ne hd.ne) hc, prod_cut (Int.mul_ne_zero (Int.mul_ne_zero he.ne hd.ne) hc.ne) hb,
    prod_cut (Int.mul_ne_zero (Int.mul_ne_zero (Int.mul_ne_zero he.ne hd.ne) hc.ne) hb.ne) ha, prod_cut ha.ne hb, prod_cut (Int.mul_ne_zero ha.ne hb.ne) hc,
    prod_cut (Int.mul_ne_zero (Int.mul_ne_zero ha.ne hb.ne) hc.ne) hd, prod_cut (Int.mul_ne_zero (Int.mul_ne_zero (Int.mul_ne_zero ha.ne hb.ne) hc.ne) hd.ne) he]
  congr 1 <;> grind
/-- the program's way to it -/
theorem low_pos {a b : Int} (h : 0 < b) : cut a b = (a / gq a b, b / gq a b) := by
  unfold cut
  rw [if_pos h, show (b.natAbs : Int) = b by omega]
theorem low_neg {a b : Int} (h : b < 0) : cut a b = (a.fdiv (-gq a b), b.fdiv (-gq a b)) := by
  have hg := gq_pos (a := a) (b := b) (by omega)
  have e1 := cut_1 (a := a) (b := b)
  have e2 := cut_2 (a := a) (b := b)
  rw [if_neg (by omega)] at e1
  rw [show (b.natAbs : Int) = -b by omega] at e2
  refine Prod.ext ?_ ?_
  · exact (Int.fdiv_eq_of_eq_mul_left (by omega) (by grind)).symm
  · exact (Int.fdiv_eq_of_eq_mul_left (by omega) (by grind)).symm
end Qu

/-! Primes, divisors, parts, plainly. -/
namespace Nm
def Pr (p : Nat) : Prop := 2 ≤ p ∧ ∀ d, d ∣ p → d = 1 ∨ d = p
structure Least (n l : Nat) : Prop where
  two : 2 ≤ l
  dvd : l ∣ n
  least : ∀ d, 2 ≤ d → d ∣ n → l ≤ d
theorem Least.pr {n l : Nat} (h : Least n l) : Pr l := by
  refine ⟨h.two, fun d hd => ?_⟩
  by_cases h1 : 2 ≤ d
  · have a := h.least d h1 (Nat.dvd_trans hd h.dvd)
    have b := Nat.le_of_dvd (by have := h.two; omega) hd
    omega
  · have : d ≠ 0 := fun z => by
      subst z
      have := Nat.eq_zero_of_zero_dvd hd
      have := h.two
      omega
    omega
theorem Least.uniq {n l m : Nat} (h : Least n l) (h' : Least n m) : l = m :=
  Nat.le_antisymm (h.least m h'.two h'.dvd) (h'.least l h.two h.dvd)
theorem least_ex {n : Nat} (h : 2 ≤ n) : ∃ l, Least n l := by
  have key : ∀ k, (∃ d, 2 ≤ d ∧ d ≤ k ∧ d ∣ n) → ∃ l, Least n l := by
    intro k
    induction k with
    | zero => rintro ⟨d, h1, h2, _⟩; omega
    | succ k ih =>
      rintro ⟨d, h1, h2, h3⟩
      by_cases hk : ∃ d, 2 ≤ d ∧ d ≤ k ∧ d ∣ n
      · exact ih hk
      · refine ⟨d, h1, h3, fun e he1 he2 => ?_⟩
        by_cases hlt : d ≤ e
        · exact hlt
        · exact absurd ⟨e, he1, by omega, he2⟩ hk
  exact key n ⟨n, h, Nat.le_refl _, Nat.dvd_refl _⟩
/-- trial division that has found none below t, t squared above n -/
theorem least_self {n t : Nat} (hn : 2 ≤ n) (h : ∀ d, 2 ≤ d → d < t → ¬ d ∣ n) (ht : n < t * t) : Least n n := by
  refine ⟨hn, Nat.dvd_refl _, fun d h1 h2 => ?_⟩
  obtain ⟨e, he⟩ := h2
  by_cases hd : d < t
  · exact absurd ⟨e, he⟩ (h d h1 hd)
  · by_cases he1 : e = 1
    · subst he1
      omega
    · have he0 : e ≠ 0 := fun z => by subst z; omega
      have het : e < t := by
        refine Nat.lt_of_not_le fun z => ?_
        have := Nat.mul_le_mul (Nat.le_of_not_lt hd) z
        omega
      exact absurd ⟨d, by rw [he, Nat.mul_comm]⟩ (h e (by omega) het)
theorem least_at {n t : Nat} (ht : 2 ≤ t) (h : ∀ d, 2 ≤ d → d < t → ¬ d ∣ n) (hd : t ∣ n) : Least n t :=
  ⟨ht, hd, fun d h1 h2 => Nat.le_of_not_lt fun z => h d h1 z h2⟩

theorem Pr.pos {p : Nat} (h : Pr p) : 0 < p := by have := h.1; omega
theorem Pr.cop {p a : Nat} (h : Pr p) (ha : ¬ p ∣ a) : Nat.Coprime p a := by
  rcases h.2 _ (Nat.gcd_dvd_left p a) with e | e
  · exact e
  · exact absurd (e ▸ Nat.gcd_dvd_right p a) ha
theorem Pr.mul {p a b : Nat} (h : Pr p) (hd : p ∣ a * b) : p ∣ a ∨ p ∣ b := by
  by_cases ha : p ∣ a
  · exact .inl ha
  · exact .inr (Nat.Coprime.dvd_of_dvd_mul_left (h.cop ha) hd)
theorem Pr.not1 {p : Nat} (h : Pr p) : ¬ p ∣ 1 := fun z => by
  have := Nat.le_of_dvd (by decide) z
  have := h.1
  omega
theorem Pr.pow {p a : Nat} (h : Pr p) : ∀ {e : Nat}, p ∣ a ^ e → p ∣ a
  | 0, hd => absurd (by rw [Nat.pow_zero] at hd; exact hd) h.not1
  | e + 1, hd => by
    rw [Nat.pow_succ] at hd
    rcases h.mul hd with z | z
    · exact h.pow z
    · exact z
theorem Pr.eq {p q : Nat} (h : Pr p) (h' : Pr q) (hd : p ∣ q) : p = q := by
  rcases h'.2 p hd with e | e
  · have := h.1
    omega
  · exact e

def prodN (l : List Nat) : Nat := l.foldr (· * ·) 1
theorem prodN_cons (a : Nat) (l : List Nat) : prodN (a :: l) = a * prodN l := rfl
theorem prodN_append (l m : List Nat) : prodN (l ++ m) = prodN l * prodN m := by
  induction l with
  | nil => show prodN m = 1 * prodN m; rw [Nat.one_mul]
  | cons a l ih => rw [List.cons_append, prodN_cons, prodN_cons, ih, Nat.mul_assoc]
theorem Pr.prod {p : Nat} (h : Pr p) : ∀ {l : List Nat}, p ∣ prodN l → ∃ a ∈ l, p ∣ a
  | [], hd => absurd hd h.not1
  | a :: l, hd => by
    rcases h.mul hd with z | z
    · exact ⟨a, List.mem_cons_self, z⟩
    · obtain ⟨b, hb, hz⟩ := h.prod (l := l) z
      exact ⟨b, List.mem_cons_of_mem _ hb, hz⟩
theorem dvd_prod {a : Nat} : ∀ {l : List Nat}, a ∈ l → a ∣ prodN l
  | b :: l, h => by
    rcases List.mem_cons.mp h with e | h
    · subst e
      exact ⟨prodN l, rfl⟩
    · exact Nat.dvd_trans (dvd_prod h) ⟨b, by rw [prodN_cons, Nat.mul_comm]⟩
theorem prod_pos : ∀ {l : List Nat}, (∀ a ∈ l, 0 < a) → 0 < prodN l
  | [], _ => by decide
  | a :: l, h => Nat.mul_pos (h a List.mem_cons_self) (prod_pos fun b hb => h b (List.mem_cons_of_mem _ hb))

/-- the prime factors, ascending, each as often as it divides -/
structure Facs (n : Nat) (fs : List Nat) : Prop where
  pr : ∀ p ∈ fs, Pr p
  asc : fs.Pairwise (· ≤ ·)
  prod : prodN fs = n
theorem Facs.mem {n : Nat} {fs : List Nat} (h : Facs n fs) (p : Nat) : p ∈ fs ↔ Pr p ∧ p ∣ n := by
  constructor
  · intro hp
    exact ⟨h.pr p hp, h.prod ▸ dvd_prod hp⟩
  · rintro ⟨hp, hd⟩
    rw [← h.prod] at hd
    obtain ⟨a, ha, hz⟩ := hp.prod hd
    rw [hp.eq (h.pr a ha) hz]
    exact ha

/-- the primes with the greatest powers that divide -/
structure Parts (n : Nat) (ps : List (Nat × Nat)) : Prop where
  prod : prodN (ps.map (·.2)) = n
  asc : (ps.map (·.1)).Pairwise (· < ·)
  pw : ∀ x ∈ ps, Pr x.1 ∧ ∃ e, 1 ≤ e ∧ x.2 = x.1 ^ e
theorem Parts.mem {n : Nat} {ps : List (Nat × Nat)} (h : Parts n ps) (p : Nat) : p ∈ ps.map (·.1) ↔ Pr p ∧ p ∣ n := by
  constructor
  · intro hp
    obtain ⟨x, hx, rfl⟩ := List.mem_map.mp hp
    obtain ⟨h1, e, he, h2⟩ := h.pw x hx
    refine ⟨h1, ?_⟩
    rw [← h.prod]
    refine Nat.dvd_trans ?_ (dvd_prod (List.mem_map.mpr ⟨x, hx, rfl⟩))
    rw [h2]
    obtain ⟨k, rfl⟩ : ∃ k, e = k + 1 := ⟨e - 1, by omega⟩
    exact ⟨x.1 ^ k, by rw [Nat.pow_succ, Nat.mul_comm]⟩
  · rintro ⟨hp, hd⟩
    rw [← h.prod] at hd
    obtain ⟨a, ha, hz⟩ := hp.prod hd
    obtain ⟨x, hx, rfl⟩ := List.mem_map.mp ha
    obtain ⟨h1, e, he, h2⟩ := h.pw x hx
    rw [h2] at hz
    rw [hp.eq h1 (hp.pow hz)]
    exact List.mem_map.mpr ⟨x, hx, rfl⟩
/-- two strictly ascending lists with the same members are one -/
theorem asc_ext {α : Type} {r : α → α → Prop} (ir : ∀ a, ¬ r a a) (tr : ∀ a b c, r a b → r b c → r a c) : ∀ {l m : List α}, l.Pairwise r → m.Pairwise r → (∀ a, a ∈ l ↔ a ∈ m) → l = m
  | [], [], _, _, _ => rfl
  | [], b :: m, _, _, h => absurd ((h b).mpr List.mem_cons_self) List.not_mem_nil
  | a :: l, [], _, _, h => absurd ((h a).mp List.mem_cons_self) List.not_mem_nil
  | a :: l, b :: m, h1, h2, h => by
    obtain ⟨a1, a2⟩ := List.pairwise_cons.mp h1
    obtain ⟨b1, b2⟩ := List.pairwise_cons.mp h2
    have e : a = b := by
      rcases List.mem_cons.mp ((h a).mp List.mem_cons_self) with e | e
      · exact e
      · rcases List.mem_cons.mp ((h b).mpr List.mem_cons_self) with e' | e'
        · exact e'.symm
        · exact absurd (tr _ _ _ (b1 a e) (a1 b e')) (ir b)
    subst e
    have hm : ∀ c, c ∈ l ↔ c ∈ m := fun c => by
      constructor
      · intro hc
        rcases List.mem_cons.mp ((h c).mp (List.mem_cons_of_mem _ hc)) with z | z
        · subst z
          exact absurd (a1 c hc) (ir c)
        · exact z
      · intro hc
        rcases List.mem_cons.mp ((h c).mpr (List.mem_cons_of_mem _ hc)) with z | z
        · subst z
          exact absurd (b1 c hc) (ir c)
        · exact z
    rw [asc_ext ir tr a2 b2 hm]
theorem asc_nat {l m : List Nat} (h1 : l.Pairwise (· < ·)) (h2 : m.Pairwise (· < ·)) (h : ∀ a, a ∈ l ↔ a ∈ m) : l = m :=
  asc_ext (fun a => Nat.lt_irrefl a) (fun _ _ _ => Nat.lt_trans) h1 h2 h

/-- how often a prime goes into a number is one number -/
theorem val_uniq {p a b : Nat} (hp : Pr p) (ha : ¬ p ∣ a) (hb : ¬ p ∣ b) : ∀ {e c : Nat}, p ^ e * a = p ^ c * b → e = c
  | 0, 0, _ => rfl
  | 0, c + 1, h => by
    refine absurd ?_ ha
    rw [Nat.pow_zero, Nat.one_mul] at h
    exact ⟨p ^ c * b, by rw [h, Nat.pow_succ]; ac_rfl⟩
  | e + 1, 0, h => by
    refine absurd ?_ hb
    rw [Nat.pow_zero, Nat.one_mul] at h
    exact ⟨p ^ e * a, by rw [← h, Nat.pow_succ]; ac_rfl⟩
  | e + 1, c + 1, h => by
    refine congrArg (· + 1) (val_uniq hp ha hb ?_)
    refine Nat.eq_of_mul_eq_mul_left hp.pos ?_
    rw [Nat.pow_succ, Nat.pow_succ] at h
    calc p * (p ^ e * a) = p ^ e * p * a := by ac_rfl
      _ = p ^ c * p * b := h
      _ = p * (p ^ c * b) := by ac_rfl
theorem facs_split {p : Nat} (hp : Pr p) : ∀ {fs : List Nat}, (∀ q ∈ fs, Pr q) → ∃ b, ¬ p ∣ b ∧ prodN fs = p ^ (fs.count p) * b
  | [], _ => ⟨1, fun z => by
      have := Nat.le_of_dvd (by decide) z
      have := hp.1
      omega, rfl⟩
  | q :: fs, h => by
    obtain ⟨b, h1, h2⟩ := facs_split hp (fs := fs) fun r hr => h r (List.mem_cons_of_mem _ hr)
    by_cases e : q = p
    · subst e
      refine ⟨b, h1, ?_⟩
      rw [prodN_cons, h2, List.count_cons_self, Nat.pow_succ]
      ac_rfl
    · refine ⟨q * b, fun z => ?_, ?_⟩
      · rcases hp.mul z with z | z
        · exact e (hp.eq (h q List.mem_cons_self) z).symm
        · exact h1 z
      · rw [prodN_cons, h2, List.count_cons_of_ne e]
        ac_rfl
theorem parts_split {ps : List (Nat × Nat)} (hpw : ∀ x ∈ ps, Pr x.1 ∧ ∃ e, 1 ≤ e ∧ x.2 = x.1 ^ e) : ∀ {p : Nat}, Pr p → p ∉ ps.map (·.1) → ¬ p ∣ prodN (ps.map (·.2)) := by
  intro p hp hn hd
  obtain ⟨a, ha, hz⟩ := hp.prod hd
  obtain ⟨x, hx, rfl⟩ := List.mem_map.mp ha
  obtain ⟨h1, e, he, h2⟩ := hpw x hx
  rw [h2] at hz
  exact hn (List.mem_map.mpr ⟨x, hx, (hp.eq h1 (hp.pow hz)).symm⟩)
theorem parts_at {ps : List (Nat × Nat)} (hpw : ∀ x ∈ ps, Pr x.1 ∧ ∃ e, 1 ≤ e ∧ x.2 = x.1 ^ e) (hasc : (ps.map (·.1)).Pairwise (· < ·)) : ∀ x ∈ ps, ∃ b, ¬ x.1 ∣ b ∧ prodN (ps.map (·.2)) = x.2 * b := by
  induction ps with
  | nil => intro x hx; exact absurd hx List.not_mem_nil
  | cons y ps ih =>
    intro x hx
    obtain ⟨a1, a2⟩ := List.pairwise_cons.mp hasc
    have hpw' : ∀ x ∈ ps, Pr x.1 ∧ ∃ e, 1 ≤ e ∧ x.2 = x.1 ^ e := fun z hz => hpw z (List.mem_cons_of_mem _ hz)
    rcases List.mem_cons.mp hx with e | hx
    · subst e
      refine ⟨_, parts_split hpw' (hpw x List.mem_cons_self).1 fun z => ?_, rfl⟩
      exact absurd (a1 _ z) (Nat.lt_irrefl _)
    · obtain ⟨b, h1, h2⟩ := ih hpw' a2 x hx
      have hp := (hpw' x hx).1
      refine ⟨y.2 * b, fun z => ?_, ?_⟩
      · rcases hp.mul z with z | z
        · obtain ⟨h3, e, _, h4⟩ := hpw y List.mem_cons_self
          rw [h4] at z
          have e1 := hp.eq h3 (hp.pow z)
          have e2 : y.1 < x.1 := a1 x.1 (List.mem_map.mpr ⟨x, hx, rfl⟩)
          omega
        · exact h1 z
      · show y.2 * prodN (ps.map (·.2)) = _
        rw [h2]
        ac_rfl
/-- each part's power, from the factors -/
theorem Parts.power {n : Nat} {ps : List (Nat × Nat)} {fs : List Nat} (h : Parts n ps) (g : Facs n fs) : ∀ x ∈ ps, x.2 = x.1 ^ (fs.count x.1) := by
  intro x hx
  obtain ⟨h1, e, he, h2⟩ := h.pw x hx
  obtain ⟨b, hb1, hb2⟩ := parts_at h.pw h.asc x hx
  obtain ⟨c, hc1, hc2⟩ := facs_split h1 g.pr
  rw [h2]
  congr 1
  refine val_uniq h1 hb1 hc1 ?_
  rw [← h2, ← hb2, h.prod, ← hc2, g.prod]
theorem Parts.uniq {n : Nat} {ps qs : List (Nat × Nat)} (h : Parts n ps) (g : Parts n qs) : ps = qs := by
  have e1 : ps.map (·.1) = qs.map (·.1) := asc_nat h.asc g.asc fun a => (h.mem a).trans (g.mem a).symm
  have e2 : ∀ x ∈ ps, ∀ y ∈ qs, x.1 = y.1 → x.2 = y.2 := by
    intro x hx y hy e
    obtain ⟨h1, i, hi, h2⟩ := h.pw x hx
    obtain ⟨k1, j, hj, k2⟩ := g.pw y hy
    obtain ⟨b, hb1, hb2⟩ := parts_at h.pw h.asc x hx
    obtain ⟨c, hc1, hc2⟩ := parts_at g.pw g.asc y hy
    rw [h2, k2, ← e]
    congr 1
    refine val_uniq h1 hb1 (e ▸ hc1) ?_
    rw [← h2, ← hb2, h.prod, ← g.prod, hc2, k2, e]
  clear h g
  induction ps generalizing qs with
  | nil =>
    cases qs with
    | nil => rfl
    | cons y qs => cases e1
  | cons x ps ih =>
    cases qs with
    | nil => cases e1
    | cons y qs =>
      injection e1 with a1 a2
      have a3 := e2 x List.mem_cons_self y List.mem_cons_self a1
      rw [show x = y from Prod.ext a1 a3, ih a2 fun u hu v hv => e2 u (List.mem_cons_of_mem _ hu) v (List.mem_cons_of_mem _ hv)]

/-! ### totients -/
def totP (ps : List (Nat × Nat)) : Nat := ps.foldl (fun m x => m * (x.2 - x.2 / x.1)) 1
def totF (n : Nat) (l : List Nat) : Nat := l.foldl (fun m p => m / p * (p - 1)) n
theorem totP_go (ps : List (Nat × Nat)) (m : Nat) : ps.foldl (fun m x => m * (x.2 - x.2 / x.1)) m = m * totP ps := by
  unfold totP
  induction ps generalizing m with
  | nil => show m = m * 1; rw [Nat.mul_one]
  | cons x ps ih =>
    show ps.foldl _ (m * (x.2 - x.2 / x.1)) = m * ps.foldl _ (1 * (x.2 - x.2 / x.1))
    rw [ih, ih (1 * (x.2 - x.2 / x.1)), Nat.one_mul, Nat.mul_assoc]
theorem tot_go (ps : List (Nat × Nat)) (hpw : ∀ x ∈ ps, Pr x.1 ∧ ∃ e, 1 ≤ e ∧ x.2 = x.1 ^ e) (m : Nat) : totF (m * prodN (ps.map (·.2))) (ps.map (·.1)) = m * totP ps := by
  induction ps generalizing m with
  | nil => rfl
  | cons x ps ih =>
    obtain ⟨h1, e, he, h2⟩ := hpw x List.mem_cons_self
    have hp := h1.pos
    obtain ⟨k, rfl⟩ : ∃ k, e = k + 1 := ⟨e - 1, by omega⟩
    rw [Nat.pow_succ] at h2
    have e1 : x.2 / x.1 = x.1 ^ k := by rw [h2]; exact Nat.mul_div_cancel _ hp
    have e2 : x.2 - x.2 / x.1 = x.1 ^ k * (x.1 - 1) := by
      rw [e1, h2, Nat.mul_sub, Nat.mul_one]
    have e3 : m * (x.2 * prodN (ps.map (·.2))) / x.1 * (x.1 - 1) = m * (x.2 - x.2 / x.1) * prodN (ps.map (·.2)) := by
      have : m * (x.2 * prodN (ps.map (·.2))) = m * x.1 ^ k * prodN (ps.map (·.2)) * x.1 := by
        rw [h2]
        ac_rfl
      rw [this, Nat.mul_div_cancel _ hp, e2]
      ac_rfl
    have e4 : totP (x :: ps) = (x.2 - x.2 / x.1) * totP ps := by
      show ps.foldl _ (1 * (x.2 - x.2 / x.1)) = _
      rw [totP_go, Nat.one_mul]
    show totF (m * (x.2 * prodN (ps.map (·.2))) / x.1 * (x.1 - 1)) (ps.map (·.1)) = _
    rw [e3, ih (fun z hz => hpw z (List.mem_cons_of_mem _ hz)), e4, Nat.mul_assoc]
theorem Parts.tot {n : Nat} {ps : List (Nat × Nat)} (h : Parts n ps) : totF n (ps.map (·.1)) = totP ps := by
  have e := tot_go ps h.pw 1
  rw [Nat.one_mul, Nat.one_mul, h.prod] at e
  exact e

/-! ### divisors -/
theorem dvd_step {m p d : Nat} (hp : Pr p) (hm : 0 < m) : d ∣ m * p ↔ d ∣ m ∨ ∃ e, e ∣ m ∧ d = p * e := by
  constructor
  · intro h
    by_cases hd : p ∣ d
    · obtain ⟨e, rfl⟩ := hd
      refine .inr ⟨e, ?_, rfl⟩
      rw [Nat.mul_comm m p] at h
      exact Nat.dvd_of_mul_dvd_mul_left hp.pos h
    · refine .inl (Nat.Coprime.dvd_of_dvd_mul_left (show Nat.Coprime d p from ?_) (show d ∣ p * m by rw [Nat.mul_comm]; exact h))
      rw [Nat.coprime_comm]
      exact hp.cop hd
  · rintro (h | ⟨e, h, rfl⟩)
    · exact Nat.dvd_trans h ⟨p, rfl⟩
    · rw [Nat.mul_comm m p]
      exact Nat.mul_dvd_mul_left p h

/-! ### one prime, one part -/
theorem Facs.one {n l : Nat} {fs : List Nat} (g : Facs n fs) (h : Least n l) : (l = n ↔ fs.length = 1) := by
  constructor
  · intro e
    subst e
    have hp := h.pr
    match fs, g with
    | [], g =>
      have : (1 : Nat) = l := g.prod
      have := h.two
      omega
    | [a], _ => rfl
    | a :: b :: r, g =>
      have ha := g.pr a List.mem_cons_self
      have hb := g.pr b (List.mem_cons_of_mem _ List.mem_cons_self)
      have hd : a ∣ l := g.prod ▸ dvd_prod List.mem_cons_self
      have e := ha.eq hp hd
      have e2 : a * (b * prodN r) = l := g.prod
      have hr : 0 < prodN r := prod_pos fun c hc => (g.pr c (List.mem_cons_of_mem _ (List.mem_cons_of_mem _ hc))).pos
      have : 2 * 1 ≤ b * prodN r := Nat.mul_le_mul hb.1 hr
      have h3 : a * 2 ≤ a * (b * prodN r) := Nat.mul_le_mul_left a (by omega)
      have := ha.1
      omega
  · intro e
    match fs, g, e with
    | [a], g, _ =>
      have e1 : a * 1 = n := g.prod
      have ha := g.pr a List.mem_cons_self
      rw [Nat.mul_one] at e1
      subst e1
      exact (h.pr).eq ha h.dvd
theorem Parts.one {n : Nat} {ps : List (Nat × Nat)} {fs : List Nat} (h : Parts n ps) (g : Facs n fs) : (ps.length = 1 ↔ fs ≠ [] ∧ fs[0]? = fs[fs.length - 1]?) := by
  have hm : ∀ p, p ∈ ps.map (·.1) ↔ p ∈ fs := fun p => (h.mem p).trans (g.mem p).symm
  constructor
  · intro e
    match ps, e, hm with
    | [x], _, hm =>
      have all : ∀ p ∈ fs, p = x.1 := fun p hp => List.mem_singleton.mp ((hm p).mpr hp)
      have hx : x.1 ∈ fs := (hm x.1).mp List.mem_cons_self
      have hl : 0 < fs.length := List.length_pos_of_mem hx
      refine ⟨List.ne_nil_of_mem hx, ?_⟩
      rw [List.getElem?_eq_getElem hl, List.getElem?_eq_getElem (show fs.length - 1 < fs.length by omega), all _ (List.getElem_mem _), all _ (List.getElem_mem _)]
  · rintro ⟨hne, e⟩
    have hl : 0 < fs.length := List.length_pos_iff.mpr hne
    rw [List.getElem?_eq_getElem hl, List.getElem?_eq_getElem (show fs.length - 1 < fs.length by omega)] at e
    have e := Option.some.inj e
    have asc := List.pairwise_iff_getElem.mp g.asc
    have all : ∀ p ∈ fs, p = fs[0] := fun p hp => by
      obtain ⟨i, hi, rfl⟩ := List.mem_iff_getElem.mp hp
      have a : fs[0] ≤ fs[i] := by
        by_cases h0 : i = 0
        · subst h0; exact Nat.le_refl _
        · exact asc 0 i hl hi (by omega)
      have b : fs[i] ≤ fs[fs.length - 1] := by
        by_cases h0 : i = fs.length - 1
        · subst h0; exact Nat.le_refl _
        · exact asc i (fs.length - 1) hi (by omega) (by omega)
      omega
    have h1 : ps.map (·.1) = [fs[0]] := asc_nat h.asc (List.pairwise_singleton _ _) fun a => by
      rw [hm a, List.mem_singleton]
      constructor
      · exact all a
      · intro z
        rw [z]
        exact List.getElem_mem _
    have := congrArg List.length h1
    rw [List.length_map] at this
    exact this
theorem facs_one : Facs 1 [] := ⟨fun _ h => absurd h List.not_mem_nil, List.Pairwise.nil, rfl⟩
end Nm

/-! How many divisors there are at most. -/
namespace Nm
theorem asc_len : ∀ {l : List Nat} {a k : Nat}, l.Pairwise (· < ·) → (∀ x ∈ l, a < x ∧ x ≤ k) → l.length ≤ k - a
  | [], _, _, _, _ => Nat.zero_le _
  | x :: l, a, k, h, b => by
    obtain ⟨h1, h2⟩ := List.pairwise_cons.mp h
    obtain ⟨b1, b2⟩ := b x List.mem_cons_self
    have := asc_len (a := x) (k := k) h2 fun y hy => ⟨h1 y hy, (b y (List.mem_cons_of_mem _ hy)).2⟩
    rw [List.length_cons]
    omega
theorem split_len (l : List Nat) (p : Nat → Bool) : l.length = (l.filter p).length + (l.filter fun x => !p x).length := by
  induction l with
  | nil => rfl
  | cons x l ih =>
    cases h : p x with
    | true =>
      rw [List.filter_cons_of_pos h, List.filter_cons_of_neg (by rw [h]; decide), List.length_cons, List.length_cons, ih]
      omega
    | false =>
      rw [List.filter_cons_of_neg (by rw [h]; decide), List.filter_cons_of_pos (by rw [h]; decide), List.length_cons, List.length_cons, ih]
      omega
theorem dv_len {m : Nat} {l : List Nat} (hm : 1 ≤ m) (hm2 : m ≤ 10000) (h : l.Pairwise (· < ·)) (hd : ∀ d ∈ l, d ∣ m) : l.length ≤ 200 := by
  have e1 : (l.filter fun x => decide (x ≤ 100)).length ≤ 100 := by
    refine asc_len (a := 0) (k := 100) (h.filter _) fun x hx => ?_
    obtain ⟨q1, q2⟩ := List.mem_filter.mp hx
    exact ⟨Nat.pos_of_dvd_of_pos (hd x q1) hm, of_decide_eq_true q2⟩
  have e2 : (((l.filter fun x => !decide (x ≤ 100)).map fun d => m / d).reverse).length ≤ 100 := by
    refine asc_len (a := 0) (k := 100) ?_ fun y hy => ?_
    · rw [List.pairwise_reverse, List.pairwise_map]
      refine List.Pairwise.imp_of_mem ?_ (h.filter _)
      intro a b ha hb hab
      have da := hd a (List.mem_filter.mp ha).1
      have db := hd b (List.mem_filter.mp hb).1
      obtain ⟨x, hx⟩ := da
      obtain ⟨y, hy⟩ := db
      have pa : 0 < a := Nat.pos_of_dvd_of_pos ⟨x, hx⟩ hm
      have pb : 0 < b := Nat.pos_of_dvd_of_pos ⟨y, hy⟩ hm
      have ex : m / a = x := by rw [hx]; exact Nat.mul_div_cancel_left _ pa
      have ey : m / b = y := by rw [hy]; exact Nat.mul_div_cancel_left _ pb
      show m / b < m / a
      rw [ex, ey]
      refine Nat.lt_of_not_le fun z => ?_
      have y0 : 0 < y := by
        rcases Nat.eq_zero_or_pos y with q | q
        · rw [q, Nat.mul_zero] at hy
          omega
        · exact q
      have h1 : a * x ≤ a * y := Nat.mul_le_mul_left a z
      have h2 : a * y < b * y := Nat.mul_lt_mul_of_pos_right hab y0
      omega
    · rw [List.mem_reverse] at hy
      obtain ⟨d, hd', rfl⟩ := List.mem_map.mp hy
      obtain ⟨q1, q2⟩ := List.mem_filter.mp hd'
      have q3 : ¬ d ≤ 100 := by
        intro z
        rw [decide_eq_true z] at q2
        cases q2
      have hle := Nat.le_of_dvd hm (hd d q1)
      constructor
      · exact Nat.div_pos hle (by omega)
      · refine Nat.le_of_lt_succ (Nat.div_lt_of_lt_mul ?_)
        omega
  rw [List.length_reverse, List.length_map] at e2
  have e3 := split_len l fun x => decide (x ≤ 100)
  omega
end Nm

/-! Totients of small numbers by counting. -/
namespace Nm
def prB (p : Nat) : Bool := decide (2 ≤ p) && (List.range p).all fun d => decide (d < 2) || decide (p % d ≠ 0)
theorem prB_pr {p : Nat} (h : prB p = true) : Pr p := by
  unfold prB at h
  rw [Bool.and_eq_true, decide_eq_true_eq, List.all_eq_true] at h
  refine ⟨h.1, fun d hd => ?_⟩
  have hle := Nat.le_of_dvd (by omega) hd
  by_cases e : d = p
  · exact .inr e
  · have h2 := h.2 d (List.mem_range.mpr (by omega))
    rw [Bool.or_eq_true, decide_eq_true_eq, decide_eq_true_eq] at h2
    rcases h2 with z | z
    · have : d ≠ 0 := fun q => by
        subst q
        have := Nat.eq_zero_of_zero_dvd hd
        omega
      omega
    · exact absurd (Nat.mod_eq_zero_of_dvd hd) z
def val (p : Nat) : Nat → Nat → Nat
  | 0, _ => 0
  | f + 1, n => if n % p = 0 then val p f (n / p) + 1 else 0
def tf (n : Nat) : List (Nat × Nat) := (List.range (n + 1)).filterMap fun p => if decide (2 ≤ p) && decide (n % p = 0) && prB p then some (p, val p 8 n) else none
def pf (n : Nat) : List (Nat × Nat) := (tf n).map fun x => (x.1, x.1 ^ x.2)
def cnt (n : Nat) : Nat := (((List.range n).map (1 + ·)).filter fun k => decide (Nat.gcd k n = 1)).length
def ascB : List Nat → Bool
  | a :: b :: l => decide (a < b) && ascB (b :: l)
  | _ => true
theorem ascB_asc : ∀ {l : List Nat}, ascB l = true → l.Pairwise (· < ·)
  | [], _ => List.Pairwise.nil
  | [a], _ => List.pairwise_singleton _ _
  | a :: b :: l, h => by
    unfold ascB at h
    rw [Bool.and_eq_true, decide_eq_true_eq] at h
    have ih := ascB_asc (l := b :: l) h.2
    refine List.pairwise_cons.mpr ⟨fun c hc => ?_, ih⟩
    rcases List.mem_cons.mp hc with e | e
    · rw [e]; exact h.1
    · exact Nat.lt_trans h.1 ((List.pairwise_cons.mp ih).1 c e)
def chk (n : Nat) : Bool := decide (prodN ((pf n).map (·.2)) = n) && ascB ((pf n).map (·.1)) && ((tf n).all fun x => prB x.1 && decide (1 ≤ x.2)) && decide (totP (pf n) = cnt n)
theorem chk_all : ((List.range 150).all fun i => chk (i + 1)) = true := by decide +kernel
theorem tot_cnt {n : Nat} {ps : List (Nat × Nat)} (h1 : 1 ≤ n) (h2 : n ≤ 150) (h : Parts n ps) : totP ps = cnt n := by
  have e := List.all_eq_true.mp chk_all (n - 1) (List.mem_range.mpr (by omega))
  rw [show n - 1 + 1 = n by omega] at e
  unfold chk at e
  rw [Bool.and_eq_true, Bool.and_eq_true, Bool.and_eq_true, decide_eq_true_eq, decide_eq_true_eq, List.all_eq_true] at e
  obtain ⟨⟨⟨e1, e2⟩, e3⟩, e4⟩ := e
  have hp : Parts n (pf n) := by
    refine ⟨e1, ascB_asc e2, fun x hx => ?_⟩
    unfold pf at hx
    obtain ⟨y, hy, rfl⟩ := List.mem_map.mp hx
    have h3 := e3 y hy
    rw [Bool.and_eq_true, decide_eq_true_eq] at h3
    exact ⟨prB_pr h3.1, y.2, h3.2, rfl⟩
  rw [h.uniq hp]
  exact e4
end Nm

set_option Elab.async false
set_option linter.all false
set_option maxRecDepth 100000
/-! Defs that run where no repr is under way; repr of data. -/
namespace Gd
open PySem PySem.Spec PyProof.Rows L2

/-- a def's promise, given that no guard stands around the call -/
structure FnG (P : Program) (w : World) (K : PySem.W.Frag) (mg : Str → Option Value) (base : Heap) (k : Nat) (f : Addr) (fd : FuncData) (ps : List Str) (sp : Sp) : Prop where
  len : ∀ vs H Q E, sp vs H Q E → vs.length = ps.length
  go : ∀ {A : Around} {outer : List Env} {s : Shared} {H : Hp} {args : Args} {us : List Value} {vs : List V} {Q : VK} {E : XK},
    Room k A → A.guards = some [] → Env0 P w K mg base A outer s H → BindsTo s fd args (ps.zip us) → Vals vs us → sp vs H Q E →
    codeAny (model P w) A (.call (.ref f) args) (CR CX0 outer P w H s Q E) s

section
variable {P : Program} {w : World} {K : PySem.W.Frag} {mg : Str → Option Value} {base : Heap}

theorem FnG.of {k : Nat} {f : Addr} {fd : FuncData} {ps : List Str} {sp : Sp} (F : FnOk P w K mg base CX0 k f fd ps sp) : FnG P w K mg base k f fd ps sp :=
  ⟨F.len, fun hr _ e b v q => F.run _ _ _ _ _ _ _ _ _ hr e b v q⟩
theorem FnG.mono {j k : Nat} {f : Addr} {fd : FuncData} {ps : List Str} {sp : Sp} (F : FnG P w K mg base j f fd ps sp) (h : j ≤ k) : FnG P w K mg base k f fd ps sp :=
  ⟨F.len, fun hr g e b v q => F.go (hr.mono h) g e b v q⟩

/-- the rule for such a def, by its body -/
theorem okG {x qual : Str} {st : Stmt} {f : Addr} {fd : FuncData} {N ps : List Str} {k : Nat} {sp : Sp} (F : Fun K x qual st f fd) (S : FnScope N ps (defScope st))
    (len : ∀ vs H Q E, sp vs H Q E → vs.length = ps.length)
    (body : ∀ (cdv : Value) (A : Around) (outer : List Env) (s : Shared) (H : Hp) (vs : List V) (Q : VK) (E : XK),
      Room k (A.deeper (envOfC qual (defScope st) s.heap.objs.size f cdv)) → (A.deeper (envOfC qual (defScope st) s.heap.objs.size f cdv)).guards = some [] → sp vs H Q E →
      ∃ t, PSs (cxOf CX0 P w K mg base N qual (defScope st) f cdv A outer s H E).nox (defBody st) t ∧ t { nx := fun _ H' => Q .non H', rt := Q } (start N vs) H) :
    FnG P w K mg base (k + 1) f fd ps sp := by
  obtain ⟨oc, od, kV, doc, pm, an, cdv, ct, osl, rfl, lk, hcd⟩ := F.ex
  refine ⟨len, ?_⟩
  intro A outer s H args us vs Q E hr hg e0 hb r hsp
  have hlen := len _ _ _ _ hsp
  have keep : ∀ b o, base.get? b = some o → s.heap.get? b = some o := fun b o e => (e0.bs b o e).1
  have kin := e0.mod.kin.keeps keep
  have nolim := e0.mod.nolimit.keeps keep
  refine codeAny_call_function hr.depth (kin _ _ lk) rfl S.co S.gen rfl (PySem.W.codeRec_of kin hcd) (hb _ _ _ _ ?_)
  refine wpAny_newFunctionEnv_cells S.kind (fun y hy => ?kinds) (fun env he s1 x => ?run)
  case kinds =>
    have hp := List.of_mem_zip (a := y.1) (b := y.2) hy
    exact (S.par y.1 hp.1).imp id fun q => ⟨q, PySem.W.cellsFrom_some _ _ _ (.inl q)⟩
  case run =>
    cases he
    refine ⟨nolim.keeps x.toInCall.keep, codeAny_func ?_⟩
    obtain ⟨t, ht, hq⟩ := body cdv A outer s H vs Q E (hr.deeper _) hg hsp
    have I := inv_start (CX := CX0) (P := P) (w := w) (mg := mg) (E := E) S hr.hd e0 hlen r x
    have fin : ∀ {σ' : L2.St} {H' : Hp} {s' : Shared} {v : V} {u : Value}, Inv (cxOf CX0 P w K mg base N qual (defScope st) f cdv A outer s H E) [] σ' H' s' → RelV v u → Q v H' → CE outer P w H s Q u s' :=
      fun J rv q => ⟨_, _, J.os, J.bare, J.base, J.hok, rv, q⟩
    refine wpAny_mono (ht.nox.run [] s1 (start N vs) H _ I hq) (fun fl s' hs => ?_) (fun _ _ hs => hs)
    match fl, hs with
    | .ret u, ⟨_, _, _, J, rv, q⟩ => exact fin J rv q
    | .next, ⟨_, _, J, q⟩ => exact fin (v := V.non) (u := Value.none) J rfl q
    | .brk, ⟨_, _, _, q⟩ => exact q.elim
    | .cont, ⟨_, _, _, q⟩ => exact q.elim
end

section
variable {X : Cx} {k : Nat} {f : Addr} {fd : FuncData} {ps : List Str} {sp : Sp} {dvs : List V} {ds : List Value} {E : XK} {x : Str} {p pos : Pos} {e : Expr} {es : List Expr} {t : TA}

theorem runG {pins : List (Addr × Obj)} {σ : L2.St} {H : Hp} {s : Shared} {Q : VK} {us : List Value} {vs : List V} (F : FnG X.prog X.w X.K X.mg X.base k f fd ps sp) (hr : Room k X.A) (hG : X.A.guards = some []) (hb : Binds X.K fd ps [])
    (I : Inv X pins σ H s) (r : Vals vs us) (h : sp vs H Q E) : wpAny (model X.prog X.w) X.A (call (.ref f) us) (EP X pins σ Q) X.xe s := by
  have hl : (us ++ ([] : List Value)).length = ps.length := by
    rw [List.append_nil, ← r.length]
    exact F.len _ _ _ _ h
  have bt := hb s us I.kIn hl
  rw [List.append_nil] at bt
  refine wpAny_call (codeAny_mono (F.go hr hG I.env0 bt r h) fun res s' hq => ?_)
  match res, hq with
  | .ok (.ret _), hq => exact I.after hq
  | .ok .next, hq => exact hq.elim
  | .ok .brk, hq => exact hq.elim
  | .ok .cont, hq => exact hq.elim
  | .error _, hq => exact hq.elim

/-- f(e, ..) of such a def -/
theorem pe_callG (F : FnG X.prog X.w X.K X.mg X.base k f fd ps sp) (hr : Room k X.A) (hG : X.A.guards = some []) (hg : Gl X x) (hm : X.mg x = some (.ref f)) (hk : PySem.W.keepIn X.K (.ref f) = true) (hb : Binds X.K fd ps [])
    (ha : PA X (e :: es) t) (hdb : (x == ("__debug__" : Str)) = false := by decide) (he : starEach (e :: es) X.env = (false, eval e X.env) :: starEach es X.env := by rfl)
    (hpl : (backTo pos (starEach es X.env)).any (·.1) = false := by rfl) :
    PE X (.Call (.Name x p) (e :: es) [] pos) (fun σ H Q => t σ H fun vs H1 => sp vs H1 Q E0) := by
  constructor
  intro pins s σ H Q I h
  refine wpAny_Call_Name_kw (ld_glob I hg hm ?_ hdb)
  refine PySem.W.callWith_K (h₀ := X.base) I.ok.mod.kin hk ?_ he hpl
  refine thn (ha.run pos pins s σ H _ I h) ?_
  rintro us s1 ⟨vs, H1, I1, r, q⟩
  exact ⟨I1.kIn, runG F hr hG hb I1 r q⟩

/-- repr of data -/
def rRepr (K : PySem.W.Frag) : List V → Hp → VK → Prop := fun xs H Q => ∃ (a : Addr) (d : PyData), xs = [.ref a] ∧ Dp K H (.ref a) d ∧ d.showable = true ∧ d.hasDict = false ∧ d.depth ≤ 20 ∧ d.shown.length ≤ sizeLine ∧ Q (.str d.shown) H
theorem call_repr (hr : Room k X.A) (hG : X.A.guards = some []) : CallR X (.builtin "repr") (rRepr X.K) := by
  intro pins s σ H xs us Q I r h
  obtain ⟨a, d, rfl, hd, hs, hn, hdep, hz, q⟩ := h
  obtain ⟨u, rfl, ru⟩ := vals1 r
  cases ru
  obtain ⟨as, hrd⟩ := Dp.reads I d (.ref a) (.ref a) hd rfl
  refine repr_of_reads' hrd hs (PyData.noDict_hsm hn) hG ?_ (fun _ _ e => e) (fun h' u tk hk => ?_) hz
  · have := hr.units
    omega
  · exact ⟨.str d.shown, H, I.kept hk, ⟨u, rfl⟩, q⟩
end
end Gd

set_option Elab.async false
set_option linter.all false
set_option maxRecDepth 100000
namespace Gd
open PySem PySem.Spec PyProof.Rows L2

/-- the law's end from such a promise: what an abstract heap that tracks at most the script gives -/
theorem endG {P : Program} {w : World} {K : PySem.W.Frag} {mg mb : Str → Option Value} {k : Nat} {fa a : Addr} {fd : FuncData} {x : Str} {sp : Sp} {s1 : Shared} {vs : List Value} {H : Hp}
    (kin : K.In s1.heap) (glob : s1.heap.Ns mainGlobals mg) (bn : s1.heap.Ns builtinsNs mb) (bb : ∀ x : Str, x ≠ "__name__" → mb x = bootBuiltins x) (lim : s1.heap.NoLimit) (gens : s1.gens = #[])
    (hat : s1.heap.get? a = some { cls := .type "list", data := .seq vs.toArray }) (hr : Room k callerA)
    (F : ∀ base : Heap, K.In base → base.Ns mainGlobals mg → FnG P w K mg base k fa fd [x] sp) (bind : ∀ (s : Shared) (u : Value), BindsTo s fd ⟨[u], []⟩ [(x, u)])
    (sps : sp [.ref a] H (fun v _ => v = .bl true) fun _ _ _ => False) (only : Only H) (ok : HOk P w H s1.heap) (isA : ∀ b, H b ≠ none → b = a) (noK : H a ≠ none → K.lookup a = none) :
    codeAny (model P w) callerA (.call (.ref fa) ⟨[.ref a], []⟩) (fun r s' => r = .ok (.ret (.bool true)) ∧ OldK s1.heap s'.heap ∧ s'.os = s1.os ∧ AllBare s'.gens) s1 := by
  have none_of : ∀ {b : Addr}, b ≠ a → H b = none := fun {b} hb => by
    cases q : H b with
    | none => rfl
    | some u => exact absurd (isA b (by rw [q]; exact Option.some_ne_none u)) hb
  have none_dict : ∀ {b : Addr} {o : Obj} {es : Array DictEntry} {n : Nat}, s1.heap.get? b = some o → o.data = .dict es n → H b = none := by
    intro b o es n e d
    refine none_of fun z => ?_
    subst z
    cases hat.symm.trans e
    cases d
  have ns_of : ∀ {b : Addr} {m : Str → Option Value}, s1.heap.Ns b m → (hidT s1.heap H).Ns b m := by
    rintro b m ⟨o, es, n, e, d, more⟩
    exact ⟨o, es, n, hidT_get e (none_dict e d), d, more⟩
  have kinB : K.In (hidT s1.heap H) := by
    intro b o e
    refine hidT_get (kin b o e) ?_
    by_cases hb : b = a
    · subst hb
      cases q : H b with
      | none => rfl
      | some u =>
        have z := noK (by rw [q]; exact Option.some_ne_none u)
        rw [z] at e
        cases e
    · exact none_of hb
  have md : Mod K mg (hidT s1.heap H) := ⟨kinB, ns_of glob, ⟨mb, ns_of bn, bb⟩, let ⟨mc, c1, c2⟩ := lim; ⟨mc, ns_of c1, c2⟩⟩
  have e0 : Env0 P w K mg (hidT s1.heap H) callerA [] s1 H :=
    { frames := rfl, mod := md, bs := fun b o e => of_hidT e, bsz := Nat.le_of_eq (hidT_size _ _), funs := trivial, frf := fun _ z => (List.not_mem_nil z).elim, hok := ok, bare := .of_eq gens }
  refine codeAny_mono ((F _ kinB (ns_of glob)).go (us := [.ref a]) (vs := [.ref a]) hr rfl e0 (bind s1 (.ref a)) (.cons rfl .nil) sps) fun r s' h => ?_
  match r, h with
  | .error _, h => exact h.elim
  | .ok .next, h => exact h.elim
  | .ok .brk, h => exact h.elim
  | .ok .cont, h => exact h.elim
  | .ok (.ret u), ⟨v, H', os, bare, un, ok', rv, (hv : v = .bl true)⟩ =>
    subst hv
    obtain rfl : u = Value.bool true := rv
    refine ⟨rfl, OldK.of_keep fun b o e => ?_, os, bare⟩
    rcases only b with z | ⟨ob, xs, z⟩
    · exact un.keep b o e z List.not_mem_nil List.not_mem_nil
    · have e1 := (ok b _ z).1
      have e2 := (ok' b _ (un.frzs b ob _ z)).1
      exact e2.trans (e1.symm.trans e)

theorem walkG {l : PySem.W.OpenLaw} {n k : Nat} {q : Program} {loose : List Str} {XP : (Str → Option Value) → Heap → Prop} {YP : World → Heap → Prop} {d : DefRec} {K : Params → PySem.W.Frag} {sp : PySem.W.Frag → Sp} {x : Str}
    (hn : l.most = some n) (hn2 : n ≤ sizeLine) (hdf : d.params.defaults = []) (hr : Room k callerA)
    (hY : ∀ (w : World) (h : Heap), YP w h → (K w.params).In h)
    (F : ∀ (w : World) (mg : Str → Option Value) (fa : Addr) (h : Heap), (K w.params).In h → h.Ns mainGlobals mg → mg d.name = some (.ref fa) →
      ∃ fd : FuncData, (∀ (s : Shared) (u : Value), BindsTo s fd ⟨[u], []⟩ [(x, u)]) ∧
        ∀ base : Heap, (K w.params).In base → base.Ns mainGlobals mg → FnG l.prog w (K w.params) mg base k fa fd [x] (sp (K w.params)))
    (hsp : ∀ (K : PySem.W.Frag) (H : Hp) (a : Addr) (ns : List Int), ns.length ≤ n → Only H → SqL K H a (ns.map V.int) → sp K [.ref a] H (fun v _ => v = .bl true) fun _ _ _ => False) :
    PySem.W.WalkO q loose XP YP l.row.toRowW d [] (fun f vs => PySem.call f vs) := by
  refine Att.attach_call hn hdf fun w s0 s1 mg mb fa o pm cd doc a vs ns G Y ho hd hcd hmg hobj hints hlen hg => ?_
  have kin := hY w _ Y
  obtain ⟨fd, hb, hF⟩ := F w mg fa _ kin G.T.g hmg
  have rv := vals_ints hints
  have hz : ns.length ≤ sizeLine := Nat.le_trans hlen hn2
  cases hk : (K w.params).lookup a with
  | some ob =>
    have e := (kin a ob hk).symm.trans hobj
    cases e
    refine endG (H := fun _ => none) kin G.T.g G.T.b G.T.builtins G.T.nolimit hg hobj hr hF hb (hsp _ _ a ns hlen (fun _ => .inl rfl) (.inr ⟨_, vs.toArray, _, hk, rfl, rfl, rfl, ?_, rv⟩)) (fun _ => .inl rfl) (fun b u z => nomatch z) (fun b z => (z rfl).elim) (fun z => (z rfl).elim)
    rw [List.size_toArray, hints.length]
    exact hz
  | none =>
    have at_a : ∀ b, b = a → (if b = a then some (HO.frz { cls := .type "list", data := .seq vs.toArray } (.lst (ns.map V.int))) else none) = some (HO.frz { cls := .type "list", data := .seq vs.toArray } (.lst (ns.map V.int))) := fun b hb => if_pos hb
    refine endG (H := fun b => if b = a then some (.frz { cls := .type "list", data := .seq vs.toArray } (.lst (ns.map V.int))) else none) kin G.T.g G.T.b G.T.builtins G.T.nolimit hg hobj hr hF hb
      (hsp _ _ a ns hlen ?only (.inl (.inr ⟨_, if_pos rfl⟩))) ?only (fun b u z => ?_) (fun b z => ?_) (fun _ => hk)
    case only =>
      intro b
      by_cases hb : b = a
      · exact .inr ⟨_, _, if_pos hb⟩
      · exact .inl (if_neg hb)
    · by_cases hb : b = a
      · subst hb
        cases (if_pos rfl).symm.trans z
        refine ⟨hobj, ?_, vs, _, rv, hobj⟩
        rw [List.length_map]
        exact hz
      · cases (if_neg hb).symm.trans z
    · exact Classical.byContradiction fun hb => z (if_neg hb)
end Gd

set_option Elab.async false
set_option linter.all false
set_option maxRecDepth 100000
/-! What a name of the module promises, without guards (Cal) and where no repr is under way (CalG). -/
namespace Gd
open PySem PySem.Spec PyProof.Rows L2

structure Cal (P : Program) (w : World) (K : PySem.W.Frag) (mg : Str → Option Value) (base : Heap) (k : Nat) (x : Str) (sp : Sp) : Prop where
  ex : ∃ f, mg x = some (.ref f) ∧ PySem.W.keepIn K (.ref f) = true ∧ FnR P w K mg base CX0 k f sp
structure CalG (P : Program) (w : World) (K : PySem.W.Frag) (mg : Str → Option Value) (base : Heap) (k : Nat) (x : Str) (ps : List Str) (sp : Sp) : Prop where
  ex : ∃ f fd, mg x = some (.ref f) ∧ PySem.W.keepIn K (.ref f) = true ∧ Binds K fd ps [] ∧ FnG P w K mg base k f fd ps sp

section
variable {P : Program} {w : World} {K : PySem.W.Frag} {mg : Str → Option Value} {base : Heap}
/-- a def of the text as the name x holds it -/
structure At (K : PySem.W.Frag) (mg : Str → Option Value) (x : String) (st : Stmt) (ps : List Str) : Prop where
  ex : ∃ f fd, mg x = some (.ref f) ∧ Fun K x x st f fd ∧ Binds K fd ps []

theorem okC {x : String} {st : Stmt} {N ps : List Str} {k : Nat} {sp : Sp} (D : At K mg x st ps) (S : FnScope N ps (defScope st)) (len : ∀ vs H Q E, sp vs H Q E → vs.length = ps.length)
    (body : ∀ (f : Addr) (cdv : Value) (A : Around) (outer : List Env) (s : Shared) (H : Hp) (vs : List V) (Q : VK) (E : XK), Room k (A.deeper (envOfC x (defScope st) s.heap.objs.size f cdv)) → sp vs H Q E →
      ∃ t, PSs (cxOf CX0 P w K mg base N x (defScope st) f cdv A outer s H E).nox (defBody st) t ∧ t { nx := fun _ H' => Q .non H', rt := Q } (start N vs) H) : Cal P w K mg base (k + 1) x sp := by
  obtain ⟨f, fd, hm, F, hb⟩ := D.ex
  have G : FnOk P w K mg base CX0 (k + 1) f fd ps sp := F.ok S len (fun cdv A outer s H vs Q E hr h => body f cdv A outer s H vs Q E hr h)
  refine ⟨f, hm, F.kp, fun A outer s H us vs Q E hr e0 r h => ?_⟩
  have kin : K.In s.heap := e0.mod.kin.keeps fun b o e => (e0.bs b o e).1
  have hl : (us ++ ([] : List Value)).length = ps.length := by
    rw [List.append_nil, ← r.length]
    exact len _ _ _ _ h
  have bt := hb s us kin hl
  rw [List.append_nil] at bt
  exact G.run A outer s H _ us vs Q E hr e0 bt r h

theorem okCG {x : String} {st : Stmt} {N ps : List Str} {k : Nat} {sp : Sp} (D : At K mg x st ps) (S : FnScope N ps (defScope st)) (len : ∀ vs H Q E, sp vs H Q E → vs.length = ps.length)
    (body : ∀ (f : Addr) (cdv : Value) (A : Around) (outer : List Env) (s : Shared) (H : Hp) (vs : List V) (Q : VK) (E : XK), Room k (A.deeper (envOfC x (defScope st) s.heap.objs.size f cdv)) →
      (A.deeper (envOfC x (defScope st) s.heap.objs.size f cdv)).guards = some [] → sp vs H Q E →
      ∃ t, PSs (cxOf CX0 P w K mg base N x (defScope st) f cdv A outer s H E).nox (defBody st) t ∧ t { nx := fun _ H' => Q .non H', rt := Q } (start N vs) H) : CalG P w K mg base (k + 1) x ps sp := by
  obtain ⟨f, fd, hm, F, hb⟩ := D.ex
  exact ⟨f, fd, hm, F.kp, hb, okG F S len fun cdv A outer s H vs Q E hr hg h => body f cdv A outer s H vs Q E hr hg h⟩
end

section
variable {X : Cx} {j k : Nat} {ps : List Str} {sp : Sp} {x : Str} {p pos : Pos} {e : Expr} {es : List Expr} {t : TA}
theorem runC {pins : List (Addr × Obj)} {σ : L2.St} {H : Hp} {s : Shared} {Q : VK} {us : List Value} {vs : List V} {f : Addr} (F : FnR X.prog X.w X.K X.mg X.base CX0 k f sp) (hr : Room k X.A)
    (I : Inv X pins σ H s) (r : Vals vs us) (h : sp vs H Q E0) : wpAny (model X.prog X.w) X.A (call (.ref f) us) (EP X pins σ Q) X.xe s := by
  refine wpAny_call (codeAny_mono (F X.A X.stack s H us vs Q E0 hr I.env0 r h) fun res s' hq => ?_)
  match res, hq with
  | .ok (.ret _), hq => exact I.after hq
  | .ok .next, hq => exact hq.elim
  | .ok .brk, hq => exact hq.elim
  | .ok .cont, hq => exact hq.elim
  | .error _, hq => exact hq.elim
def tCal (sp : Sp) (t : TA) : TE := fun σ H Q => t σ H fun vs H1 => sp vs H1 Q E0
theorem pe_k (c : Cal X.prog X.w X.K X.mg X.base k x sp) (hr : Room j X.A) (hk : k ≤ j) (hg : Gl X x) (ha : PA X (e :: es) t) (hdb : (x == ("__debug__" : Str)) = false := by decide)
    (he : starEach (e :: es) X.env = (false, eval e X.env) :: starEach es X.env := by rfl) (hpl : (backTo pos (starEach es X.env)).any (·.1) = false := by rfl) :
    PE X (.Call (.Name x p) (e :: es) [] pos) (tCal sp t) := by
  obtain ⟨f, hm, hkp, F⟩ := c.ex
  constructor
  intro pins s σ H Q I h
  refine wpAny_Call_Name_kw (ld_glob I hg hm ?_ hdb)
  refine PySem.W.callWith_K (h₀ := X.base) I.ok.mod.kin hkp ?_ he hpl
  refine thn (ha.run pos pins s σ H _ I h) ?_
  rintro us s1 ⟨vs, H1, I1, r, q⟩
  exact ⟨I1.kIn, runC F (hr.mono hk) I1 r q⟩
theorem pe_k0 (c : Cal X.prog X.w X.K X.mg X.base k x sp) (hr : Room j X.A) (hk : k ≤ j) (hg : Gl X x) (hdb : (x == ("__debug__" : Str)) = false := by decide) :
    PE X (.Call (.Name x p) [] [] pos) (tCal sp tNil) := by
  obtain ⟨f, hm, hkp, F⟩ := c.ex
  constructor
  intro pins s σ H Q I h
  refine wpAny_Call_Name_kw (ld_glob I hg hm ?_ hdb)
  exact PySem.W.callWith_K0 I.kIn hkp (runC (us := []) F (hr.mono hk) I .nil h)
theorem pe_kG (c : CalG X.prog X.w X.K X.mg X.base k x ps sp) (hr : Room j X.A) (hG : X.A.guards = some []) (hk : k ≤ j) (hg : Gl X x) (ha : PA X (e :: es) t) (hdb : (x == ("__debug__" : Str)) = false := by decide)
    (he : starEach (e :: es) X.env = (false, eval e X.env) :: starEach es X.env := by rfl) (hpl : (backTo pos (starEach es X.env)).any (·.1) = false := by rfl) :
    PE X (.Call (.Name x p) (e :: es) [] pos) (tCal sp t) := by
  obtain ⟨f, fd, hm, hkp, hb, F⟩ := c.ex
  exact pe_callG F (hr.mono hk) hG hg hm hkp hb ha hdb he hpl
end

/-! ### heaps -/
/-- all that was tracked, but for what stands at d, is as it was -/
def Kp (d : Addr) (H H' : Hp) : Prop := ∀ b o, b ≠ d → H b = some o → H' b = some o
theorem Kp.refl (d : Addr) (H : Hp) : Kp d H H := fun _ _ _ h => h
theorem Kp.trans {d : Addr} {H H1 H2 : Hp} (a : Kp d H H1) (b : Kp d H1 H2) : Kp d H H2 := fun c o n h => b c o n (a c o n h)
theorem _root_.L2.Same.kp {d : Addr} {H H' : Hp} (a : Same H H') : Kp d H H' := fun b o _ h => a b o h
theorem Kp.upd_d {d : Addr} {H : Hp} {o : HO} : Kp d H (upd H d o) := fun b u n h => by
  rw [upd_ne n]
  exact h
theorem same_new {H : Hp} {p : Addr} {o : HO} (h : H p = none) : Same H (upd H p o) := fun b u e => by
  rw [upd_ne (ne_of_none e h)]
  exact e
/-- behind new objects and a store to one of them -/
theorem same_own {H H1 : Hp} {p : Addr} {o : HO} (a : Same H H1) (h : H p = none) : Same H (upd H1 p o) := fun b u e => by
  rw [upd_ne (ne_of_none e h)]
  exact a b u e
end Gd

set_option Elab.async false
set_option linter.all false
set_option maxRecDepth 100000
namespace Gd
open PySem PySem.Spec PyProof.Rows L2
/-- a comprehension that makes no change to what was there: what it makes of each item, or that it leaves it out -/
theorem lcF {J : It} {xs : List V} {G : Hp → Prop} (w : Walk J xs.length G (YAt xs)) {g : TG} {tt : TT} {te : TE} {vs : List Nat} {σ : L2.St} {H1 : Hp} {D : Addr} {Qd : Hp → Prop} (f : V → Option V)
    (hD : H1 D = none) (hz : xs.length < sizeLine) (hG : ∀ H', Same H1 H' → G H')
    (hs : ∀ (x : V) (H' : Hp) (R : V → Hp → Prop) (S : Hp → Prop), x ∈ xs → Same H1 H' → (∀ y, f x = some y → ∀ H4, Same H' H4 → R y H4) → (f x = none → ∀ H3, Same H' H3 → S H3) →
      g x (wipe σ vs) H' fun σ2 H2 => wipe σ2 vs = wipe σ vs ∧ tt σ2 H2 fun b H3 => if b = true then te σ2 H3 R else S H3)
    (hd : ∀ H', Same H1 H' → H' D = some (.lst (xs.filterMap f)) → Qd H') :
    ∃ W : Nat → Nat → Hp → Prop, (∃ m, W 0 m (upd H1 D (.lst []))) ∧ ∀ i m H, W i m H →
      (J.stop i H ∧ Qd H) ∨ (J.go i H ∧ ∃ Nx : Hp → Prop, (∀ H', Nx H' → ∃ m', m' < m ∧ W (i + 1) m' H') ∧ ∀ x H', J.yld i H x H' → g x (wipe σ vs) H' fun σ2 H2 => wipe σ2 vs = wipe σ vs ∧ tt σ2 H2 fun b H3 =>
        if b = true then te σ2 H3 fun y H4 => ∃ acc, H4 D = some (.lst acc) ∧ acc.length < sizeLine ∧ Nx (upd H4 D (.lst (acc ++ [y]))) else Nx H3) := by
  have step : ∀ i x, xs[i]? = some x → (xs.take (i + 1)).filterMap f = (xs.take i).filterMap f ++ (f x).toList := by
    intro i x hx
    rw [List.take_add_one, List.filterMap_append, hx]
    show _ ++ List.filterMap f [x] = _
    cases e : f x with
    | none => rw [List.filterMap_cons_none e]; rfl
    | some y => rw [List.filterMap_cons_some e]; rfl
  refine lc_it w (fun i H => Same H1 H ∧ H D = some (.lst ((xs.take i).filterMap f))) ⟨same_new hD, upd_same⟩ (fun i H _ p => hG H p.1) ?_ ?_
  · rintro i x H H' hi ⟨sm, hd'⟩ ⟨rfl, hx⟩
    refine hs x _ _ _ (List.mem_of_getElem? hx) sm (fun y hy H4 s4 => ?_) (fun hn H3 s3 => ?_)
    · refine ⟨_, s4 _ _ hd', ?_, same_own (sm.trans s4) hD, ?_⟩
      · have a1 := List.length_filterMap_le f (xs.take i)
        have a2 := List.length_take_le i xs
        rw [List.length_take] at a1
        omega
      · rw [upd_same, step i x hx, hy]
        rfl
    · refine ⟨sm.trans s3, ?_⟩
      rw [s3 _ _ hd', step i x hx, hn, Option.toList, List.append_nil]
  · rintro H ⟨sm, h⟩
    rw [List.take_length] at h
    exact hd H sm h
/-- the same without a test, what it makes of each item being said -/
theorem lcM {J : It} {xs : List V} {G : Hp → Prop} (w : Walk J xs.length G (YAt xs)) {g : TG} {te : TE} {vs : List Nat} {σ : L2.St} {H1 : Hp} {D : Addr} {Qd : Hp → Prop} (f : V → V)
    (hD : H1 D = none) (hz : xs.length < sizeLine) (hG : ∀ H', Same H1 H' → G H')
    (hs : ∀ (x : V) (H' : Hp) (R : V → Hp → Prop), x ∈ xs → Same H1 H' → (∀ H4, Same H' H4 → R (f x) H4) → g x (wipe σ vs) H' fun σ2 H2 => wipe σ2 vs = wipe σ vs ∧ te σ2 H2 R)
    (hd : ∀ H', Same H1 H' → H' D = some (.lst (xs.map f)) → Qd H') :
    ∃ W : Nat → Nat → Hp → Prop, (∃ m, W 0 m (upd H1 D (.lst []))) ∧ ∀ i m H, W i m H →
      (J.stop i H ∧ Qd H) ∨ (J.go i H ∧ ∃ Nx : Hp → Prop, (∀ H', Nx H' → ∃ m', m' < m ∧ W (i + 1) m' H') ∧ ∀ x H', J.yld i H x H' → g x (wipe σ vs) H' fun σ2 H2 => wipe σ2 vs = wipe σ vs ∧ tYes σ2 H2 fun b H3 =>
        if b = true then te σ2 H3 fun y H4 => ∃ acc, H4 D = some (.lst acc) ∧ acc.length < sizeLine ∧ Nx (upd H4 D (.lst (acc ++ [y]))) else Nx H3) := by
  refine lcF w (fun x => some (f x)) hD hz hG (fun x H' R S hx sm h1 _ => ?_) (fun H' sm h => hd H' sm ?_)
  · exact hs x H' R hx sm (h1 (f x) rfl)
  · rw [h, ← List.filterMap_eq_map]
    rfl
/-- a range as a walk over what it gives -/
def rgG (lo : Int) (n : Nat) : List V := (List.range n).map fun i => V.int (lo + (i : Nat))
theorem rgG_len (lo : Int) (n : Nat) : (rgG lo n).length = n := by
  unfold rgG
  rw [List.length_map, List.length_range]
theorem walk_rg {lo : Int} {n : Nat} : Walk (Itr lo n) (rgG lo n).length (fun _ => True) (YAt (rgG lo n)) := by
  rw [rgG_len]
  refine walk_range.mono (fun _ h => h) (fun i H x H' hi _ y => ⟨y.1, ?_⟩)
  unfold rgG
  rw [List.getElem?_map, List.getElem?_range hi, y.2]
  rfl
end Gd

set_option Elab.async false
set_option linter.all false
set_option maxRecDepth 100000
/-! set(a list of ints), sorted(a set of ints) of any size. -/
namespace Gd
open PySem PySem.Spec PyProof.Rows L2
section
variable {P : Program} {w : World} {A : Around} {E : Value → Shared → Prop} {s : Shared}
theorem sortedSetN {a : Addr} {S : Int → Bool} {m : Nat} {Q : Value → Shared → Prop} (R : SetR w s.heap a S m) (hh : A.handled = none) (hm : m ≤ sizeLine)
    (hQ : ∀ (s' : Shared) (p : Addr) (zs : Array Value) (c : Nat) (ks : List Int), (∀ b o, s.heap.get? b = some o → s'.heap.get? b = some o) → s'.gens = s.gens ∧ s'.os = s.os → s.heap.objs.size ≤ p →
      s'.heap.get? p = some (seqObj "list" zs c) → IntsAre zs.toList ks → ks.Pairwise (· < ·) → (∀ k, k ∈ ks ↔ S k = true) → ks.length = m → Q (.ref p) s') :
    wpAny (model P w) A (call (.builtin "sorted") [.ref a]) Q E s := by
  obtain ⟨o, es, ep, t, at_a, ex, dat, good, nodup, mems, bnd, fits, size, ris, led⟩ := R
  refine Calls.call_function_entry kind_sorted plain_sorted entry_sorted (args_sorted1 _) ?_
  unfold Builtin.«sorted»
  refine wpAny_bind (m := checkCount "sorted" 1 1 _) (wpAny_pure ?_)
  refine wpAny_bind (collect_set (A := A.in1) hh ⟨o, at_a, ex.1, dat⟩ fits bnd ris led ?_)
  intro s1 vs keep grown gens os perm
  have len : vs.length = m := by
    rw [perm.length_eq, List.length_map, Array.length_toList]
    exact size
  have vints : IntsAre vs (vs.map Builtin.Re.reRawOf) := by
    refine ints_of vs fun v hv => ?_
    obtain ⟨e, he, q⟩ := List.mem_map.mp (perm.mem_iff.mp hv)
    obtain ⟨k, tk, g1, _⟩ := good e he
    exact ⟨k, tk, q ▸ g1⟩
  have permK : (vs.map Builtin.Re.reRawOf).Perm (es.toList.map keyOf) := by
    have q := perm.map Builtin.Re.reRawOf
    rwa [List.map_map] at q
  have lenL : vs.length ≤ sizeLine := by
    rw [len]
    exact hm
  refine wpAny_bind (wpAny_newList ?_ lenL)
  have atL : (s1.heap.push (seqObj "list" vs.toArray 0)).get? s1.heap.objs.size = some (seqObj "list" vs.toArray 0) :=
    Heap.get?_push_size _ rfl
  refine wpAny_bind (wpAny_holding (wpAny_call_entry slot_list_sort ⟨_, atL, rfl⟩ entry_list_sort ?_ (args_list_sort _)))
  refine SrtO.list_sort_ord SrtO.swo_int atL lenL (fun h2 => SrtO.ints_sortable vints h2) fun out srt stb => ⟨_, rfl, wpAny_pure ⟨_, rfl, ?_⟩⟩
  obtain ⟨i1, i2, i3⟩ := SrtO.ints_out vints srt stb
  obtain ⟨c, hc⟩ := sortedHeap_at (out := out.toArray) atL
  have permS := i2.trans permK
  refine hQ _ s1.heap.objs.size out.toArray c (out.map SrtO.iv) (fun b u e => ?_) ⟨gens, os⟩ grown hc i1 (lt_of_le_nodup _ i3 (permS.nodup_iff.mpr nodup)) (fun k => ?_) ?_
  · have e1 := keep b u e
    have lt := Heap.lt_size e1
    have lt2 : b < (s1.heap.push (seqObj "list" vs.toArray 0)).objs.size := by
      rw [size_push']
      exact Nat.lt_succ_of_lt lt
    have old := sortedHeap_old (h := s1.heap.push (seqObj "list" vs.toArray 0)) (vs := vs) (out := out.toArray) (Nat.ne_of_lt lt) lt2
    show (sortedHeap (s1.heap.push (seqObj "list" vs.toArray 0)) s1.heap.objs.size vs out.toArray).get? b = some u
    rw [old]
    exact Heap.get?_push_of_some _ e1
  · rw [permS.mem_iff]
    exact (mems k).symm
  · rw [permS.length_eq, List.length_map, Array.length_toList]
    exact size

abbrev setO0 (w : World) : Obj := { cls := .type "set", dict := none, data := .set #[] 0 (.fresh 0 0 (!w.params.followText "set-order")) }
set_option maxHeartbeats 3200000 in
theorem callSetL {l : Addr} {its : Array Value} (ns : List Int) {Q : Value → Shared → Prop} (hh : A.handled = none) (hl : s.heap.IsList l its) (hi : IntsAre its.toList ns) (hb : ns.length + 1 < scanBound)
    (h : ∀ (h' : Heap) (tk m : Nat), SetR w h' s.heap.objs.size (fun j => decide (j ∈ ns)) m → m ≤ ns.length → (∀ b o, s.heap.get? b = some o → h'.get? b = some o) → Q (.ref s.heap.objs.size) { s with heap := h', toks := tk }) :
    wpAny (model P w) A (call (.type "set") [.ref l]) Q E s := by
  have size : its.size = ns.length := by
    rw [← Array.length_toList]
    exact hi.length
  have ⟨c, tl, mro⟩ := F.called_set.mro
  have made := F.called_set.made
  have sub := F.called_set.sub
  have typ := F.called_set.notType
  have can := F.called_set.canCreate
  have tcall := F.typeCall_set_1 (.ref l)
  refine wpAny_call (codeAny_of_tree ?_)
  show wpAny _ _ (callAny (.type "set") _) _ _ _
  refine wpAny_pure ⟨Code.quiet_builtin _ (by decide +kernel), codeAny_builtin F.entry_type_call ?_⟩
  rw [Around.under_plain (weight_type_call_type "set" [.ref l] []) rfl]
  repeat any_goals first | assumption | wp_step
  refine codeAny_mono (code_set_led1 (.ref l) (E := E) (Q₁ := fun obj s₁ => obj = .ref s.heap.objs.size ∧ s₁ = { s with heap := s.heap.push (setO0 w) }) ⟨rfl, rfl⟩) fun r s₁ hr => ?_
  match r, hr with
  | .error _, hr => exact hr
  | .ok .next, hr => exact hr.elim
  | .ok .brk, hr => exact hr.elim
  | .ok .cont, hr => exact hr.elim
  | .ok (.ret obj), ⟨eo, es⟩ =>
    subst eo
    subst es
    have atS : (s.heap.push (setO0 w)).get? s.heap.objs.size = some (setO0 w) := Heap.get?_push_size _ rfl
    have typS : Shared.TypeIs { s with heap := s.heap.push (setO0 w) } (.ref s.heap.objs.size) "set" := ⟨_, atS, rfl⟩
    have ilook := F.called_set.init.lookup
    have ibind := F.called_set.init.bind (.ref s.heap.objs.size)
    repeat any_goals first | assumption | wp_step
    refine codeAny_mono (codeAny_call_builtin (R := wants (fun r s₂ => r = .none ∧ ∃ h' tk m, s₂ = { s with heap := h', toks := tk } ∧ SetR w h' s.heap.objs.size (fun j => decide (j ∈ ns)) m ∧ m ≤ ns.length ∧
        ∀ b o, s.heap.get? b = some o → h'.get? b = some o) E) F.called_set.init.plain F.entry_set_init (check_set_init_1 typS ?_)) fun r₂ s₂ hr₂ => ?_
    · obtain ⟨ol, hol, hcl, nl, hdl⟩ := hl
      obtain ⟨ocls, odict, odata, oslots⟩ := ol
      simp only at hcl hdl
      subst hcl
      subst hdl
      have hol' : (s.heap.push (setO0 w)).get? l = some { cls := .type "list", dict := odict, data := .seq its nl, slots := oslots } := Heap.get?_push_of_some _ hol
      have s1 := F.sub_list_set
      have s2 := F.sub_list_frozenset
      have s3 : (Value.type "list" == Value.type "dict") = false := by decide
      have isL : (s.heap.push (setO0 w)).IsList l its := ⟨_, hol', rfl, nl, rfl⟩
      unfold Builtin.«set.__init__» noKeywords Builtin.Frozenset.updateFrom
      generalize hPI : pyIter = PI
      wp_walk
      subst hPI
      refine wpAny_pyIter_list isL (wpAny_bind (wpAny_runValue ?_))
      have ltl : l < s.heap.objs.size := Heap.lt_size hol
      have sz1 : (s.heap.push (setO0 w)).objs.size = s.heap.objs.size + 1 := Heap.size_push ..
      have h3 : A.in1.in1.in1.handled = none := hh
      have neI : l ≠ (s.heap.push (setO0 w)).objs.size := Nat.ne_of_lt (by rw [sz1]; exact Nat.lt_succ_of_lt ltl)
      have nof : s.heap.objs.size ∉ [(s.heap.push (setO0 w)).objs.size, l] := by
        intro z
        rcases List.mem_cons.mp z with z | z
        · exact absurd z (Nat.ne_of_lt (by rw [sz1]; exact Nat.lt_succ_self _))
        · exact absurd (List.mem_singleton.mp z) (Nat.ne_of_gt ltl)
      have vals : ∀ (i : Nat) (v : Value), its[i]? = some v → ∃ k t, ns[i]? = some k ∧ v = .int k t := by
        intro i v hv
        have lt : i < ns.length := size ▸ (Array.getElem?_eq_some_iff.mp hv).1
        obtain ⟨t, e⟩ := IntsAre.int_at hi i v (by rw [Array.getElem?_toList]; exact hv)
        refine ⟨ns[i], t, List.getElem?_eq_getElem lt, e.trans ?_⟩
        rw [List.getD_eq_getElem?_getD, List.getElem?_eq_getElem lt, Option.getD_some]
      refine set_update_ints ((Walks.list h3 _ l neI its).toS) s.heap.objs.size nof ns size hb vals (its.size - 0) 0 _ (by omega) (Nat.zero_le _) ⟨⟨_, Heap.get?_push_size _ rfl, rfl, rfl⟩, isL.push _⟩
        ⟨0, Nat.le_refl 0, setR_new_at (Heap.get?_push_of_some _ atS)⟩ ?_
      rintro ⟨h', g2, d', tk', os'⟩ m moved hm hS
      obtain rfl : g2 = s.gens := moved.gens
      obtain rfl : d' = s.drawn := moved.drawn
      obtain rfl : os' = s.os := moved.os
      show wpAny _ _ _ _ _ _
      refine wpAny_pure ?_
      show wpAny _ _ (ret Value.none) _ _ _
      refine wpAny_pure ⟨rfl, h', tk', m, rfl, hS, size ▸ hm, fun b o e => moved.heap b o (fun z => ?_) (Heap.get?_push_of_some _ (Heap.get?_push_of_some _ e))⟩
      have lt := Heap.lt_size e
      rcases List.mem_cons.mp z with z | z
      · exact absurd z (Nat.ne_of_lt lt)
      · exact absurd (List.mem_singleton.mp z) (Nat.ne_of_lt (by rw [sz1]; exact Nat.lt_succ_of_lt lt))
    · match r₂, hr₂ with
      | .error _, hr₂ => exact hr₂
      | .ok .next, hr₂ => exact hr₂.elim
      | .ok .brk, hr₂ => exact hr₂.elim
      | .ok .cont, hr₂ => exact hr₂.elim
      | .ok (.ret r), ⟨e1, h', tk, m, e2, hS, hm, kp⟩ =>
        subst e1
        subst e2
        repeat any_goals first | assumption | wp_step
        exact h _ _ _ hS hm kp
end
section
variable {X : Cx}
/-- set(xs), ints -/
def rSetL (K : PySem.W.Frag) (w : World) : List V → Hp → VK → Prop := fun vs H Q => ∃ (a : Addr) (ns : List Int), vs = [V.ref a] ∧ SqL K H a (ns.map V.int) ∧ ns.length ≤ 1000 ∧
  ∀ (p : Addr) (m : Nat), H p = none → m ≤ ns.length → Q (.ref p) (upd H p (SetO w p (fun j => decide (j ∈ ns)) m))
theorem cr_setL (hc : X.calm = true) : CallR X (.type "set") (rSetL X.K X.w) := by
  intro pins s σ H vs us Q I r h
  obtain ⟨a, ns, rfl, ha, hz, q⟩ := h
  obtain ⟨its, rv, pl, _⟩ := I.list ha
  rw [Vals.ref1 r]
  refine callSetL ns (I.ok.hd hc) pl.isList rv.ints (by unfold scanBound; omega) fun h' tk m R hm kp => ?_
  exact ⟨.ref s.heap.objs.size, _, I.laid kp (Nat.le_refl _) (setO_new R), rfl, q _ m I.fresh hm⟩
/-- sorted(xs), a set of ints -/
def rSortSet (w : World) : List V → Hp → VK → Prop := fun vs H Q => ∃ (a : Addr) (S : Int → Bool) (m : Nat), vs = [V.ref a] ∧ H a = some (SetO w a S m) ∧ m ≤ 1000 ∧
  ∀ (ks : List Int) (p : Addr), ks.Pairwise (· < ·) → (∀ k : Int, k ∈ ks ↔ S k = true) → H p = none → Q (.ref p) (upd H p (.lst (ks.map V.int)))
theorem cr_sortSet (hc : X.calm = true) : CallR X (.builtin "sorted") (rSortSet X.w) := by
  intro pins s σ H vs us Q I r h
  obtain ⟨a, S, m, rfl, ha, hm, q⟩ := h
  rw [Vals.ref1 r]
  refine sortedSetN (setO_get I ha) (I.ok.hd hc) (Nat.le_of_lt (small1000 hm)) fun s' p zs c ks kp go lp hp hi asc mem len => ?_
  have fr : H p = none := I.hok.fresh lp
  have hlen : (ks.map V.int).length ≤ sizeLine := by
    rw [List.length_map, len]
    exact Nat.le_of_lt (small1000 hm)
  have J : Inv X pins σ (upd H p (.lst (ks.map V.int))) { s with heap := s'.heap, gens := s'.gens, drawn := s'.drawn, toks := s'.toks } :=
    I.call (ch := []) (Un.laid kp lp fr) (I.hok.laid kp lp ⟨hlen, zs.toList, c, vals_of_ints hi, hp⟩) (by rw [go.1]; exact I.bare) (fun _ z => nomatch z)
  have e : s' = { s with heap := s'.heap, gens := s'.gens, drawn := s'.drawn, toks := s'.toks } := by
    obtain ⟨_, o⟩ := go
    cases s'
    cases s
    cases o
    rfl
  rw [e]
  exact ⟨.ref p, _, J, rfl, q ks p asc mem fr⟩
end
end Gd

set_option Elab.async false
set_option linter.all false
set_option maxRecDepth 100000
/-! Data that repr shows within the line. -/
namespace Gd
open PySem PySem.Spec PyProof.Rows L2
mutual
def cost : PyData → Nat
  | .none => 4
  | .bool _ => 5
  | .int _ => 1921
  | .str x => (reprText x).length
  | .list xs => costAll xs + 3
  | .tuple xs => costAll xs + 3
  | .dict _ => 0
def costAll : List PyData → Nat
  | [] => 0
  | x :: xs => cost x + 2 + costAll xs
end
theorem lensAll : ∀ xs : List PyData, (PyData.shownAll xs).length = xs.length
  | [] => by simp [PyData.shownAll]
  | x :: xs => by simp [PyData.shownAll, lensAll xs]
mutual
theorem shown_cost : ∀ d : PyData, d.showable = true → d.hasDict = false → d.shown.length ≤ cost d
  | .none, _, _ => by simp only [PyData.shown, cost]; decide +kernel
  | .bool b, _, _ => by
    simp only [PyData.shown, cost]
    cases b <;> decide +kernel
  | .int i, h, _ => by
    have h1 : i.natAbs.log2 < 1920 := by simpa [PyData.showable] using h
    simp only [PyData.shown, cost]
    have h2 := int_text_length_le (a := i) (by decide) h1
    show (Str.ofString (toString i)).length ≤ 1921
    rw [PySem.ofString_length]
    exact h2
  | .str x, _, _ => by simp only [PyData.shown, cost]; exact Nat.le_refl _
  | .list xs, h, g => by
    have e := shownAll_cost xs (by simpa [PyData.showable] using h) (by simpa [PyData.hasDict] using g)
    have e2 := listText_len_le (PyData.shownAll xs)
    rw [lensAll] at e2
    simp only [PyData.shown, cost]
    omega
  | .tuple xs, h, g => by
    have e := shownAll_cost xs (by simpa [PyData.showable] using h) (by simpa [PyData.hasDict] using g)
    have e2 := tupleText_len_le (PyData.shownAll xs)
    rw [lensAll] at e2
    simp only [PyData.shown, cost]
    omega
  | .dict _, _, g => by simp [PyData.hasDict] at g
theorem shownAll_cost : ∀ xs : List PyData, PyData.showableAll xs = true → PyData.hasDictAll xs = false → ((PyData.shownAll xs).map (·.length)).sum + 2 * xs.length ≤ costAll xs
  | [], _, _ => by simp [PyData.shownAll, costAll]
  | x :: xs, h, g => by
    have h' : x.showable = true ∧ PyData.showableAll xs = true := by simpa [PyData.showableAll] using h
    have g' : x.hasDict = false ∧ PyData.hasDictAll xs = false := by simpa [PyData.hasDictAll] using g
    have e1 := shown_cost x h'.1 g'.1
    have e2 := shownAll_cost xs h'.2 g'.2
    simp only [PyData.shownAll, costAll, List.map_cons, List.sum_cons, List.length_cons]
    omega
end
/-- what repr takes -/
structure OkD (d : PyData) (n : Nat) : Prop where
  sh : d.showable = true
  nd : d.hasDict = false
  dp : d.depth ≤ 20
  co : cost d ≤ n
theorem OkD.len {d : PyData} {n : Nat} (h : OkD d n) (hn : n ≤ sizeLine) : d.shown.length ≤ sizeLine := Nat.le_trans (shown_cost d h.sh h.nd) (Nat.le_trans h.co hn)
/-- items of depth k at most, n in all -/
structure OkA (ds : List PyData) (k n : Nat) : Prop where
  sh : PyData.showableAll ds = true
  nd : PyData.hasDictAll ds = false
  dp : PyData.depthAll ds ≤ k
  co : costAll ds ≤ n
theorem okA_nil (k : Nat) : OkA [] k 0 := ⟨by simp [PyData.showableAll], by simp [PyData.hasDictAll], by simp [PyData.depthAll], by simp [costAll]⟩
theorem okA_cons {d : PyData} {ds : List PyData} {k n m : Nat} (h : OkA [d] k n) (t : OkA ds k m) : OkA (d :: ds) k (n + m) := by
  have h1 : d.showable = true := by simpa [PyData.showableAll] using h.sh
  have h2 : d.hasDict = false := by simpa [PyData.hasDictAll] using h.nd
  have h3 : d.depth ≤ k := by simpa [PyData.depthAll] using h.dp
  have h4 : cost d + 2 ≤ n := by simpa [costAll] using h.co
  have t3 := t.dp
  have t4 := t.co
  refine ⟨by simp [PyData.showableAll, h1, t.sh], by simp [PyData.hasDictAll, h2, t.nd], ?_, ?_⟩
  · simp only [PyData.depthAll]
    omega
  · simp only [costAll]
    omega
theorem okA_int {i : Int} {k b : Nat} (h : i.natAbs < 2 ^ b) (h0 : 0 < b) (hb : b ≤ 1920) : OkA [.int i] k 1923 := by
  have h1 : i.natAbs.log2 < 1920 := Nat.lt_of_lt_of_le (PySem.Flt.log2_lt_of h0 h) hb
  refine ⟨?_, by simp [PyData.hasDictAll, PyData.hasDict], by simp [PyData.depthAll, PyData.depth], by simp [costAll, cost]⟩
  simp only [PyData.showableAll, PyData.showable, Bool.and_true]
  exact decide_eq_true h1
theorem okA_bool {b : Bool} {k : Nat} : OkA [.bool b] k 7 := ⟨by simp [PyData.showableAll, PyData.showable], by simp [PyData.hasDictAll, PyData.hasDict], by simp [PyData.depthAll, PyData.depth], by simp [costAll, cost]⟩
theorem okA_tup {ds : List PyData} {k n : Nat} (h : OkA ds k n) : OkA [.tuple ds] (k + 1) (n + 5) := by
  have h3 := h.dp
  have h4 := h.co
  refine ⟨by simp [PyData.showableAll, PyData.showable, h.sh], by simp [PyData.hasDictAll, PyData.hasDict, h.nd], ?_, ?_⟩
  · simp only [PyData.depthAll, PyData.depth]
    omega
  · simp only [costAll, cost]
    omega
theorem okD_list {ds : List PyData} {k n m : Nat} (h : OkA ds k n) (hk : k ≤ 19) (hm : n + 3 ≤ m) : OkD (.list ds) m := by
  have h3 := h.dp
  have h4 := h.co
  refine ⟨by simp [PyData.showable, h.sh], by simp [PyData.hasDict, h.nd], ?_, ?_⟩
  · simp only [PyData.depth]
    omega
  · simp only [cost]
    omega
theorem OkA.mono {ds : List PyData} {k n k' n' : Nat} (h : OkA ds k n) (hk : k ≤ k') (hn : n ≤ n') : OkA ds k' n' := ⟨h.sh, h.nd, Nat.le_trans h.dp hk, Nat.le_trans h.co hn⟩
theorem okA_ints {b : Nat} (h0 : 0 < b) (hb : b ≤ 1920) : ∀ {ns : List Int}, (∀ i ∈ ns, i.natAbs < 2 ^ b) → OkA (ns.map PyData.int) 0 (1923 * ns.length)
  | [], _ => okA_nil 0
  | i :: ns, h => by
    have e := okA_cons (okA_int (k := 0) (h i List.mem_cons_self) h0 hb) (okA_ints h0 hb fun j hj => h j (List.mem_cons_of_mem _ hj))
    refine e.mono (Nat.le_refl _) ?_
    rw [List.length_cons]
    omega
end Gd

set_option Elab.async false
set_option linter.all false
set_option maxRecDepth 100000
namespace K1
open PySem PySem.Spec PyProof.Rows L2 Gd
def topS (i : Nat) : Stmt := PySem.Challenge.pw_silentbeats_k01_whole_numbers_and_quotie.main.body.getD i (.Pass ⟨0, 0, 0, 0⟩)
abbrev s_need : Stmt := topS 6
abbrev N_need : List Str := ["fits", "word"]
theorem sc_need : FnScope N_need ["fits", "word"] (defScope s_need) := ⟨rfl, rfl, rfl, by decide +kernel, rfl, by decide +kernel, by decide +kernel⟩
abbrev s_need_each : Stmt := topS 7
abbrev N_need_each : List Str := ["fits", "word", "k", "fit"]
theorem sc_need_each : FnScope N_need_each ["fits", "word"] (defScope s_need_each) := ⟨rfl, rfl, rfl, by decide +kernel, rfl, by decide +kernel, by decide +kernel⟩
abbrev s_least_prime : Stmt := topS 10
abbrev N_least_prime : List Str := ["number", "trial"]
theorem sc_least_prime : FnScope N_least_prime ["number"] (defScope s_least_prime) := ⟨rfl, rfl, rfl, by decide +kernel, rfl, by decide +kernel, by decide +kernel⟩
abbrev s_prime_parts : Stmt := topS 11
abbrev N_prime_parts : List Str := ["number", "parts", "left", "prime", "power"]
theorem sc_prime_parts : FnScope N_prime_parts ["number"] (defScope s_prime_parts) := ⟨rfl, rfl, rfl, by decide +kernel, rfl, by decide +kernel, by decide +kernel⟩
abbrev s_primes_in : Stmt := topS 12
abbrev N_primes_in : List Str := ["number", "prime", "_"]
theorem sc_primes_in : FnScope N_primes_in ["number"] (defScope s_primes_in) := ⟨rfl, rfl, rfl, by decide +kernel, rfl, by decide +kernel, by decide +kernel⟩
abbrev s_is_integer : Stmt := topS 14
abbrev N_is_integer : List Str := ["thing"]
theorem sc_is_integer : FnScope N_is_integer ["thing"] (defScope s_is_integer) := ⟨rfl, rfl, rfl, by decide +kernel, rfl, by decide +kernel, by decide +kernel⟩
abbrev s_is_size : Stmt := topS 15
abbrev N_is_size : List Str := ["thing"]
theorem sc_is_size : FnScope N_is_size ["thing"] (defScope s_is_size) := ⟨rfl, rfl, rfl, by decide +kernel, rfl, by decide +kernel, by decide +kernel⟩
abbrev s_is_prime : Stmt := topS 16
abbrev N_is_prime : List Str := ["thing"]
theorem sc_is_prime : FnScope N_is_prime ["thing"] (defScope s_is_prime) := ⟨rfl, rfl, rfl, by decide +kernel, rfl, by decide +kernel, by decide +kernel⟩
abbrev s_is_prime_power : Stmt := topS 17
abbrev N_is_prime_power : List Str := ["thing"]
theorem sc_is_prime_power : FnScope N_is_prime_power ["thing"] (defScope s_is_prime_power) := ⟨rfl, rfl, rfl, by decide +kernel, rfl, by decide +kernel, by decide +kernel⟩
abbrev s_are_integers : Stmt := topS 18
abbrev N_are_integers : List Str := ["thing", "each"]
theorem sc_are_integers : FnScope N_are_integers ["thing"] (defScope s_are_integers) := ⟨rfl, rfl, rfl, by decide +kernel, rfl, by decide +kernel, by decide +kernel⟩
abbrev s_is_quotient : Stmt := topS 19
abbrev N_is_quotient : List Str := ["thing"]
theorem sc_is_quotient : FnScope N_is_quotient ["thing"] (defScope s_is_quotient) := ⟨rfl, rfl, rfl, by decide +kernel, rfl, by decide +kernel, by decide +kernel⟩
abbrev s_need_number : Stmt := topS 21
abbrev N_need_number : List Str := ["number"]
theorem sc_need_number : FnScope N_need_number ["number"] (defScope s_need_number) := ⟨rfl, rfl, rfl, by decide +kernel, rfl, by decide +kernel, by decide +kernel⟩
abbrev s_primes_of : Stmt := topS 22
abbrev N_primes_of : List Str := ["number"]
theorem sc_primes_of : FnScope N_primes_of ["number"] (defScope s_primes_of) := ⟨rfl, rfl, rfl, by decide +kernel, rfl, by decide +kernel, by decide +kernel⟩
abbrev s_divisors_of : Stmt := topS 23
abbrev N_divisors_of : List Str := ["number", "trial"]
theorem sc_divisors_of : FnScope N_divisors_of ["number"] (defScope s_divisors_of) := ⟨rfl, rfl, rfl, by decide +kernel, rfl, by decide +kernel, by decide +kernel⟩
abbrev s_totient_of : Stmt := topS 24
abbrev N_totient_of : List Str := ["number", "many", "prime", "power"]
theorem sc_totient_of : FnScope N_totient_of ["number"] (defScope s_totient_of) := ⟨rfl, rfl, rfl, by decide +kernel, rfl, by decide +kernel, by decide +kernel⟩
abbrev s_power_parts : Stmt := topS 25
abbrev N_power_parts : List Str := ["number", "_", "power"]
theorem sc_power_parts : FnScope N_power_parts ["number"] (defScope s_power_parts) := ⟨rfl, rfl, rfl, by decide +kernel, rfl, by decide +kernel, by decide +kernel⟩
abbrev s_lowest : Stmt := topS 27
abbrev N_lowest : List Str := ["top", "bottom", "shared"]
theorem sc_lowest : FnScope N_lowest ["top", "bottom"] (defScope s_lowest) := ⟨rfl, rfl, rfl, by decide +kernel, rfl, by decide +kernel, by decide +kernel⟩
abbrev s_quotient : Stmt := topS 28
abbrev N_quotient : List Str := ["top", "bottom"]
theorem sc_quotient : FnScope N_quotient ["top", "bottom"] (defScope s_quotient) := ⟨rfl, rfl, rfl, by decide +kernel, rfl, by decide +kernel, by decide +kernel⟩
abbrev s_sums : Stmt := topS 29
abbrev N_sums : List Str := ["quotients", "reached", "top", "bottom", "each"]
theorem sc_sums : FnScope N_sums ["quotients"] (defScope s_sums) := ⟨rfl, rfl, rfl, by decide +kernel, rfl, by decide +kernel, by decide +kernel⟩
abbrev s_products : Stmt := topS 30
abbrev N_products : List Str := ["quotients", "reached", "top", "bottom", "each"]
theorem sc_products : FnScope N_products ["quotients"] (defScope s_products) := ⟨rfl, rfl, rfl, by decide +kernel, rfl, by decide +kernel, by decide +kernel⟩
abbrev s_less : Stmt := topS 31
abbrev N_less : List Str := ["one", "other"]
theorem sc_less : FnScope N_less ["one", "other"] (defScope s_less) := ⟨rfl, rfl, rfl, by decide +kernel, rfl, by decide +kernel, by decide +kernel⟩
abbrev s_over : Stmt := topS 32
abbrev N_over : List Str := ["one", "other"]
theorem sc_over : FnScope N_over ["one", "other"] (defScope s_over) := ⟨rfl, rfl, rfl, by decide +kernel, rfl, by decide +kernel, by decide +kernel⟩
abbrev s__law_feed : Stmt := topS 34
abbrev N__law_feed : List Str := ["_law_script", "_law_cell"]
theorem sc__law_feed : FnScope N__law_feed ["_law_script"] (defScope s__law_feed) := ⟨rfl, rfl, rfl, by decide +kernel, rfl, by decide +kernel, by decide +kernel⟩
abbrev s__law_draw : Stmt := topS 35
abbrev N__law_draw : List Str := ["_law_feed_here", "_law_limit", "_law_cell", "_law_stirred", "_law_digit", "_law_cells", "_law_spot"]
theorem sc__law_draw : FnScope N__law_draw ["_law_feed_here", "_law_limit"] (defScope s__law_draw) := ⟨rfl, rfl, rfl, by decide +kernel, rfl, by decide +kernel, by decide +kernel⟩
abbrev s__law_any : Stmt := topS 36
abbrev N__law_any : List Str := ["_law_feed_here", "_law_some"]
theorem sc__law_any : FnScope N__law_any ["_law_feed_here", "_law_some"] (defScope s__law_any) := ⟨rfl, rfl, rfl, by decide +kernel, rfl, by decide +kernel, by decide +kernel⟩
abbrev s__law_same : Stmt := topS 37
abbrev N__law_same : List Str := ["_law_told", "_law_due"]
theorem sc__law_same : FnScope N__law_same ["_law_told", "_law_due"] (defScope s__law_same) := ⟨rfl, rfl, rfl, by decide +kernel, rfl, by decide +kernel, by decide +kernel⟩
abbrev s__law_gcd : Stmt := topS 38
abbrev N__law_gcd : List Str := ["_law_first", "_law_second", "_law_high", "_law_low"]
theorem sc__law_gcd : FnScope N__law_gcd ["_law_first", "_law_second"] (defScope s__law_gcd) := ⟨rfl, rfl, rfl, by decide +kernel, rfl, by decide +kernel, by decide +kernel⟩
abbrev s__law_primes : Stmt := topS 39
abbrev N__law_primes : List Str := ["_law_whole", "_law_found", "_law_rest", "_law_step"]
theorem sc__law_primes : FnScope N__law_primes ["_law_whole"] (defScope s__law_primes) := ⟨rfl, rfl, rfl, by decide +kernel, rfl, by decide +kernel, by decide +kernel⟩
abbrev s__law_divisors : Stmt := topS 40
abbrev N__law_divisors : List Str := ["_law_whole", "_law_found", "_law_step", "_law_part"]
theorem sc__law_divisors : FnScope N__law_divisors ["_law_whole"] (defScope s__law_divisors) := ⟨rfl, rfl, rfl, by decide +kernel, rfl, by decide +kernel, by decide +kernel⟩
abbrev s__law_cut : Stmt := topS 41
abbrev N__law_cut : List Str := ["_law_first", "_law_second", "_law_part", "_law_sign"]
theorem sc__law_cut : FnScope N__law_cut ["_law_first", "_law_second"] (defScope s__law_cut) := ⟨rfl, rfl, rfl, by decide +kernel, rfl, by decide +kernel, by decide +kernel⟩
abbrev s__law_fraction : Stmt := topS 42
abbrev N__law_fraction : List Str := ["_law_feed_here", "_law_way"]
theorem sc__law_fraction : FnScope N__law_fraction ["_law_feed_here"] (defScope s__law_fraction) := ⟨rfl, rfl, rfl, by decide +kernel, rfl, by decide +kernel, by decide +kernel⟩
abbrev s__law_totient : Stmt := topS 43
abbrev N__law_totient : List Str := ["_law_whole", "_law_found", "_law_step"]
theorem sc__law_totient : FnScope N__law_totient ["_law_whole"] (defScope s__law_totient) := ⟨rfl, rfl, rfl, by decide +kernel, rfl, by decide +kernel, by decide +kernel⟩
abbrev s__law_powers : Stmt := topS 44
abbrev N__law_powers : List Str := ["_law_whole", "_law_step", "_law_parts", "_law_found", "_law_power", "_law_part"]
theorem sc__law_powers : FnScope N__law_powers ["_law_whole"] (defScope s__law_powers) := ⟨rfl, rfl, rfl, by decide +kernel, rfl, by decide +kernel, by decide +kernel⟩
abbrev s__law_is_whole_right : Stmt := topS 45
abbrev N__law_is_whole_right : List Str := ["_law_whole", "_law_parts", "_law_told", "_law_due", "_law_every", "_law_part"]
theorem sc__law_is_whole_right : FnScope N__law_is_whole_right ["_law_whole"] (defScope s__law_is_whole_right) := ⟨rfl, rfl, rfl, by decide +kernel, rfl, by decide +kernel, by decide +kernel⟩
abbrev s__law_wholes : Stmt := topS 46
abbrev N__law_wholes : List Str := ["_law_feed_here", "_law_part", "_law_step", "_law_found", "_law_most", "_law_bigs", "_law_late"]
theorem sc__law_wholes : FnScope N__law_wholes ["_law_feed_here"] (defScope s__law_wholes) := ⟨rfl, rfl, rfl, by decide +kernel, rfl, by decide +kernel, by decide +kernel⟩
abbrev s__law_plus : Stmt := topS 47
abbrev N__law_plus : List Str := ["_law_one", "_law_other"]
theorem sc__law_plus : FnScope N__law_plus ["_law_one", "_law_other"] (defScope s__law_plus) := ⟨rfl, rfl, rfl, by decide +kernel, rfl, by decide +kernel, by decide +kernel⟩
abbrev s__law_are_quotients_right : Stmt := topS 48
abbrev N__law_are_quotients_right : List Str := ["_law_feed_here", "_law_row", "_law_own", "_law_told", "_law_minus", "_law_one", "_law_other", "_law_third", "_law_total", "_law_product", "_law_late", "_law_high", "_law_low", "_law_lap"]
theorem sc__law_are_quotients_right : FnScope N__law_are_quotients_right ["_law_feed_here"] (defScope s__law_are_quotients_right) := ⟨rfl, rfl, rfl, by decide +kernel, rfl, by decide +kernel, by decide +kernel⟩
abbrev s_law : Stmt := topS 49
abbrev N_law : List Str := ["_law_script", "_law_feed_here", "_law_lap", "_law_whole"]
theorem sc_law : FnScope N_law ["_law_script"] (defScope s_law) := ⟨rfl, rfl, rfl, by decide +kernel, rfl, by decide +kernel, by decide +kernel⟩
end K1

set_option Elab.async false
set_option linter.all false
set_option maxRecDepth 100000
namespace K1
open PySem PySem.Spec PyProof.Rows L2 Gd
section
variable {P : Program} {w : World} {K : PySem.W.Frag} {mg : Str → Option Value} {base : Heap}
def spNeed : Sp := fun vs H Q _ => ∃ z, vs = [.bl true, z] ∧ Q .non H
theorem c_need (D : At K mg "need" s_need ["fits", "word"]) : Cal P w K mg base 1 "need" spNeed := by
  refine okC D sc_need (fun vs H Q E h => ?_) (fun f cdv A outer s H vs Q E hr h => ?_)
  · obtain ⟨z, rfl, _⟩ := h
    rfl
  · obtain ⟨z, rfl, q⟩ := h
    have nd := sc_need.nd
    refine ⟨_, (pss_one (ps_if (pt_not (pt_val (pv 0)))
 (pss_one ps_never)
 pss_nil)), ?_⟩
    refine ⟨_, rfl, true, rfl, iteF ?_⟩
    exact q
def spNeedEach (K : PySem.W.Frag) : Sp := fun vs H Q _ => ∃ (a : Addr) (n : Nat) (z : V), vs = [.ref a, z] ∧ SqL K H a (List.replicate n (V.bl true)) ∧ ∀ H', Same H H' → Q .non H'
theorem c_need_each (D : At K mg "need_each" s_need_each ["fits", "word"]) (z_enumerate : mg "enumerate" = none) : Cal P w K mg base 1 "need_each" (spNeedEach K) := by
  refine okC D sc_need_each (fun vs H Q E h => ?_) (fun f cdv A outer s H vs Q E hr h => ?_)
  · obtain ⟨a, n, z, rfl, _⟩ := h
    rfl
  · obtain ⟨a, n, z, rfl, ha, q⟩ := h
    have nd := sc_need_each.nd
    refine ⟨_, (pss_one (ps_for PassesOwn.never rfl (pi_enum (by rfl) z_enumerate (pa_cons (pv 0) pa_nil)) (pg_tup rfl (pgs_cons (pg_name (i := 2) nd rfl (.inl rfl)) (pgs_cons (pg_name (i := 3) nd rfl (.inl rfl)) pgs_nil)))
 (pss_one (ps_if (pt_not (pt_val (pv 3)))
 (pss_one ps_never)
 pss_nil)))), ?_⟩
    refine ⟨_, rfl, a, _, rfl, ha, for_it (walk_enum (xs := List.replicate n (V.bl true))) (fun i σ H' => Same H H' ∧ ∃ y0 y1 y2 y3, σ = [y0, y1, y2, y3]) ⟨Same.refl _, _, _, _, _, rfl⟩ (fun i σ H' _ p => p.1.seq ha) ?_ (fun σ H' p => q H' p.1)⟩
    rintro i x σ H1 H' hi ⟨sm, y0, y1, y2, y3, rfl⟩ ⟨T, x1, x2, rfl, nT, rfl, e1, e2⟩
    have e3 : x2 = V.bl true := List.eq_of_mem_replicate (List.mem_of_getElem? e2)
    subst e3
    refine ⟨T, _, rfl, .inl (.inl upd_same), rfl, _, _, rfl, _, _, rfl, rfl, ?_⟩
    refine ⟨_, rfl, true, rfl, iteF ⟨sm.trans (same_new nT), _, _, _, _, rfl⟩⟩

def spIsInt : Sp := fun vs H Q _ => ∃ i, vs = [.int i] ∧ Q (.bl true) H
theorem c_is_integer (D : At K mg "is_integer" s_is_integer ["thing"]) (z_isinstance : mg "isinstance" = none) (z_int : mg "int" = none) (z_bool : mg "bool" = none) : Cal P w K mg base 1 "is_integer" spIsInt := by
  refine okC D sc_is_integer (fun vs H Q E h => ?_) (fun f cdv A outer s H vs Q E hr h => ?_)
  · obtain ⟨z, rfl, _⟩ := h
    rfl
  · obtain ⟨z, rfl, q⟩ := h
    have nd := sc_is_integer.nd
    refine ⟨_, (pss_one (ps_ret (pe_and (pe_callB call_isi (by rfl) z_isinstance (by decide +kernel) (pa_cons (pv 0) (pa_cons (pe_bltn (by rfl) z_int (by decide +kernel) (v := .ty "int") rfl) pa_nil))) (pe_one (pe_not (pe_callB call_isi (by rfl) z_isinstance (by decide +kernel) (pa_cons (pv 0) (pa_cons (pe_bltn (by rfl) z_bool (by decide +kernel) (v := .ty "bool") rfl) pa_nil)))))))), ?_⟩
    refine ⟨_, rfl, _, _, _, _, true, rfl, .ty "int", .base (.int z), kit_ty (by decide +kernel), true, rfl, iteT ?_⟩
    refine ⟨_, rfl, _, _, _, _, false, rfl, .ty "bool", .base (.int z), kit_ty (by decide +kernel), false, rfl, ?_⟩
    exact q
def spIsSize : Sp := fun vs H Q _ => ∃ i : Int, vs = [.int i] ∧ Q (.bl (decide (1 ≤ i))) H
theorem c_is_size (D : At K mg "is_size" s_is_size ["thing"]) (c_is_integer : Cal P w K mg base 1 "is_integer" spIsInt) : Cal P w K mg base 2 "is_size" spIsSize := by
  refine okC D sc_is_size (fun vs H Q E h => ?_) (fun f cdv A outer s H vs Q E hr h => ?_)
  · obtain ⟨z, rfl, _⟩ := h
    rfl
  · obtain ⟨z, rfl, q⟩ := h
    have nd := sc_is_size.nd
    refine ⟨_, (pss_one (ps_ret (pe_and (pe_k c_is_integer hr (by decide) (by rfl) (pa_cons (pv 0) pa_nil)) (pe_one (pe_cmpR op_ge (pv 0) pe_int (nomark _)))))), ?_⟩
    refine ⟨_, rfl, z, rfl, true, rfl, iteT ?_⟩
    exact ⟨_, rfl, z, 1, rfl, rfl, q⟩
def spAreInts (K : PySem.W.Frag) : Sp := fun vs H Q _ => ∃ (a : Addr) (ns : List Int), vs = [.ref a] ∧ H a = some (.tup (ns.map V.int)) ∧ ns.length ≤ 1000 ∧ ∀ H', Same H H' → Q (.bl true) H'
theorem c_are_integers (D : At K mg "are_integers" s_are_integers ["thing"]) (c_is_integer : Cal P w K mg base 1 "is_integer" spIsInt) (z_isinstance : mg "isinstance" = none) (z_tuple : mg "tuple" = none) (z_all : mg "all" = none) :
    Cal P w K mg base 2 "are_integers" (spAreInts K) := by
  refine okC D sc_are_integers (fun vs H Q E h => ?_) (fun f cdv A outer s H vs Q E hr h => ?_)
  · obtain ⟨a, ns, rfl, _⟩ := h
    rfl
  · obtain ⟨a, ns, rfl, ha, hz, q⟩ := h
    have nd := sc_are_integers.nd
    refine ⟨_, (pss_one (ps_ret (pe_and (pe_callB call_isi (by rfl) z_isinstance (by decide +kernel) (pa_cons (pv 0) (pa_cons (pe_bltn (by rfl) z_tuple (by decide +kernel) (v := .ty "tuple") rfl) pa_nil))) (pe_one (pe_callB (cr_all rfl) (by rfl) z_all (by decide +kernel) (pa_cons (pe_lc (own := [("each", 1)]) rfl nd (pi_tup (pv 0)) (blkOk_by (N := N_are_integers) (sc := defScope s_are_integers) (by decide +kernel)) (fun _ _ _ _ _ => pg_name (i := 1) nd rfl (Or.inl rfl)) (fun _ _ _ _ _ => pts_nil) (fun _ _ _ _ _ => (pe_k c_is_integer hr (by decide) (by rfl) (pa_cons (pv 1) pa_nil)))) pa_nil)))))), ?_⟩
    refine ⟨_, rfl, _, _, _, _, true, rfl, .ty "tuple", .base (.tup ha), kit_ty (by decide +kernel), true, rfl, iteT ?_⟩
    refine ⟨_, rfl, a, rfl, ⟨_, .inl (.inl ha)⟩, fun D hD => lcM (walk_tup (xs := ns.map V.int)) (fun _ => .bl true) hD ?_ (fun H' sm => .inl (.inl (sm _ _ ha))) ?_ ?_⟩
    · rw [List.length_map]
      exact small1000 hz
    · intro x H' R hx sm h1
      obtain ⟨i, _, rfl⟩ := List.mem_map.mp hx
      refine ⟨rfl, _, rfl, i, rfl, h1 H' (Same.refl _)⟩
    · intro H' sm hd
      have e : (ns.map V.int).map (fun _ => V.bl true) = (List.replicate ns.length true).map V.bl := by
        rw [List.map_map, List.map_replicate]
        exact List.map_eq_replicate_iff.mpr fun _ _ => rfl
      rw [e] at hd
      refine ⟨D, _, rfl, .inl (.inl hd), ?_⟩
      rw [List.all_eq_true.mpr fun b hb => by rw [List.eq_of_mem_replicate hb]; rfl]
      exact q H' sm
end
end K1

set_option Elab.async false
set_option linter.all false
set_option maxRecDepth 100000
namespace Gd
open PySem PySem.Spec PyProof.Rows L2
/-- // by a divisor of either sign -/
def CDivZ (_ j : Int) : Prop := j ≠ 0 ∧ j.natAbs.log2 < 9000
theorem op_fdivZ {X : Cx} : OpR X (binaryOp .FloorDiv) (rI CDivZ fun i j => .int (i.fdiv j)) := by
  refine opI ?_
  intro i j t u s Q E hc q
  exact floordiv_int hc.1 q (.inl (PyProof.noPylong_of_log2 hc.2))
theorem cdivZ {i j : Int} {b : Nat} (h : j ≠ 0) (hb : j.natAbs < 2 ^ b) (h0 : 0 < b) (h9 : b ≤ 9000) : CDivZ i j := ⟨h, Nat.lt_of_lt_of_le (PySem.Flt.log2_lt_of h0 hb) h9⟩
end Gd
namespace K1
open PySem PySem.Spec PyProof.Rows L2 Gd Qu
def QAt (H : Hp) (a : Addr) (q : Int × Int) : Prop := H a = some (.tup [.int q.1, .int q.2])
theorem QAt.same {H H' : Hp} {a : Addr} {q : Int × Int} (s : Same H H') (h : QAt H a q) : QAt H' a q := s _ _ h
theorem QAt.sq {K : PySem.W.Frag} {H : Hp} {a : Addr} {q : Int × Int} (h : QAt H a q) : SqT K H a [.int q.1, .int q.2] := .inl (.inl h)
theorem gq_lt {a b : Int} {n : Nat} (hb : b ≠ 0) (h : b.natAbs < 2 ^ n) : (gq a b).natAbs < 2 ^ n := by
  have : gq a b ≤ (b.natAbs : Int) := Int.le_of_dvd (by omega) (Int.dvd_natAbs.mpr (gq_r a b))
  have := gq_pos (a := a) hb
  omega
section
variable {P : Program} {w : World} {K : PySem.W.Frag} {mg : Str → Option Value} {base : Heap}
def spIsQ : Sp := fun vs H Q _ => ∃ (a : Addr) (q : Int × Int), vs = [.ref a] ∧ QAt H a q ∧ IsQ q ∧ ∀ H', Same H H' → Q (.bl true) H'
theorem c_is_quotient (D : At K mg "is_quotient" s_is_quotient ["thing"]) (c_are_integers : Cal P w K mg base 2 "are_integers" (spAreInts K)) (z_len : mg "len" = none) (m_gcd : mg "gcd" = some (.builtin "math.gcd")) :
    Cal P w K mg base 3 "is_quotient" spIsQ := by
  refine okC D sc_is_quotient (fun vs H Q E h => ?_) (fun f cdv A outer s H vs Q E hr h => ?_)
  · obtain ⟨a, q, rfl, _⟩ := h
    rfl
  · obtain ⟨a, q, rfl, ha, hq, k⟩ := h
    have nd := sc_is_quotient.nd
    refine ⟨_, (pss_one (ps_ret (pe_and (pe_k c_are_integers hr (by decide) (by rfl) (pa_cons (pv 0) pa_nil)) (pe_and (pe_cmpR op_eq (pe_callB call_len_seq (by rfl) z_len PySem.boot_len (pa_cons (pv 0) pa_nil)) pe_int (nomark _)) (pe_and (pe_cmpR op_gt (pe_ix ix_tup (pv 0) pe_int (fun _ _ => rfl)) pe_int (nomark _)) (pe_one (pe_cmpR op_eq (pe_callBfun cr_gcd (by rfl) m_gcd (pa_cons (pe_ix ix_tup (pv 0) pe_int (fun _ _ => rfl)) (pa_cons (pe_ix ix_tup (pv 0) pe_int (fun _ _ => rfl)) pa_nil))) pe_int (nomark _)))))))), ?_⟩
    refine ⟨_, rfl, a, [q.1, q.2], rfl, ha, (by show 2 ≤ 1000; decide), fun H1 s1 => ?_⟩
    have h1 : SqT K H1 a [.int q.1, .int q.2] := (ha.same s1).sq
    refine ⟨true, rfl, iteT ?_⟩
    refine ⟨_, rfl, a, _, rfl, .inr h1, rfl, true, rfl, iteT ?_⟩
    refine ⟨_, rfl, a, _, 1, _, rfl, rfl, h1, atI_nat (j := 1) rfl, _, _, rfl, rfl, true, ?_, iteT ?_⟩
    · show V.bl (decide (0 < q.2)) = V.bl true
      rw [decide_eq_true hq.pos]
    refine ⟨_, rfl, a, _, 0, _, rfl, rfl, h1, atI_nat (j := 0) rfl, _, rfl, a, _, 1, _, rfl, rfl, h1, atI_nat (j := 1) rfl, _, _, rfl, rfl, ?_⟩
    rw [hq.cop]
    exact k H1 s1
def spLow : Sp := fun vs H Q _ => ∃ t b : Int, vs = [.int t, .int b] ∧ b ≠ 0 ∧ t.natAbs < 2 ^ 8000 ∧ b.natAbs < 2 ^ 8000 ∧ ∀ p, H p = none → Q (.ref p) (upd H p (.tup [.int (cut t b).1, .int (cut t b).2]))
theorem c_lowest (D : At K mg "lowest" s_lowest ["top", "bottom"]) (m_gcd : mg "gcd" = some (.builtin "math.gcd")) : Cal P w K mg base 1 "lowest" spLow := by
  refine okC D sc_lowest (fun vs H Q E h => ?_) (fun f cdv A outer s H vs Q E hr h => ?_)
  · obtain ⟨a, q, rfl, _⟩ := h
    rfl
  · obtain ⟨t, b, rfl, hb, ht, hbb, k⟩ := h
    have nd := sc_lowest.nd
    have hg := gq_pos (a := t) hb
    have hgb : (gq t b).natAbs < 2 ^ 8000 := gq_lt hb hbb
    refine ⟨_, (pss_cons (ps_set (i := 2) nd rfl (.inl rfl) (pe_ifExp (pt_cmpR op_gt (pv 1) pe_int (nomark _)) (pe_callBfun cr_gcd (by rfl) m_gcd (pa_cons (pv 0) (pa_cons (pv 1) pa_nil))) (pe_un un_neg (pe_callBfun cr_gcd (by rfl) m_gcd (pa_cons (pv 0) (pa_cons (pv 1) pa_nil))))))
 (pss_one (ps_ret (pe_tup (pa_cons (pe_op op_fdivZ (pv 0) (pv 2)) (pa_cons (pe_op op_fdivZ (pv 1) (pv 2)) pa_nil)))))), ?_⟩
    refine ⟨_, rfl, _, _, rfl, rfl, _, rfl, ?_⟩
    by_cases h0 : 0 < b
    · rw [decide_eq_true h0]
      refine iteT ⟨_, rfl, _, rfl, t, b, rfl, ?_⟩
      have c : CDivZ t (gq t b) := cdivZ (by omega) hgb (by decide) (by decide)
      refine ⟨_, rfl, _, rfl, t, gq t b, rfl, rfl, c, _, rfl, _, rfl, b, gq t b, rfl, rfl, c, (by show 2 ≤ sizeLine; decide), fun p hp => ?_⟩
      show Q (V.ref p) (upd H p (.tup [.int (t.fdiv (gq t b)), .int (b.fdiv (gq t b))]))
      rw [Int.fdiv_eq_ediv_of_nonneg _ (by omega), Int.fdiv_eq_ediv_of_nonneg _ (by omega)]
      have z := k p hp
      rw [low_pos h0] at z
      exact z
    · rw [decide_eq_false h0]
      refine iteF ⟨_, rfl, _, rfl, t, b, rfl, _, rfl, ?_⟩
      have c : CDivZ t (-gq t b) := cdivZ (by omega) (by rw [Int.natAbs_neg]; exact hgb) (by decide) (by decide)
      refine ⟨_, rfl, _, rfl, t, -gq t b, rfl, rfl, c, _, rfl, _, rfl, b, -gq t b, rfl, rfl, c, (by show 2 ≤ sizeLine; decide), fun p hp => ?_⟩
      have z := k p hp
      rw [low_neg (by omega)] at z
      exact z
end
end K1

set_option Elab.async false
set_option linter.all false
set_option maxRecDepth 100000
namespace Gd
open PySem PySem.Spec PyProof.Rows L2
/-- a def with *v alone, as the name x holds it -/
structure AtS (K : PySem.W.Frag) (mg : Str → Option Value) (x : String) (st : Stmt) (pv : Str) : Prop where
  ex : ∃ f fd, mg x = some (.ref f) ∧ Fun K x x st f fd ∧ ∀ rest : List Value, bindArgs fd ⟨rest, []⟩ = (newTuple rest >>= fun t => pure [(pv, t)])
theorem okS {P : Program} {w : World} {K : PySem.W.Frag} {mg : Str → Option Value} {base : Heap} {x : String} {st : Stmt} {N : List Str} {pv : Str} {k : Nat} {sp : Sp} (D : AtS K mg x st pv) (S : FnScope N [pv] (defScope st))
    (body : ∀ (f : Addr) (cdv : Value) (A : Around) (outer : List Env) (s : Shared) (H : Hp) (vs : List V) (Q : VK) (E : XK), Room k (A.deeper (envOfC x (defScope st) s.heap.objs.size f cdv)) → sp vs H Q E →
      ∃ t, PSs (cxOf CX0 P w K mg base N x (defScope st) f cdv A outer s H E).nox (defBody st) t ∧ t { nx := fun _ H' => Q .non H', rt := Q } (start N vs) H) :
    Cal P w K mg base (k + 1) x (fun vs H Q E => vs.length ≤ sizeLine ∧ ∀ p, H p = none → sp [V.ref p] (upd H p (.tup vs)) Q E) := by
  obtain ⟨f, fd, hm, F, hb⟩ := D.ex
  obtain ⟨oc, od, kV, doc, pm, an, cdv, ct, osl, rfl, lk, hcd⟩ := F.ex
  have G := StX.fn_star (CX := CX0) (P := P) (w := w) (mg := mg) (base := base) (k := k) (ps := []) (pv := pv) (sp := sp) lk hcd S StX.cxUp_none (fun us rest hl => by
    have e : us = [] := List.length_eq_zero_iff.mp hl
    subst e
    exact hb rest) (fun A outer s H vs Q E hr h => let ⟨t, h1, h2⟩ := body f cdv A outer s H vs Q E hr h; ⟨t, h1.nox, h2⟩)
  exact ⟨f, hm, F.kp, G.imp fun vs H Q E h => ⟨[], vs, rfl, rfl, h.1, h.2⟩⟩
end Gd
namespace K1
open PySem PySem.Spec PyProof.Rows L2 Gd Qu
/-- both numbers below 2 ^ n -/
structure Sz (n : Nat) (q : Int × Int) : Prop where
  t : q.1.natAbs < 2 ^ n
  b : q.2.natAbs < 2 ^ n
theorem lt_pow {x a b : Nat} (h : x < 2 ^ a) (hab : a ≤ b) : x < 2 ^ b := Nat.lt_of_lt_of_le h (Nat.pow_le_pow_right (by decide) hab)
theorem Sz.mono {a b : Nat} {q : Int × Int} (h : Sz a q) (hab : a ≤ b) : Sz b q := ⟨lt_pow h.t hab, lt_pow h.b hab⟩
theorem mul_lt {x y : Int} {a b : Nat} (hx : x.natAbs < 2 ^ a) (hy : y.natAbs < 2 ^ b) : (x * y).natAbs < 2 ^ (a + b) := wide_lt hx hy
theorem add_lt {x y : Int} {a : Nat} (hx : x.natAbs < 2 ^ a) (hy : y.natAbs < 2 ^ a) : (x + y).natAbs < 2 ^ (a + 1) := by
  rw [Nat.pow_succ]
  omega
theorem sub_lt {x y : Int} {a : Nat} (hx : x.natAbs < 2 ^ a) (hy : y.natAbs < 2 ^ a) : (x - y).natAbs < 2 ^ (a + 1) := by
  rw [Nat.pow_succ]
  omega
theorem cut_sz {a b : Int} {n : Nat} (h : b ≠ 0) (ha : a.natAbs < 2 ^ n) (hb : b.natAbs < 2 ^ n) : Sz n (cut a b) :=
  ⟨Nat.lt_of_le_of_lt (cut_le1 h) ha, Nat.lt_of_le_of_lt (cut_le2 h) hb⟩
theorem plus_sz {r q : Int × Int} {a b : Nat} (hr : Sz a r) (hq : Sz b q) (ir : IsQ r) (iq : IsQ q) : Sz (a + b + 1) (plusQ r q) := by
  refine cut_sz (Int.mul_ne_zero ir.ne iq.ne) (add_lt (mul_lt hr.t hq.b) ?_) (lt_pow (mul_lt hr.b hq.b) (Nat.le_succ _))
  rw [Nat.add_comm a b]
  exact mul_lt hq.t hr.b
theorem prod_sz {r q : Int × Int} {a b : Nat} (hr : Sz a r) (hq : Sz b q) (ir : IsQ r) (iq : IsQ q) : Sz (a + b) (prodQ r q) :=
  cut_sz (Int.mul_ne_zero ir.ne iq.ne) (mul_lt hr.t hq.t) (mul_lt hr.b hq.b)
theorem sz01 : Sz 1 (0, 1) := ⟨by decide, by decide⟩
theorem sz11 : Sz 1 (1, 1) := ⟨by decide, by decide⟩
section
variable {P : Program} {w : World} {K : PySem.W.Frag} {mg : Str → Option Value} {base : Heap}
/-- refs to quotients -/
def QsAt (H : Hp) (as : List Addr) (qs : List (Int × Int)) : Prop := as.length = qs.length ∧ ∀ (i : Nat) (a : Addr) (q : Int × Int), as[i]? = some a → qs[i]? = some q → QAt H a q
theorem QsAt.same {H H' : Hp} {as : List Addr} {qs : List (Int × Int)} (s : Same H H') (h : QsAt H as qs) : QsAt H' as qs := ⟨h.1, fun i a q e1 e2 => (h.2 i a q e1 e2).same s⟩
def spFoldQ (op : Int × Int → Int × Int → Int × Int) (z : Int × Int) : Sp := fun vs H Q _ => ∃ (as : List Addr) (qs : List (Int × Int)), vs = as.map V.ref ∧ QsAt H as qs ∧ (∀ q ∈ qs, IsQ q ∧ Sz 700 q) ∧ qs.length ≤ 6 ∧
  ∀ p H', Same H H' → QAt H' p (qs.foldl op z) → Q (.ref p) H'
theorem fold_step {α β : Type} (op : β → α → β) (z : β) {l : List α} {i : Nat} {x : α} (h : l[i]? = some x) : (l.take (i + 1)).foldl op z = op ((l.take i).foldl op z) x := by
  rw [List.take_add_one, h, List.foldl_append]
  rfl
theorem c_sums (D : AtS K mg "sums" s_sums "quotients") (c_need_each : Cal P w K mg base 1 "need_each" (spNeedEach K)) (c_is_quotient : Cal P w K mg base 3 "is_quotient" spIsQ) (c_lowest : Cal P w K mg base 1 "lowest" spLow) :
    Cal P w K mg base 4 "sums" (spFoldQ plusQ (0, 1)) := by
  have G : Cal P w K mg base 4 "sums" _ := okS (k := 3) (sp := fun vs H Q _ => ∃ (t : Addr) (as : List Addr) (qs : List (Int × Int)), vs = [.ref t] ∧ H t = some (.tup (as.map V.ref)) ∧ QsAt H as qs ∧ (∀ q ∈ qs, IsQ q ∧ Sz 700 q) ∧ qs.length ≤ 6 ∧
      ∀ p H', Same H H' → QAt H' p (qs.foldl plusQ (0, 1)) → Q (.ref p) H') D sc_sums (fun f cdv A outer s H vs Q E hr h => ?_)
  · obtain ⟨f, h1, h2, F⟩ := G.ex
    refine ⟨f, h1, h2, F.imp ?_⟩
    rintro vs H Q E ⟨as, qs, rfl, ha, hq, hz, k⟩
    refine ⟨?_, fun p hp => ⟨p, as, qs, rfl, upd_same, ha.same (same_new hp), hq, hz, fun p' H' s' => k p' H' ((same_new hp).trans s')⟩⟩
    rw [List.length_map, ha.1]
    exact Nat.le_of_lt (small1000 (by omega))
  · obtain ⟨t, as, qs, rfl, ht, ha, hq, hz, k⟩ := h
    have nd := sc_sums.nd
    refine ⟨_, (pss_cons (ps_expr (pe_k c_need_each hr (by decide) (by rfl) (pa_cons (pe_lc (own := [("each", 4)]) rfl nd (pi_tup (pv 0)) (blkOk_by (N := N_sums) (sc := defScope s_sums) (by decide +kernel)) (fun _ _ _ _ _ => pg_name (i := 4) nd rfl (Or.inl rfl)) (fun _ _ _ _ _ => pts_nil) (fun _ _ _ _ _ => (pe_k c_is_quotient hr (by decide) (by rfl) (pa_cons (pv 4) pa_nil)))) (pa_cons pe_str pa_nil))))
 (pss_cons (ps_set (i := 1) nd rfl (.inl rfl) (pe_tup (pa_cons pe_int (pa_cons pe_int pa_nil))))
 (pss_cons (ps_for PassesOwn.never rfl (pi_tup (pv 0)) (pg_tup rfl (pgs_cons (pg_name (i := 2) nd rfl (.inl rfl)) (pgs_cons (pg_name (i := 3) nd rfl (.inl rfl)) pgs_nil)))
 (pss_one (ps_set (i := 1) nd rfl (.inl rfl) (pe_k c_lowest hr (by decide) (by rfl) (pa_cons (pe_op op_add (pe_op op_mulW (pe_ix ix_tup (pv 1) pe_int (fun _ _ => rfl)) (pv 3)) (pe_op op_mulW (pv 2) (pe_ix ix_tup (pv 1) pe_int (fun _ _ => rfl)))) (pa_cons (pe_op op_mulW (pe_ix ix_tup (pv 1) pe_int (fun _ _ => rfl)) (pv 3)) pa_nil))))))
 (pss_one (ps_ret (pv 1)))))), ?_⟩
    refine ⟨_, rfl, t, rfl, ⟨_, .inl (.inl ht)⟩, fun D hD => lcM (walk_tup (xs := as.map V.ref)) (fun _ => .bl true) hD ?_ (fun H' sm => .inl (.inl (sm _ _ ht))) ?_ ?_⟩
    · rw [List.length_map, ha.1]
      exact small1000 (by omega)
    · intro x H' R hx sm h1
      obtain ⟨a, ham, rfl⟩ := List.mem_map.mp hx
      obtain ⟨i, hi, rfl⟩ := List.mem_iff_getElem.mp ham
      have hi2 : i < qs.length := by rw [← ha.1]; exact hi
      refine ⟨rfl, _, rfl, _, qs[i], rfl, (ha.2 i _ _ (List.getElem?_eq_getElem hi) (List.getElem?_eq_getElem hi2)).same sm, (hq _ (List.getElem_mem _)).1, h1⟩
    · intro H1 s1 hd
      have e : (as.map V.ref).map (fun _ => V.bl true) = List.replicate as.length (V.bl true) := by
        rw [List.map_map]
        exact List.map_eq_replicate_iff.mpr fun _ _ => rfl
      rw [e] at hd
      refine ⟨D, as.length, _, rfl, .inl (.inl hd), fun H2 s2 => ?_⟩
      have s02 : Same H H2 := s1.trans s2
      -- reached = (0, 1)
      refine ⟨(by show 2 ≤ sizeLine; decide), fun r hrr => ?_⟩
      have s03 : Same H (upd H2 r (.tup [.int 0, .int 1])) := s02.trans (same_new hrr)
      refine ⟨_, rfl, t, rfl, ⟨_, .inl (.inl (s03 _ _ ht))⟩, for_it (walk_tup (xs := as.map V.ref)) (fun i σ H' => ∃ (r : Addr) (y2 y3 y4 : Option V), σ = [some (.ref t), some (.ref r), y2, y3, y4] ∧ Same H H' ∧ QAt H' r ((qs.take i).foldl plusQ (0, 1)) ∧ IsQ ((qs.take i).foldl plusQ (0, 1)) ∧ Sz (1 + i * 701) ((qs.take i).foldl plusQ (0, 1)))
        ⟨r, none, none, none, rfl, s03, upd_same, q01, sz01⟩ (fun i σ H' _ ⟨_, _, _, _, _, sm, _⟩ => .inl (.inl (sm _ _ ht))) ?_ ?_⟩
      · rintro i x σ H3 H' hi ⟨r, y2, y3, y4, rfl, sm, hr3, iq, sz⟩ ⟨rfl, hx⟩
        rw [List.length_map] at hi
        have hi2 : i < qs.length := by rw [← ha.1]; exact hi
        rw [List.getElem?_map, List.getElem?_eq_getElem hi] at hx
        obtain rfl : V.ref as[i] = x := Option.some.inj hx
        have hqi := (ha.2 i _ _ (List.getElem?_eq_getElem hi) (List.getElem?_eq_getElem hi2)).same sm
        obtain ⟨iqq, szq⟩ := hq qs[i] (List.getElem_mem _)
        have hz6 : i < 6 := by omega
        have hb : 1 + i * 701 ≤ 4207 := by omega
        generalize hR : (qs.take i).foldl plusQ (0, 1) = R at *
        have w1 : CMulW R.1 qs[i].2 := wide_mul sz.t szq.b (by omega) (by decide) (by omega)
        have w2 : CMulW qs[i].1 R.2 := wide_mul szq.t sz.b (by decide) (by omega) (by omega)
        have w3 : CMulW R.2 qs[i].2 := wide_mul sz.b szq.b (by omega) (by decide) (by omega)
        have z1 := mul_lt sz.t szq.b
        have z2 := mul_lt szq.t sz.b
        have z3 := mul_lt sz.b szq.b
        refine ⟨_, _, rfl, hqi.sq, rfl, _, _, rfl, _, _, rfl, rfl, ?_⟩
        refine ⟨_, rfl, r, _, 0, _, rfl, rfl, hr3.sq, atI_nat (j := 0) rfl, _, rfl, _, _, rfl, rfl, w1, _, rfl, _, rfl, r, _, 1, _, rfl, rfl, hr3.sq, atI_nat (j := 1) rfl, _, _, rfl, rfl, w2, _, _, rfl, rfl, ?_⟩
        refine ⟨_, rfl, r, _, 1, _, rfl, rfl, hr3.sq, atI_nat (j := 1) rfl, _, rfl, _, _, rfl, rfl, w3, ?_⟩
        refine ⟨_, _, rfl, Int.mul_ne_zero iq.ne iqq.ne, ?_, lt_pow z3 (by omega), fun p hp => ?_⟩
        · refine lt_pow (add_lt (a := 1 + i * 701 + 700) z1 ?_) (by omega)
          rw [Nat.add_comm]
          exact z2
        · have st := fold_step plusQ (0, 1) (List.getElem?_eq_getElem hi2)
          rw [hR] at st
          refine ⟨p, _, _, y4, rfl, sm.trans (same_new hp), ?_, ?_, ?_⟩
          · rw [st]
            exact upd_same
          · rw [st]
            exact plus_isQ iq iqq
          · rw [st]
            exact (plus_sz sz szq iq iqq).mono (by omega)
      · rintro σ H3 ⟨r, y2, y3, y4, rfl, sm, hr3, _⟩
        rw [List.length_map, ha.1, List.take_length] at hr3
        exact ⟨_, rfl, k r H3 sm hr3⟩
end
end K1

set_option Elab.async false
set_option linter.all false
set_option maxRecDepth 100000
namespace K1
open PySem PySem.Spec PyProof.Rows L2 Gd Qu
section
variable {P : Program} {w : World} {K : PySem.W.Frag} {mg : Str → Option Value} {base : Heap}
theorem c_products (D : AtS K mg "products" s_products "quotients") (c_need_each : Cal P w K mg base 1 "need_each" (spNeedEach K)) (c_is_quotient : Cal P w K mg base 3 "is_quotient" spIsQ) (c_lowest : Cal P w K mg base 1 "lowest" spLow) :
    Cal P w K mg base 4 "products" (spFoldQ prodQ (1, 1)) := by
  have G : Cal P w K mg base 4 "products" _ := okS (k := 3) (sp := fun vs H Q _ => ∃ (t : Addr) (as : List Addr) (qs : List (Int × Int)), vs = [.ref t] ∧ H t = some (.tup (as.map V.ref)) ∧ QsAt H as qs ∧ (∀ q ∈ qs, IsQ q ∧ Sz 700 q) ∧ qs.length ≤ 6 ∧
      ∀ p H', Same H H' → QAt H' p (qs.foldl prodQ (1, 1)) → Q (.ref p) H') D sc_products (fun f cdv A outer s H vs Q E hr h => ?_)
  · obtain ⟨f, h1, h2, F⟩ := G.ex
    refine ⟨f, h1, h2, F.imp ?_⟩
    rintro vs H Q E ⟨as, qs, rfl, ha, hq, hz, k⟩
    refine ⟨?_, fun p hp => ⟨p, as, qs, rfl, upd_same, ha.same (same_new hp), hq, hz, fun p' H' s' => k p' H' ((same_new hp).trans s')⟩⟩
    rw [List.length_map, ha.1]
    exact Nat.le_of_lt (small1000 (by omega))
  · obtain ⟨t, as, qs, rfl, ht, ha, hq, hz, k⟩ := h
    have nd := sc_products.nd
    refine ⟨_, (pss_cons (ps_expr (pe_k c_need_each hr (by decide) (by rfl) (pa_cons (pe_lc (own := [("each", 4)]) rfl nd (pi_tup (pv 0)) (blkOk_by (N := N_products) (sc := defScope s_products) (by decide +kernel)) (fun _ _ _ _ _ => pg_name (i := 4) nd rfl (Or.inl rfl)) (fun _ _ _ _ _ => pts_nil) (fun _ _ _ _ _ => (pe_k c_is_quotient hr (by decide) (by rfl) (pa_cons (pv 4) pa_nil)))) (pa_cons pe_str pa_nil))))
 (pss_cons (ps_set (i := 1) nd rfl (.inl rfl) (pe_tup (pa_cons pe_int (pa_cons pe_int pa_nil))))
 (pss_cons (ps_for PassesOwn.never rfl (pi_tup (pv 0)) (pg_tup rfl (pgs_cons (pg_name (i := 2) nd rfl (.inl rfl)) (pgs_cons (pg_name (i := 3) nd rfl (.inl rfl)) pgs_nil)))
 (pss_one (ps_set (i := 1) nd rfl (.inl rfl) (pe_k c_lowest hr (by decide) (by rfl) (pa_cons (pe_op op_mulW (pe_ix ix_tup (pv 1) pe_int (fun _ _ => rfl)) (pv 2)) (pa_cons (pe_op op_mulW (pe_ix ix_tup (pv 1) pe_int (fun _ _ => rfl)) (pv 3)) pa_nil))))))
 (pss_one (ps_ret (pv 1)))))), ?_⟩
    refine ⟨_, rfl, t, rfl, ⟨_, .inl (.inl ht)⟩, fun D hD => lcM (walk_tup (xs := as.map V.ref)) (fun _ => .bl true) hD ?_ (fun H' sm => .inl (.inl (sm _ _ ht))) ?_ ?_⟩
    · rw [List.length_map, ha.1]
      exact small1000 (by omega)
    · intro x H' R hx sm h1
      obtain ⟨a, ham, rfl⟩ := List.mem_map.mp hx
      obtain ⟨i, hi, rfl⟩ := List.mem_iff_getElem.mp ham
      have hi2 : i < qs.length := by rw [← ha.1]; exact hi
      refine ⟨rfl, _, rfl, _, qs[i], rfl, (ha.2 i _ _ (List.getElem?_eq_getElem hi) (List.getElem?_eq_getElem hi2)).same sm, (hq _ (List.getElem_mem _)).1, h1⟩
    · intro H1 s1 hd
      have e : (as.map V.ref).map (fun _ => V.bl true) = List.replicate as.length (V.bl true) := by
        rw [List.map_map]
        exact List.map_eq_replicate_iff.mpr fun _ _ => rfl
      rw [e] at hd
      refine ⟨D, as.length, _, rfl, .inl (.inl hd), fun H2 s2 => ?_⟩
      have s02 : Same H H2 := s1.trans s2
      -- reached = (1, 1)
      refine ⟨(by show 2 ≤ sizeLine; decide), fun r hrr => ?_⟩
      have s03 : Same H (upd H2 r (.tup [.int 1, .int 1])) := s02.trans (same_new hrr)
      refine ⟨_, rfl, t, rfl, ⟨_, .inl (.inl (s03 _ _ ht))⟩, for_it (walk_tup (xs := as.map V.ref)) (fun i σ H' => ∃ (r : Addr) (y2 y3 y4 : Option V), σ = [some (.ref t), some (.ref r), y2, y3, y4] ∧ Same H H' ∧ QAt H' r ((qs.take i).foldl prodQ (1, 1)) ∧ IsQ ((qs.take i).foldl prodQ (1, 1)) ∧ Sz (1 + i * 701) ((qs.take i).foldl prodQ (1, 1)))
        ⟨r, none, none, none, rfl, s03, upd_same, q11, sz11⟩ (fun i σ H' _ ⟨_, _, _, _, _, sm, _⟩ => .inl (.inl (sm _ _ ht))) ?_ ?_⟩
      · rintro i x σ H3 H' hi ⟨r, y2, y3, y4, rfl, sm, hr3, iq, sz⟩ ⟨rfl, hx⟩
        rw [List.length_map] at hi
        have hi2 : i < qs.length := by rw [← ha.1]; exact hi
        rw [List.getElem?_map, List.getElem?_eq_getElem hi] at hx
        obtain rfl : V.ref as[i] = x := Option.some.inj hx
        have hqi := (ha.2 i _ _ (List.getElem?_eq_getElem hi) (List.getElem?_eq_getElem hi2)).same sm
        obtain ⟨iqq, szq⟩ := hq qs[i] (List.getElem_mem _)
        have hz6 : i < 6 := by omega
        have hb : 1 + i * 701 ≤ 4207 := by omega
        generalize hR : (qs.take i).foldl prodQ (1, 1) = R at *
        have w1 : CMulW R.1 qs[i].1 := wide_mul sz.t szq.t (by omega) (by decide) (by omega)
        have w3 : CMulW R.2 qs[i].2 := wide_mul sz.b szq.b (by omega) (by decide) (by omega)
        have z1 := mul_lt sz.t szq.t
        have z3 := mul_lt sz.b szq.b
        refine ⟨_, _, rfl, hqi.sq, rfl, _, _, rfl, _, _, rfl, rfl, ?_⟩
        refine ⟨_, rfl, r, _, 0, _, rfl, rfl, hr3.sq, atI_nat (j := 0) rfl, _, rfl, _, _, rfl, rfl, w1, ?_⟩
        refine ⟨_, rfl, r, _, 1, _, rfl, rfl, hr3.sq, atI_nat (j := 1) rfl, _, rfl, _, _, rfl, rfl, w3, ?_⟩
        refine ⟨_, _, rfl, Int.mul_ne_zero iq.ne iqq.ne, lt_pow z1 (by omega), lt_pow z3 (by omega), fun p hp => ?_⟩
        · have st := fold_step prodQ (1, 1) (List.getElem?_eq_getElem hi2)
          rw [hR] at st
          refine ⟨p, _, _, y4, rfl, sm.trans (same_new hp), ?_, ?_, ?_⟩
          · rw [st]
            exact upd_same
          · rw [st]
            exact prod_isQ iq iqq
          · rw [st]
            exact (prod_sz sz szq iq iqq).mono (by omega)
      · rintro σ H3 ⟨r, y2, y3, y4, rfl, sm, hr3, _⟩
        rw [List.length_map, ha.1, List.take_length] at hr3
        exact ⟨_, rfl, k r H3 sm hr3⟩

/-- two quotients in, one out -/
def spTwoQ (op : Int × Int → Int × Int → Int × Int) (ok : Int × Int → Prop) : Sp := fun vs H Q _ => ∃ (a b : Addr) (x y : Int × Int), vs = [.ref a, .ref b] ∧ QAt H a x ∧ QAt H b y ∧ IsQ x ∧ IsQ y ∧ ok y ∧ Sz 700 x ∧ Sz 700 y ∧
  ∀ p H', Same H H' → QAt H' p (op x y) → Q (.ref p) H'
theorem c_less (D : At K mg "less" s_less ["one", "other"]) (c_need : Cal P w K mg base 1 "need" spNeed) (c_is_quotient : Cal P w K mg base 3 "is_quotient" spIsQ) (c_lowest : Cal P w K mg base 1 "lowest" spLow) :
    Cal P w K mg base 4 "less" (spTwoQ lessQ fun _ => True) := by
  refine okC D sc_less (fun vs H Q E h => ?_) (fun f cdv A outer s H vs Q E hr h => ?_)
  · obtain ⟨a, b, x, y, rfl, _⟩ := h
    rfl
  · obtain ⟨a, b, x, y, rfl, ha, hb, ix, iy, _, sx, sy, k⟩ := h
    have nd := sc_less.nd
    refine ⟨_, (pss_cons (ps_expr (pe_k c_need hr (by decide) (by rfl) (pa_cons (pe_k c_is_quotient hr (by decide) (by rfl) (pa_cons (pv 0) pa_nil)) (pa_cons pe_str pa_nil))))
 (pss_cons (ps_expr (pe_k c_need hr (by decide) (by rfl) (pa_cons (pe_k c_is_quotient hr (by decide) (by rfl) (pa_cons (pv 1) pa_nil)) (pa_cons pe_str pa_nil))))
 (pss_one (ps_ret (pe_k c_lowest hr (by decide) (by rfl) (pa_cons (pe_op op_sub (pe_op op_mulW (pe_ix ix_tup (pv 0) pe_int (fun _ _ => rfl)) (pe_ix ix_tup (pv 1) pe_int (fun _ _ => rfl))) (pe_op op_mulW (pe_ix ix_tup (pv 1) pe_int (fun _ _ => rfl)) (pe_ix ix_tup (pv 0) pe_int (fun _ _ => rfl)))) (pa_cons (pe_op op_mulW (pe_ix ix_tup (pv 0) pe_int (fun _ _ => rfl)) (pe_ix ix_tup (pv 1) pe_int (fun _ _ => rfl))) pa_nil))))))), ?_⟩
    refine ⟨_, rfl, a, x, rfl, ha, ix, fun H1 s1 => ⟨_, rfl, ?_⟩⟩
    refine ⟨_, rfl, b, y, rfl, hb.same s1, iy, fun H2 s2 => ⟨_, rfl, ?_⟩⟩
    have s02 := s1.trans s2
    have h1 := (ha.same s02).sq (K := K)
    have h2 := (hb.same s02).sq (K := K)
    have w1 : CMulW x.1 y.2 := wide_mul sx.t sy.b (by decide) (by decide) (by decide)
    have w2 : CMulW y.1 x.2 := wide_mul sy.t sx.b (by decide) (by decide) (by decide)
    have w3 : CMulW x.2 y.2 := wide_mul sx.b sy.b (by decide) (by decide) (by decide)
    refine ⟨_, rfl, a, _, 0, _, rfl, rfl, h1, atI_nat (j := 0) rfl, _, rfl, b, _, 1, _, rfl, rfl, h2, atI_nat (j := 1) rfl, _, _, rfl, rfl, w1, ?_⟩
    refine ⟨_, rfl, b, _, 0, _, rfl, rfl, h2, atI_nat (j := 0) rfl, _, rfl, a, _, 1, _, rfl, rfl, h1, atI_nat (j := 1) rfl, _, _, rfl, rfl, w2, _, _, rfl, rfl, ?_⟩
    refine ⟨_, rfl, a, _, 1, _, rfl, rfl, h1, atI_nat (j := 1) rfl, _, rfl, b, _, 1, _, rfl, rfl, h2, atI_nat (j := 1) rfl, _, _, rfl, rfl, w3, ?_⟩
    refine ⟨_, _, rfl, Int.mul_ne_zero ix.ne iy.ne, lt_pow (sub_lt (mul_lt sx.t sy.b) (mul_lt sy.t sx.b)) (by decide), lt_pow (mul_lt sx.b sy.b) (by decide), fun p hp => ?_⟩
    exact k p _ (s02.trans (same_new hp)) upd_same
theorem c_over (D : At K mg "over" s_over ["one", "other"]) (c_need : Cal P w K mg base 1 "need" spNeed) (c_is_quotient : Cal P w K mg base 3 "is_quotient" spIsQ) (c_lowest : Cal P w K mg base 1 "lowest" spLow) :
    Cal P w K mg base 4 "over" (spTwoQ overQ fun y => y.1 ≠ 0) := by
  refine okC D sc_over (fun vs H Q E h => ?_) (fun f cdv A outer s H vs Q E hr h => ?_)
  · obtain ⟨a, b, x, y, rfl, _⟩ := h
    rfl
  · obtain ⟨a, b, x, y, rfl, ha, hb, ix, iy, ny, sx, sy, k⟩ := h
    have nd := sc_over.nd
    refine ⟨_, (pss_cons (ps_expr (pe_k c_need hr (by decide) (by rfl) (pa_cons (pe_k c_is_quotient hr (by decide) (by rfl) (pa_cons (pv 0) pa_nil)) (pa_cons pe_str pa_nil))))
 (pss_cons (ps_expr (pe_k c_need hr (by decide) (by rfl) (pa_cons (pe_and (pe_k c_is_quotient hr (by decide) (by rfl) (pa_cons (pv 1) pa_nil)) (pe_one (pe_cmpR op_ne (pe_ix ix_tup (pv 1) pe_int (fun _ _ => rfl)) pe_int (nomark _)))) (pa_cons pe_str pa_nil))))
 (pss_one (ps_ret (pe_k c_lowest hr (by decide) (by rfl) (pa_cons (pe_op op_mulW (pe_ix ix_tup (pv 0) pe_int (fun _ _ => rfl)) (pe_ix ix_tup (pv 1) pe_int (fun _ _ => rfl))) (pa_cons (pe_op op_mulW (pe_ix ix_tup (pv 0) pe_int (fun _ _ => rfl)) (pe_ix ix_tup (pv 1) pe_int (fun _ _ => rfl))) pa_nil))))))), ?_⟩
    refine ⟨_, rfl, a, x, rfl, ha, ix, fun H1 s1 => ⟨_, rfl, ?_⟩⟩
    refine ⟨_, rfl, b, y, rfl, hb.same s1, iy, fun H2 s2 => ⟨true, rfl, iteT ?_⟩⟩
    have s02 := s1.trans s2
    have h1 := (ha.same s02).sq (K := K)
    have h2 := (hb.same s02).sq (K := K)
    have w1 : CMulW x.1 y.2 := wide_mul sx.t sy.b (by decide) (by decide) (by decide)
    have w3 : CMulW x.2 y.1 := wide_mul sx.b sy.t (by decide) (by decide) (by decide)
    refine ⟨_, rfl, b, _, 0, _, rfl, rfl, h2, atI_nat (j := 0) rfl, rfl, ?_⟩
    refine ⟨V.str "other", ?_, ?_⟩
    · rw [decide_eq_false (show ¬ V.int y.1 = V.int 0 from fun z => ny (V.int.inj z))]
      rfl
    refine ⟨_, rfl, a, _, 0, _, rfl, rfl, h1, atI_nat (j := 0) rfl, _, rfl, b, _, 1, _, rfl, rfl, h2, atI_nat (j := 1) rfl, _, _, rfl, rfl, w1, ?_⟩
    refine ⟨_, rfl, a, _, 1, _, rfl, rfl, h1, atI_nat (j := 1) rfl, _, rfl, b, _, 0, _, rfl, rfl, h2, atI_nat (j := 0) rfl, _, _, rfl, rfl, w3, ?_⟩
    refine ⟨_, _, rfl, Int.mul_ne_zero ix.ne ny, lt_pow (mul_lt sx.t sy.b) (by decide), lt_pow (mul_lt sx.b sy.t) (by decide), fun p hp => ?_⟩
    exact k p _ (s02.trans (same_new hp)) upd_same
def spQuot : Sp := fun vs H Q _ => ∃ t b : Int, vs = [.int t, .int b] ∧ b ≠ 0 ∧ t.natAbs < 2 ^ 8000 ∧ b.natAbs < 2 ^ 8000 ∧ ∀ p H', Same H H' → QAt H' p (cut t b) → Q (.ref p) H'
theorem c_quotient (D : At K mg "quotient" s_quotient ["top", "bottom"]) (c_need : Cal P w K mg base 1 "need" spNeed) (c_is_integer : Cal P w K mg base 1 "is_integer" spIsInt) (c_lowest : Cal P w K mg base 1 "lowest" spLow) :
    Cal P w K mg base 2 "quotient" spQuot := by
  refine okC D sc_quotient (fun vs H Q E h => ?_) (fun f cdv A outer s H vs Q E hr h => ?_)
  · obtain ⟨t, b, rfl, _⟩ := h
    rfl
  · obtain ⟨t, b, rfl, hb, ht, hbb, k⟩ := h
    have nd := sc_quotient.nd
    refine ⟨_, (pss_cons (ps_expr (pe_k c_need hr (by decide) (by rfl) (pa_cons (pe_k c_is_integer hr (by decide) (by rfl) (pa_cons (pv 0) pa_nil)) (pa_cons pe_str pa_nil))))
 (pss_cons (ps_expr (pe_k c_need hr (by decide) (by rfl) (pa_cons (pe_and (pe_k c_is_integer hr (by decide) (by rfl) (pa_cons (pv 1) pa_nil)) (pe_one (pe_cmpR op_ne (pv 1) pe_int (nomark _)))) (pa_cons pe_str pa_nil))))
 (pss_one (ps_ret (pe_k c_lowest hr (by decide) (by rfl) (pa_cons (pv 0) (pa_cons (pv 1) pa_nil))))))), ?_⟩
    refine ⟨_, rfl, t, rfl, _, rfl, _, rfl, b, rfl, true, rfl, iteT ⟨_, rfl, rfl, V.str "bottom", ?_, _, rfl, _, rfl, t, b, rfl, hb, ht, hbb, fun p hp => k p _ (same_new hp) upd_same⟩⟩
    rw [decide_eq_false (show ¬ V.int b = V.int 0 from fun z => hb (V.int.inj z))]
    rfl
end
end K1

set_option Elab.async false
set_option linter.all false
set_option maxRecDepth 100000
namespace K1
open PySem PySem.Spec PyProof.Rows L2 Gd Qu Nm
theorem modN (a b : Nat) : (a : Int) % (b : Int) = ((a % b : Nat) : Int) := rfl
theorem divN (a b : Nat) : (a : Int) / (b : Int) = ((a / b : Nat) : Int) := rfl
theorem mod0 {n t : Nat} : V.int ((n : Int) % (t : Int)) = V.int 0 ↔ t ∣ n := by
  rw [modN]
  constructor
  · intro h
    have := V.int.inj h
    exact Nat.dvd_of_mod_eq_zero (by omega)
  · intro h
    rw [Nat.mod_eq_zero_of_dvd h]
    rfl
def cp (x : Nat × Nat) : Int × Int := ((x.1 : Int), (x.2 : Int))
section
variable {P : Program} {w : World} {K : PySem.W.Frag} {mg : Str → Option Value} {base : Heap}
def spLeast : Sp := fun vs H Q _ => ∃ n : Nat, vs = [.int n] ∧ 2 ≤ n ∧ n ≤ 1000000 ∧ ∀ l : Nat, Least n l → Q (.int l) H
theorem c_least_prime (D : At K mg "least_prime" s_least_prime ["number"]) : Cal P w K mg base 1 "least_prime" spLeast := by
  refine okC D sc_least_prime (fun vs H Q E h => ?_) (fun f cdv A outer s H vs Q E hr h => ?_)
  · obtain ⟨n, rfl, _⟩ := h
    rfl
  · obtain ⟨n, rfl, hn, hm, k⟩ := h
    have nd := sc_least_prime.nd
    refine ⟨_, (pss_cons (ps_set (i := 1) nd rfl (.inl rfl) pe_int)
 (pss_cons (ps_while PassesOwn.never (pt_cmpR op_le (pe_op op_mul (pv 1) (pv 1)) (pv 0) (nomark _))
 (pss_cons (ps_if (pt_cmpR op_eq (pe_op op_mod (pv 0) (pv 1)) pe_int (nomark _))
 (pss_one (ps_ret (pv 1)))
 pss_nil)
 (pss_one (ps_aug (i := 1) nd rfl (.inl rfl) pe_int ip_add))))
 (pss_one (ps_ret (pv 0))))), ?_⟩
    refine ⟨fun m σ H' => ∃ t : Nat, σ = [some (.int n), some (.int t)] ∧ H = H' ∧ 2 ≤ t ∧ t ≤ n + 1 ∧ (∀ d, 2 ≤ d → d < t → ¬ d ∣ n) ∧ m = n + 2 - t, ⟨n, 2, rfl, rfl, by decide, by omega, fun d h1 h2 => by omega, by omega⟩, ?_⟩
    rintro m σ _ ⟨t, rfl, rfl, ht, htn, hd, rfl⟩
    refine ⟨_, rfl, _, rfl, _, _, rfl, rfl, .inl ⟨by omega, by omega⟩, _, rfl, _, _, rfl, rfl, _, rfl, ?_⟩
    refine ite2 (fun c => ?_) (fun c => ?_)
    · have c1 : (t : Int) * t ≤ n := of_decide_eq_true c
      have c2 : t * t ≤ n := by exact_mod_cast c1
      have c3 : t ≤ n := Nat.le_trans (Nat.le_mul_of_pos_left t (by omega)) c2
      refine ⟨fun σ' H' => ∃ m', m' < n + 2 - t ∧ ∃ t : Nat, σ' = [some (.int n), some (.int t)] ∧ H = H' ∧ 2 ≤ t ∧ t ≤ n + 1 ∧ (∀ d, 2 ≤ d → d < t → ¬ d ∣ n) ∧ m' = n + 2 - t, fun _ _ z => z, ?_⟩
      refine ⟨_, rfl, _, rfl, _, _, rfl, rfl, (by show (0 : Int) < t; omega), rfl, _, rfl, ite2 (fun e => ?_) (fun e => ?_)⟩
      · have e1 := mod0.mp (of_decide_eq_true e)
        exact ⟨_, rfl, k t (least_at ht hd e1)⟩
      · have e1 : ¬ t ∣ n := fun z => e (decide_eq_true (mod0.mpr z))
        refine ⟨_, rfl, _, _, rfl, rfl, n + 2 - (t + 1), by omega, t + 1, rfl, rfl, by omega, by omega, fun d h1 h2 h3 => ?_, rfl⟩
        by_cases ed : d = t
        · subst ed
          exact e1 h3
        · exact hd d h1 (by omega) h3
    · have c1 : ¬ (t : Int) * t ≤ n := fun z => c (decide_eq_true z)
      have c2 : n < t * t := by
        refine Nat.lt_of_not_le fun z => c1 ?_
        exact_mod_cast z
      exact ⟨_, rfl, k n (least_self hn hd c2)⟩
end
end K1

set_option Elab.async false
set_option linter.all false
set_option maxRecDepth 100000
namespace K1
open PySem PySem.Spec PyProof.Rows L2 Gd Qu Nm
/-- between two turns of the outer loop: what is found, what is left -/
structure Half (n : Nat) (ps : List (Nat × Nat)) (left : Nat) : Prop where
  prod : prodN (ps.map (·.2)) * left = n
  asc : (ps.map (·.1)).Pairwise (· < ·)
  pw : ∀ x ∈ ps, Pr x.1 ∧ ∃ e, 1 ≤ e ∧ x.2 = x.1 ^ e
  more : ∀ x ∈ ps, ∀ p, Pr p → p ∣ left → x.1 < p
  pos : 1 ≤ left
theorem prodN_snoc (l : List Nat) (a : Nat) : prodN (l ++ [a]) = prodN l * a := by
  rw [prodN_append]
  show prodN l * (a * 1) = _
  rw [Nat.mul_one]
theorem Half.step {n left l e rest : Nat} {ps : List (Nat × Nat)} (h : Half n ps left) (hl : Least left l) (he : 1 ≤ e) (hs : rest * l ^ e = left) (hn : ¬ l ∣ rest) (hp : 1 ≤ rest) : Half n (ps ++ [(l, l ^ e)]) rest := by
  have dl : ∀ p, p ∣ rest → p ∣ left := fun p z => Nat.dvd_trans z ⟨l ^ e, hs.symm⟩
  refine ⟨?_, ?_, ?_, ?_, hp⟩
  · rw [List.map_append, List.map_singleton, prodN_snoc, ← h.prod, ← hs]
    ac_rfl
  · rw [List.map_append, List.map_singleton]
    refine List.pairwise_append.mpr ⟨h.asc, List.pairwise_singleton _ _, fun a ha b hb => ?_⟩
    obtain ⟨x, hx, rfl⟩ := List.mem_map.mp ha
    obtain rfl := List.mem_singleton.mp hb
    exact h.more x hx _ hl.pr hl.dvd
  · intro x hx
    rcases List.mem_append.mp hx with hx | hx
    · exact h.pw x hx
    · obtain rfl := List.mem_singleton.mp hx
      exact ⟨hl.pr, e, he, rfl⟩
  · intro x hx p hpr hd
    rcases List.mem_append.mp hx with hx | hx
    · exact h.more x hx p hpr (dl p hd)
    · obtain rfl := List.mem_singleton.mp hx
      have h1 := hl.least p hpr.1 (dl p hd)
      by_cases e1 : l = p
      · subst e1
        exact absurd hd hn
      · exact Nat.lt_of_le_of_ne h1 e1
theorem Half.len {n left : Nat} {ps : List (Nat × Nat)} (h : Half n ps left) : ps.length ≤ n := by
  have key : ∀ l : List (Nat × Nat), (∀ x ∈ l, Pr x.1 ∧ ∃ e, 1 ≤ e ∧ x.2 = x.1 ^ e) → l.length + 1 ≤ prodN (l.map (·.2)) := by
    intro l
    induction l with
    | nil => intro _; exact Nat.le_refl _
    | cons x l ih =>
      intro hx
      have h1 := ih fun y hy => hx y (List.mem_cons_of_mem _ hy)
      obtain ⟨h2, e, he, h3⟩ := hx x List.mem_cons_self
      have h4 : 2 ≤ x.2 := by
        rw [h3]
        exact Nat.le_trans h2.1 (Nat.le_self_pow (by omega) _)
      have h5 : 2 * (l.length + 1) ≤ x.2 * prodN (l.map (·.2)) := Nat.mul_le_mul h4 h1
      show l.length + 1 + 1 ≤ x.2 * prodN (l.map (·.2))
      omega
  have h1 := key ps h.pw
  have h2 : prodN (ps.map (·.2)) * 1 ≤ n := by
    rw [← h.prod]
    exact Nat.mul_le_mul_left _ h.pos
  omega
section
variable {P : Program} {w : World} {K : PySem.W.Frag} {mg : Str → Option Value} {base : Heap}
def spParts : Sp := fun vs H Q _ => ∃ n : Nat, vs = [.int n] ∧ 1 ≤ n ∧ n ≤ 10000 ∧ ∀ (a : Addr) (as : List Addr) (ps : List (Nat × Nat)) (H' : Hp), Parts n ps → ps.length ≤ n → Same H H' → H' a = some (.tup (as.map V.ref)) → QsAt H' as (ps.map cp) → Q (.ref a) H'
/-- the outer loop's word -/
def WOut (H : Hp) (n : Nat) (m : Nat) (σ : L2.St) (H' : Hp) : Prop := ∃ (l : Addr) (as : List Addr) (ps : List (Nat × Nat)) (left : Nat) (y3 y4 : Option V), σ = [some (.int n), some (.ref l), some (.int left), y3, y4] ∧
  Same H H' ∧ H l = none ∧ H' l = some (.lst (as.map V.ref)) ∧ QsAt H' as (ps.map cp) ∧ Half n ps left ∧ left = m
/-- the inner loop's word: l the least prime of left -/
def WIn (H1 : Hp) (n left l : Nat) (a : Addr) (m : Nat) (σ : L2.St) (H' : Hp) : Prop := ∃ (e rest : Nat), σ = [some (.int n), some (.ref a), some (.int rest), some (.int l), some (.int ((l ^ e : Nat) : Int))] ∧ H1 = H' ∧ rest * l ^ e = left ∧ 1 ≤ rest ∧ rest = m
theorem c_prime_parts (D : At K mg "prime_parts" s_prime_parts ["number"]) (c_least_prime : Cal P w K mg base 1 "least_prime" spLeast) (z_tuple : mg "tuple" = none) : Cal P w K mg base 2 "prime_parts" spParts := by
  refine okC D sc_prime_parts (fun vs H Q E h => ?_) (fun f cdv A outer s H vs Q E hr h => ?_)
  · obtain ⟨n, rfl, _⟩ := h
    rfl
  · obtain ⟨n, rfl, hn, hm, k⟩ := h
    have nd := sc_prime_parts.nd
    refine ⟨_, (pss_cons (ps_set (i := 1) nd rfl (.inl rfl) (pe_lst pa_nil))
 (pss_cons (ps_set (i := 2) nd rfl (.inl rfl) (pv 0))
 (pss_cons (ps_while PassesOwn.never (pt_cmpR op_gt (pv 2) pe_int (nomark _))
 (pss_cons (ps_set (i := 3) nd rfl (.inl rfl) (pe_k c_least_prime hr (by decide) (by rfl) (pa_cons (pv 2) pa_nil)))
 (pss_cons (ps_set (i := 4) nd rfl (.inl rfl) pe_int)
 (pss_cons (ps_while PassesOwn.never (pt_cmpR op_eq (pe_op op_mod (pv 2) (pv 3)) pe_int (nomark _))
 (pss_cons (ps_set (i := 2) nd rfl (.inl rfl) (pe_op op_fdiv (pv 2) (pv 3)))
 (pss_one (ps_set (i := 4) nd rfl (.inl rfl) (pe_op op_mul (pv 4) (pv 3))))))
 (pss_one (ps_expr (pe_bm PySem.F.plainAttrs_list PySem.F.slot_list_append PySem.F.type_list_append mt_append (pv 1) (pa_cons (pe_tup (pa_cons (pv 3) (pa_cons (pv 4) pa_nil))) pa_nil))))))))
 (pss_one (ps_ret (pe_tupleOf (by rfl) z_tuple (pv 1))))))), ?_⟩
    refine ⟨Nat.zero_le _, fun l hl => ⟨_, rfl, WOut H n, ⟨n, l, [], [], n, none, none, rfl, same_new hl, hl, upd_same, ⟨rfl, fun i a q e => by simp at e⟩, ⟨by show 1 * n = n; exact Nat.one_mul n, List.Pairwise.nil, fun x hx => absurd hx List.not_mem_nil, fun x hx => absurd hx List.not_mem_nil, hn⟩, rfl⟩, ?_⟩⟩
    clear hl l
    rintro m σ H1 ⟨l, as, ps, left, y3, y4, rfl, s1, hl, h1, hqs, hf, rfl⟩
    refine ⟨_, rfl, _, _, rfl, rfl, _, rfl, ite2 (fun c => ?_) (fun c => ?_)⟩
    · -- a turn
      have c1 : (1 : Int) < (left : Int) := of_decide_eq_true c
      have c2 : 2 ≤ left := by omega
      have lele : left ≤ n := by
        have hp : 1 ≤ prodN (ps.map (·.2)) := by
          refine prod_pos fun a ha => ?_
          obtain ⟨x, hx, rfl⟩ := List.mem_map.mp ha
          obtain ⟨q1, e, _, q2⟩ := hf.pw x hx
          rw [q2]
          exact Nat.pow_pos q1.pos
        rw [← hf.prod]
        exact Nat.le_mul_of_pos_left _ hp
      refine ⟨fun σ' H' => ∃ m', m' < left ∧ WOut H n m' σ' H', fun _ _ z => z, ?_⟩
      refine ⟨_, rfl, left, rfl, c2, by omega, fun p hp => ?_⟩
      have hp2 := hp.two
      have hppos : (0 : Int) < (p : Int) := by omega
      refine ⟨WIn H1 n left p l, ⟨left, 0, left, rfl, rfl, by rw [Nat.pow_zero, Nat.mul_one], by omega, rfl⟩, ?_⟩
      rintro m σ _ ⟨e, rest, rfl, rfl, hre, hrp, rfl⟩
      have ple : p ^ e ≤ left := by
        rw [← hre]
        exact Nat.le_mul_of_pos_left _ hrp
      have plel : p ≤ left := Nat.le_of_dvd (by omega) hp.dvd
      refine ⟨_, rfl, _, rfl, _, _, rfl, rfl, hppos, rfl, _, rfl, ite2 (fun d => ?_) (fun d => ?_)⟩
      · -- it divides once more
        have d1 := mod0.mp (of_decide_eq_true d)
        obtain ⟨r, hr2⟩ := d1
        have hdiv : rest / p = r := by
          rw [hr2]
          exact Nat.mul_div_cancel_left _ (by omega)
        refine ⟨fun σ' H' => ∃ m', m' < rest ∧ WIn H1 n left p l m' σ' H', fun _ _ z => z, ?_⟩
        refine ⟨_, rfl, _, rfl, _, _, rfl, rfl, ⟨hppos, by omega⟩, _, rfl, _, rfl, _, _, rfl, rfl, .inl ⟨by omega, by omega⟩, ?_⟩
        have r0 : 1 ≤ r := by
          cases r with
          | zero => rw [Nat.mul_zero] at hr2; omega
          | succ r => omega
        refine ⟨r, ?_, e + 1, r, ?_, rfl, ?_, r0, rfl⟩
        · rw [hr2]
          have : 2 * r ≤ p * r := Nat.mul_le_mul_right r hp2
          omega
        · rw [Nat.pow_succ, ← hdiv]
          rfl
        · rw [← hre, hr2, Nat.pow_succ]
          ac_rfl
      · -- it divides no more
        have d1 : ¬ p ∣ rest := fun z => d (decide_eq_true (mod0.mpr z))
        have he : 1 ≤ e := by
          cases e with
          | zero =>
            rw [Nat.pow_zero, Nat.mul_one] at hre
            rw [hre] at d1
            exact absurd hp.dvd d1
          | succ e => omega
        have hf' := hf.step hp he hre d1 hrp
        have hlen : as.length ≤ n := by
          have a1 := hf.len
          have a2 := hqs.1
          rw [List.length_map] at a2
          omega
        refine ⟨_, rfl, .inl ⟨rfl, _, .inl (.inl h1)⟩, _, rfl, _, rfl, (by show 2 ≤ sizeLine; decide), fun T hT => ⟨l, as.map V.ref, _, rfl, rfl, ?_, ?_, ?_⟩⟩
        · show upd H1 T _ l = _
          rw [upd_ne (ne_of_none h1 hT)]
          exact h1
        · rw [List.length_map]
          exact Nat.lt_of_le_of_lt hlen (Nat.lt_of_le_of_lt hm (by decide))
        · have sT : Same H1 (upd H1 T (.tup [V.int p, V.int ((p ^ e : Nat) : Int)])) := same_new hT
          have nlT : T ≠ l := (ne_of_none h1 hT).symm
          refine ⟨rest, ?_, l, as ++ [T], ps ++ [(p, p ^ e)], rest, _, _, rfl, same_own (s1.trans sT) hl, hl, ?_, ?_, hf', rfl⟩
          · rw [← hre]
            have : rest * 2 ≤ rest * p ^ e := Nat.mul_le_mul_left rest (Nat.le_trans hp2 (Nat.le_self_pow (by omega) _))
            omega
          · rw [upd_same, List.map_append]
            rfl
          · refine ⟨by rw [List.length_append, List.map_append, List.length_append, hqs.1]; rfl, fun i a q e1 e2 => ?_⟩
            rw [List.map_append] at e2
            by_cases hi : i < as.length
            · rw [List.getElem?_append_left hi] at e1
              rw [List.getElem?_append_left (by rw [← hqs.1]; exact hi)] at e2
              have q0 := hqs.2 i a q e1 e2
              have na : a ≠ l := fun z => by
                rw [z] at q0
                have := q0.symm.trans h1
                cases this
              show upd (upd H1 T _) l _ a = _
              rw [upd_ne na]
              exact sT _ _ q0
            · rw [List.getElem?_append_right (by omega)] at e1
              rw [List.getElem?_append_right (by rw [← hqs.1]; omega), ← hqs.1] at e2
              have i0 : i - as.length = 0 := by
                cases h : i - as.length with
                | zero => rfl
                | succ j =>
                  rw [h] at e1
                  simp at e1
              rw [i0] at e1 e2
              obtain rfl : T = a := by simpa using e1
              obtain rfl : cp (p, p ^ e) = q := by simpa using e2
              show upd (upd H1 T _) l _ T = _
              rw [upd_ne nlT, upd_same]
              rfl
    · -- none is left
      have c1 : ¬ (1 : Int) < (left : Int) := fun z => c (decide_eq_true z)
      have c2 : left = 1 := by
        have := hf.pos
        omega
      subst c2
      refine ⟨_, rfl, .inl ⟨l, _, rfl, .inl (.inl h1), fun a ha => ?_⟩⟩
      exact k a as ps _ ⟨by rw [← hf.prod, Nat.mul_one], hf.asc, hf.pw⟩ hf.len (s1.trans (same_new ha)) upd_same (hqs.same (same_new ha))
end
end K1

set_option Elab.async false
set_option linter.all false
set_option maxRecDepth 100000
namespace K1
open PySem PySem.Spec PyProof.Rows L2 Gd Qu Nm
theorem List.map_idx {α β γ : Type} {as : List α} {ps : List β} {f : α → γ} {g : β → γ} (hl : as.length = ps.length) (h : ∀ (i : Nat) a p, as[i]? = some a → ps[i]? = some p → f a = g p) : as.map f = ps.map g := by
  refine List.ext_getElem? fun i => ?_
  rw [List.getElem?_map, List.getElem?_map]
  cases ha : as[i]? with
  | none =>
    have : ps[i]? = none := List.getElem?_eq_none_iff.mpr (by rw [← hl]; exact List.getElem?_eq_none_iff.mp ha)
    rw [this]
    rfl
  | some a =>
    obtain ⟨hi, _⟩ := List.getElem?_eq_some_iff.mp ha
    have hp : ps[i]? = some ps[i] := List.getElem?_eq_getElem (by rw [← hl]; exact hi)
    rw [hp]
    exact congrArg some (h i a _ ha hp)
section
variable {P : Program} {w : World} {K : PySem.W.Frag} {mg : Str → Option Value} {base : Heap}
def spNum : Sp := fun vs H Q _ => ∃ n : Nat, vs = [.int n] ∧ 1 ≤ n ∧ n ≤ 10000 ∧ Q .non H
theorem c_need_number (D : At K mg "need_number" s_need_number ["number"]) (c_need : Cal P w K mg base 1 "need" spNeed) (c_is_size : Cal P w K mg base 2 "is_size" spIsSize) {tm : Tok} (m_MOST_FACTORED : mg "MOST_FACTORED" = some (.int 10000 tm)) :
    Cal P w K mg base 3 "need_number" spNum := by
  refine okC D sc_need_number (fun vs H Q E h => ?_) (fun f cdv A outer s H vs Q E hr h => ?_)
  · obtain ⟨n, rfl, _⟩ := h
    rfl
  · obtain ⟨n, rfl, h1, h2, k⟩ := h
    have nd := sc_need_number.nd
    refine ⟨_, (pss_one (ps_expr (pe_k c_need hr (by decide) (by rfl) (pa_cons (pe_and (pe_k c_is_size hr (by decide) (by rfl) (pa_cons (pv 0) pa_nil)) (pe_one (pe_cmpR op_le (pv 0) (pe_glob (v := .int 10000) rfl m_MOST_FACTORED ⟨_, rfl⟩) (nomark _)))) (pa_cons pe_str pa_nil))))), ?_⟩
    refine ⟨_, rfl, n, rfl, true, ?_, iteT ⟨_, rfl, _, _, rfl, rfl, V.str "number", ?_, k⟩⟩
    · rw [decide_eq_true (show (1 : Int) ≤ n by omega)]
    · show [V.bl (decide ((n : Int) ≤ 10000)), V.str "number"] = _
      rw [decide_eq_true (show (n : Int) ≤ 10000 by omega)]
def spIsPrime : Sp := fun vs H Q _ => ∃ n : Nat, vs = [.int n] ∧ 1 ≤ n ∧ n ≤ 10000 ∧ ∀ b : Bool, (b = true ↔ 2 ≤ n ∧ Least n n) → Q (.bl b) H
theorem c_is_prime (D : At K mg "is_prime" s_is_prime ["thing"]) (c_is_integer : Cal P w K mg base 1 "is_integer" spIsInt) (c_least_prime : Cal P w K mg base 1 "least_prime" spLeast) {tm : Tok} (m_MOST_FACTORED : mg "MOST_FACTORED" = some (.int 10000 tm)) :
    Cal P w K mg base 2 "is_prime" spIsPrime := by
  refine okC D sc_is_prime (fun vs H Q E h => ?_) (fun f cdv A outer s H vs Q E hr h => ?_)
  · obtain ⟨n, rfl, _⟩ := h
    rfl
  · obtain ⟨n, rfl, h1, h2, k⟩ := h
    have nd := sc_is_prime.nd
    refine ⟨_, (pss_one (ps_ret (pe_and (pe_k c_is_integer hr (by decide) (by rfl) (pa_cons (pv 0) pa_nil)) (pe_and (pe_chain op_lt op_le pe_int (pv 0) (pe_glob (v := .int 10000) rfl m_MOST_FACTORED ⟨_, rfl⟩)) (pe_one (pe_cmpR op_eq (pe_k c_least_prime hr (by decide) (by rfl) (pa_cons (pv 0) pa_nil)) (pv 0) (nomark _))))))), ?_⟩
    refine ⟨_, rfl, n, rfl, true, rfl, iteT ⟨_, rfl, _, _, rfl, rfl, _, rfl, ite2 (fun c => ?_) (fun c => ?_)⟩⟩
    · have c1 : (1 : Int) < n := of_decide_eq_true c
      refine ⟨_, _, rfl, rfl, true, ?_, iteT ⟨_, rfl, n, rfl, by omega, by omega, fun l hl => ⟨_, rfl, rfl, ?_⟩⟩⟩
      · show V.bl (decide ((n : Int) ≤ 10000)) = _
        rw [decide_eq_true (show (n : Int) ≤ 10000 by omega)]
      · refine k _ ?_
        rw [decide_eq_true_eq]
        constructor
        · intro e
          have e2 : l = n := by
            have := V.int.inj e
            omega
          exact ⟨by omega, e2 ▸ hl⟩
        · rintro ⟨_, e⟩
          rw [hl.uniq e]
    · refine ⟨false, rfl, iteF ?_⟩
      refine k false ⟨fun z => (Bool.false_ne_true z).elim, fun z => (c (decide_eq_true ?_)).elim⟩
      have := z.1
      omega
def spIsPP : Sp := fun vs H Q _ => ∃ n : Nat, vs = [.int n] ∧ 1 ≤ n ∧ n ≤ 10000 ∧ ∀ (b : Bool) (H' : Hp), Same H H' → (∀ ps, Parts n ps → (b = true ↔ ps.length = 1)) → Q (.bl b) H'
theorem parts1 : Parts 1 [] := ⟨rfl, List.Pairwise.nil, fun _ h => absurd h List.not_mem_nil⟩
theorem c_is_prime_power (D : At K mg "is_prime_power" s_is_prime_power ["thing"]) (c_is_integer : Cal P w K mg base 1 "is_integer" spIsInt) (c_prime_parts : Cal P w K mg base 2 "prime_parts" spParts) (z_len : mg "len" = none) {tm : Tok} (m_MOST_FACTORED : mg "MOST_FACTORED" = some (.int 10000 tm)) :
    Cal P w K mg base 3 "is_prime_power" spIsPP := by
  refine okC D sc_is_prime_power (fun vs H Q E h => ?_) (fun f cdv A outer s H vs Q E hr h => ?_)
  · obtain ⟨n, rfl, _⟩ := h
    rfl
  · obtain ⟨n, rfl, h1, h2, k⟩ := h
    have nd := sc_is_prime_power.nd
    refine ⟨_, (pss_one (ps_ret (pe_and (pe_k c_is_integer hr (by decide) (by rfl) (pa_cons (pv 0) pa_nil)) (pe_and (pe_chain op_lt op_le pe_int (pv 0) (pe_glob (v := .int 10000) rfl m_MOST_FACTORED ⟨_, rfl⟩)) (pe_one (pe_cmpR op_eq (pe_callB call_len_seq (by rfl) z_len PySem.boot_len (pa_cons (pe_k c_prime_parts hr (by decide) (by rfl) (pa_cons (pv 0) pa_nil)) pa_nil)) pe_int (nomark _))))))), ?_⟩
    refine ⟨_, rfl, n, rfl, true, rfl, iteT ⟨_, rfl, _, _, rfl, rfl, _, rfl, ite2 (fun c => ?_) (fun c => ?_)⟩⟩
    · have c1 : (1 : Int) < n := of_decide_eq_true c
      refine ⟨_, _, rfl, rfl, true, ?_, iteT ⟨_, rfl, n, rfl, by omega, by omega, fun a as ps H' hp _ s1 ha hq => ⟨a, _, rfl, .inr (.inl (.inl ha)), rfl, ?_⟩⟩⟩
      · show V.bl (decide ((n : Int) ≤ 10000)) = _
        rw [decide_eq_true (show (n : Int) ≤ 10000 by omega)]
      · refine k _ H' s1 fun qs hqs => ?_
        rw [decide_eq_true_eq, ← hp.uniq hqs, List.length_map, hq.1, List.length_map]
        constructor
        · intro e
          have := V.int.inj e
          omega
        · intro e
          rw [e]
          rfl
    · refine ⟨false, rfl, iteF ?_⟩
      refine k false H (Same.refl _) fun ps hp => ⟨fun z => (Bool.false_ne_true z).elim, fun z => ?_⟩
      have e : n = 1 := by
        have c1 : ¬ (1 : Int) < n := fun z => c (decide_eq_true z)
        omega
      subst e
      have e0 := parts1.uniq hp
      subst e0
      exact absurd z (by decide)
def spPrimes : Sp := fun vs H Q _ => ∃ n : Nat, vs = [.int n] ∧ 1 ≤ n ∧ n ≤ 10000 ∧ ∀ (a : Addr) (ps : List (Nat × Nat)) (H' : Hp), Parts n ps → Same H H' → H' a = some (.tup (ps.map fun x => V.int x.1)) → Q (.ref a) H'
/-- what a comprehension that unpacks pairs gives -/
theorem at_pairs {as : List Addr} {ps : List (Nat × Nat)} {H : Hp} (hq : QsAt H as (ps.map cp)) {x : V} (hx : x ∈ as.map V.ref) : ∃ (a : Addr) (p : Nat × Nat), x = V.ref a ∧ p ∈ ps ∧ QAt H a (cp p) := by
  obtain ⟨a, ha, rfl⟩ := List.mem_map.mp hx
  obtain ⟨i, hi, rfl⟩ := List.mem_iff_getElem.mp ha
  have hl := hq.1
  rw [List.length_map] at hl
  have hi2 : i < ps.length := by omega
  refine ⟨_, ps[i], rfl, List.getElem_mem _, hq.2 i _ _ (List.getElem?_eq_getElem hi) ?_⟩
  rw [List.getElem?_map, List.getElem?_eq_getElem hi2]
  rfl
/-- the first, the second of the pair at an address, as the heap has it -/
def fstAt (H : Hp) (x : V) : V := match x with
  | .ref a => match H a with
    | some (.tup (v :: _)) => v
    | _ => .non
  | _ => .non
def sndAt (H : Hp) (x : V) : V := match x with
  | .ref a => match H a with
    | some (.tup (_ :: v :: _)) => v
    | _ => .non
  | _ => .non
theorem fstAt_of {H : Hp} {a : Addr} {q : Int × Int} (h : QAt H a q) : fstAt H (.ref a) = .int q.1 := by
  unfold fstAt
  have e : H a = _ := h
  simp only [e]
theorem sndAt_of {H : Hp} {a : Addr} {q : Int × Int} (h : QAt H a q) : sndAt H (.ref a) = .int q.2 := by
  unfold sndAt
  have e : H a = _ := h
  simp only [e]
theorem map_fst {as : List Addr} {ps : List (Nat × Nat)} {H : Hp} (hq : QsAt H as (ps.map cp)) : (as.map V.ref).map (fstAt H) = ps.map fun x => V.int x.1 := by
  rw [List.map_map]
  refine List.map_idx (by have := hq.1; rw [List.length_map] at this; exact this) fun i a p e1 e2 => ?_
  exact fstAt_of (hq.2 i a (cp p) e1 (by rw [List.getElem?_map, e2]; rfl))
theorem map_snd {as : List Addr} {ps : List (Nat × Nat)} {H : Hp} (hq : QsAt H as (ps.map cp)) : (as.map V.ref).map (sndAt H) = ps.map fun x => V.int x.2 := by
  rw [List.map_map]
  refine List.map_idx (by have := hq.1; rw [List.length_map] at this; exact this) fun i a p e1 e2 => ?_
  exact sndAt_of (hq.2 i a (cp p) e1 (by rw [List.getElem?_map, e2]; rfl))
theorem c_primes_in (D : At K mg "primes_in" s_primes_in ["number"]) (c_prime_parts : Cal P w K mg base 2 "prime_parts" spParts) (z_tuple : mg "tuple" = none) :
    Cal P w K mg base 3 "primes_in" spPrimes := by
  refine okC D sc_primes_in (fun vs H Q E h => ?_) (fun f cdv A outer s H vs Q E hr h => ?_)
  · obtain ⟨n, rfl, _⟩ := h
    rfl
  · obtain ⟨n, rfl, h1, h2, k⟩ := h
    have nd := sc_primes_in.nd
    refine ⟨_, (pss_one (ps_ret (pe_tupleOf (by rfl) z_tuple (pe_lc (own := [("prime", 1), ("_", 2)]) (g := gTup K 2 (gCons (gName 1) (gCons (gName 2) gNil))) rfl nd (pi_tup (pe_k c_prime_parts hr (by decide) (by rfl) (pa_cons (pv 0) pa_nil))) (blkOk_by (N := N_primes_in) (sc := defScope s_primes_in) (by decide +kernel)) (fun _ _ _ _ _ => (pg_tup (n := 2) rfl (pgs_cons (pg_name (i := 1) nd rfl (.inl rfl) (hf := .inr rfl)) (pgs_cons (pg_name (i := 2) nd rfl (.inl rfl) (hf := .inr rfl)) pgs_nil)))) (fun _ _ _ _ _ => pts_nil) (fun _ _ _ _ _ => (pv 1)))))), ?_⟩
    refine ⟨_, rfl, n, rfl, h1, h2, fun a as ps H1 hp hl s1 ha hq => ⟨a, rfl, ⟨_, .inl (.inl ha)⟩, fun L hL => lcM (walk_tup (xs := as.map V.ref)) (fstAt H1) hL ?_ (fun H' sm => .inl (.inl (sm _ _ ha))) ?_ ?_⟩⟩
    · have := hq.1
      rw [List.length_map] at this
      rw [List.length_map, this]
      exact Nat.lt_of_le_of_lt hl (Nat.lt_of_le_of_lt h2 (by decide))
    · intro x H' R hx sm q
      obtain ⟨b, p, rfl, _, hb⟩ := at_pairs hq hx
      rw [fstAt_of hb] at q
      exact ⟨b, _, rfl, (hb.same sm).sq, rfl, _, _, rfl, _, _, rfl, rfl, rfl, _, rfl, q H' (Same.refl _)⟩
    · intro H2 s2 hd
      rw [map_fst hq] at hd
      refine .inl ⟨L, _, rfl, .inl (.inl hd), fun t ht => ?_⟩
      exact k t ps _ hp (s1.trans (s2.trans (same_new ht))) upd_same
theorem c_primes_of (D : At K mg "primes_of" s_primes_of ["number"]) (c_need_number : Cal P w K mg base 3 "need_number" spNum) (c_primes_in : Cal P w K mg base 3 "primes_in" spPrimes) :
    Cal P w K mg base 4 "primes_of" spPrimes := by
  refine okC D sc_primes_of (fun vs H Q E h => ?_) (fun f cdv A outer s H vs Q E hr h => ?_)
  · obtain ⟨n, rfl, _⟩ := h
    rfl
  · obtain ⟨n, rfl, h1, h2, k⟩ := h
    have nd := sc_primes_of.nd
    refine ⟨_, (pss_cons (ps_expr (pe_k c_need_number hr (by decide) (by rfl) (pa_cons (pv 0) pa_nil)))
 (pss_one (ps_ret (pe_k c_primes_in hr (by decide) (by rfl) (pa_cons (pv 0) pa_nil))))), ?_⟩
    exact ⟨_, rfl, n, rfl, h1, h2, _, rfl, n, rfl, h1, h2, k⟩
end
end K1

set_option Elab.async false
set_option linter.all false
set_option maxRecDepth 100000
namespace K1
open PySem PySem.Spec PyProof.Rows L2 Gd Qu Nm
/-- the divisors, by going through -/
def dvs (n : Nat) : List Nat := ((List.range n).map (1 + ·)).filter fun t => decide (n % t = 0)
theorem dvs_asc (n : Nat) : (dvs n).Pairwise (· < ·) := by
  refine List.Pairwise.filter _ (List.pairwise_map.mpr ?_)
  exact List.pairwise_lt_range.imp fun h => by omega
theorem dvs_mem {n : Nat} (hn : 1 ≤ n) (d : Nat) : d ∈ dvs n ↔ d ∣ n := by
  unfold dvs
  rw [List.mem_filter, List.mem_map]
  constructor
  · rintro ⟨_, h⟩
    exact Nat.dvd_of_mod_eq_zero (of_decide_eq_true h)
  · intro h
    have h1 := Nat.le_of_dvd hn h
    have h2 : 1 ≤ d := Nat.pos_of_dvd_of_pos h hn
    exact ⟨⟨d - 1, List.mem_range.mpr (by omega), by omega⟩, decide_eq_true (Nat.mod_eq_zero_of_dvd h)⟩
theorem filterMap_if {α β : Type} (l : List α) (f : α → β) (p : α → Bool) (g : β → Option β) (h : ∀ a ∈ l, g (f a) = if p a = true then some (f a) else none) : (l.map f).filterMap g = (l.filter p).map f := by
  induction l with
  | nil => rfl
  | cons a l ih =>
    have h1 := h a List.mem_cons_self
    have h2 := ih fun b hb => h b (List.mem_cons_of_mem _ hb)
    rw [List.map_cons]
    cases hp : p a with
    | true =>
      rw [if_pos hp] at h1
      rw [List.filterMap_cons_some h1, List.filter_cons_of_pos hp, h2]
      rfl
    | false =>
      rw [if_neg (by rw [hp]; exact Bool.false_ne_true)] at h1
      rw [List.filterMap_cons_none h1, List.filter_cons_of_neg (by rw [hp]; exact Bool.false_ne_true), h2]
theorem rgG_eq (n : Nat) : rgG 1 n = ((List.range n).map (1 + ·)).map fun t => V.int (t : Nat) := by
  unfold rgG
  rw [List.map_map]
  refine List.map_congr_left fun i _ => ?_
  show V.int (1 + (i : Int)) = V.int ((1 + i : Nat) : Int)
  congr 1
section
variable {P : Program} {w : World} {K : PySem.W.Frag} {mg : Str → Option Value} {base : Heap}
def spDvs : Sp := fun vs H Q _ => ∃ n : Nat, vs = [.int n] ∧ 1 ≤ n ∧ n ≤ 10000 ∧ ∀ (a : Addr) (H' : Hp), Same H H' → H' a = some (.tup ((dvs n).map fun t => V.int (t : Nat))) → Q (.ref a) H'
def dvF (n : Nat) (x : V) : Option V := match x with
  | .int i => if i = 0 then none else if (n : Int) % i = 0 then some (.int i) else none
  | _ => none
theorem c_divisors_of (D : At K mg "divisors_of" s_divisors_of ["number"]) (c_need_number : Cal P w K mg base 3 "need_number" spNum) (z_tuple : mg "tuple" = none) (z_range : mg "range" = none) :
    Cal P w K mg base 4 "divisors_of" spDvs := by
  refine okC D sc_divisors_of (fun vs H Q E h => ?_) (fun f cdv A outer s H vs Q E hr h => ?_)
  · obtain ⟨n, rfl, _⟩ := h
    rfl
  · obtain ⟨n, rfl, h1, h2, k⟩ := h
    have nd := sc_divisors_of.nd
    refine ⟨_, (pss_cons (ps_expr (pe_k c_need_number hr (by decide) (by rfl) (pa_cons (pv 0) pa_nil)))
 (pss_one (ps_ret (pe_tupleOf (by rfl) z_tuple (pe_lc (own := [("trial", 1)]) rfl nd (pi_range2 (by rfl) z_range (pa_cons pe_int (pa_cons (pe_op op_add (pv 0) pe_int) pa_nil))) (blkOk_by (N := N_divisors_of) (sc := defScope s_divisors_of) (by decide +kernel)) (fun _ _ _ _ _ => pg_name (i := 1) nd rfl (Or.inl rfl)) (fun _ _ _ _ _ => pts_one (pt_cmpR op_eq (pe_op op_mod (pv 0) (pv 1)) pe_int (nomark _))) (fun _ _ _ _ _ => (pv 1))))))), ?_⟩
    refine ⟨_, rfl, n, rfl, h1, h2, _, rfl, _, _, rfl, rfl, 1, (n : Int) + 1, rfl, ⟨by omega, by omega, by omega, by omega⟩, fun L hL => ?_⟩
    have en : ((n : Int) + 1 - 1).toNat = n := by omega
    rw [en]
    refine lcF walk_rg (dvF n) hL ?_ (fun _ _ => True.intro) ?_ ?_
    · rw [rgG_len]
      exact Nat.lt_of_le_of_lt h2 (by decide)
    · intro x H' R S hx sm q1 q2
      rw [rgG_eq] at hx
      obtain ⟨t, ht, rfl⟩ := List.mem_map.mp hx
      obtain ⟨i, hi, rfl⟩ := List.mem_map.mp ht
      refine ⟨rfl, _, rfl, _, rfl, _, _, rfl, rfl, (by show (0 : Int) < ((1 + i : Nat) : Int); omega), rfl, _, rfl, ?_⟩
      have n0 : ¬ ((1 + i : Nat) : Int) = 0 := by omega
      refine ite2 (fun c => ?_) (fun c => ?_)
      · have c1 : (n : Int) % ((1 + i : Nat) : Int) = 0 := V.int.inj (of_decide_eq_true c)
        refine ⟨_, rfl, q1 _ ?_ H' (Same.refl _)⟩
        unfold dvF
        simp only [if_neg n0, if_pos c1]
      · have c1 : ¬ (n : Int) % ((1 + i : Nat) : Int) = 0 := fun z => c (decide_eq_true (congrArg V.int z))
        refine q2 ?_ H' (Same.refl _)
        unfold dvF
        simp only [if_neg n0, if_neg c1]
    · intro H2 s2 hd
      have e : (rgG 1 n).filterMap (dvF n) = (dvs n).map fun t => V.int (t : Nat) := by
        rw [rgG_eq]
        refine filterMap_if _ _ _ _ fun t ht => ?_
        obtain ⟨i, hi, rfl⟩ := List.mem_map.mp ht
        have n0 : ¬ ((1 + i : Nat) : Int) = 0 := by omega
        unfold dvF
        simp only [if_neg n0]
        by_cases c : n % (1 + i) = 0
        · have c1 : (n : Int) % ((1 + i : Nat) : Int) = 0 := by rw [modN, c]; rfl
          rw [if_pos c1, if_pos (decide_eq_true c)]
        · have c1 : ¬ (n : Int) % ((1 + i : Nat) : Int) = 0 := by rw [modN]; omega
          rw [if_neg c1, if_neg fun z => c (of_decide_eq_true z)]
      rw [e] at hd
      refine .inl ⟨L, _, rfl, .inl (.inl hd), fun t ht => ?_⟩
      exact k t _ (s2.trans (same_new ht)) upd_same
def spTot : Sp := fun vs H Q _ => ∃ n : Nat, vs = [.int n] ∧ 1 ≤ n ∧ n ≤ 10000 ∧ ∀ (ps : List (Nat × Nat)) (H' : Hp), Parts n ps → Same H H' → Q (.int (totP ps : Nat)) H'
theorem parts_tot_le {n : Nat} {ps : List (Nat × Nat)} (h : Parts n ps) : ∀ i, totP (ps.take i) ≤ n := by
  intro i
  have key : ∀ (l : List (Nat × Nat)), (∀ x ∈ l, x ∈ ps) → totP l ≤ prodN (l.map (·.2)) := by
    intro l
    induction l with
    | nil => intro _; exact Nat.le_refl _
    | cons x l ih =>
      intro hx
      have e : totP (x :: l) = (x.2 - x.2 / x.1) * totP l := by
        show l.foldl _ (1 * (x.2 - x.2 / x.1)) = _
        rw [totP_go, Nat.one_mul]
      rw [e]
      exact Nat.mul_le_mul (Nat.sub_le _ _) (ih fun y hy => hx y (List.mem_cons_of_mem _ hy))
  have h1 := key (ps.take i) fun x hx => List.mem_of_mem_take hx
  have h2 : prodN ((ps.take i).map (·.2)) * prodN ((ps.drop i).map (·.2)) = n := by
    rw [← prodN_append, ← List.map_append, List.take_append_drop, h.prod]
  have h3 : 1 ≤ prodN ((ps.drop i).map (·.2)) := by
    refine prod_pos fun a ha => ?_
    obtain ⟨x, hx, rfl⟩ := List.mem_map.mp ha
    obtain ⟨q1, e, _, q2⟩ := h.pw x (List.mem_of_mem_drop hx)
    rw [q2]
    exact Nat.pow_pos q1.pos
  calc totP (ps.take i) ≤ prodN ((ps.take i).map (·.2)) := h1
    _ ≤ prodN ((ps.take i).map (·.2)) * prodN ((ps.drop i).map (·.2)) := Nat.le_mul_of_pos_right _ h3
    _ = n := h2
theorem parts_le {n : Nat} {ps : List (Nat × Nat)} (hn : 1 ≤ n) (h : Parts n ps) : ∀ x ∈ ps, 2 ≤ x.1 ∧ x.1 ≤ n ∧ 1 ≤ x.2 ∧ x.2 ≤ n := by
  intro x hx
  obtain ⟨q1, e, he, q2⟩ := h.pw x hx
  have d1 := ((h.mem x.1).mp (List.mem_map.mpr ⟨x, hx, rfl⟩)).2
  have d2 : x.2 ∣ n := h.prod ▸ dvd_prod (List.mem_map.mpr ⟨x, hx, rfl⟩)
  exact ⟨q1.1, Nat.le_of_dvd hn d1, by rw [q2]; exact Nat.pow_pos q1.pos, Nat.le_of_dvd hn d2⟩
theorem c_totient_of (D : At K mg "totient_of" s_totient_of ["number"]) (c_need_number : Cal P w K mg base 3 "need_number" spNum) (c_prime_parts : Cal P w K mg base 2 "prime_parts" spParts) :
    Cal P w K mg base 4 "totient_of" spTot := by
  refine okC D sc_totient_of (fun vs H Q E h => ?_) (fun f cdv A outer s H vs Q E hr h => ?_)
  · obtain ⟨n, rfl, _⟩ := h
    rfl
  · obtain ⟨n, rfl, h1, h2, k⟩ := h
    have nd := sc_totient_of.nd
    refine ⟨_, (pss_cons (ps_expr (pe_k c_need_number hr (by decide) (by rfl) (pa_cons (pv 0) pa_nil)))
 (pss_cons (ps_set (i := 1) nd rfl (.inl rfl) pe_int)
 (pss_cons (ps_for PassesOwn.never rfl (pi_tup (pe_k c_prime_parts hr (by decide) (by rfl) (pa_cons (pv 0) pa_nil))) (pg_tup rfl (pgs_cons (pg_name (i := 2) nd rfl (.inl rfl)) (pgs_cons (pg_name (i := 3) nd rfl (.inl rfl)) pgs_nil)))
 (pss_one (ps_set (i := 1) nd rfl (.inl rfl) (pe_op op_mul (pv 1) (pe_op op_sub (pv 3) (pe_op op_fdiv (pv 3) (pv 2)))))))
 (pss_one (ps_ret (pv 1)))))), ?_⟩
    refine ⟨_, rfl, n, rfl, h1, h2, _, rfl, n, rfl, h1, h2, fun a as ps H1 hp hl s1 ha hq => ⟨a, rfl, ⟨_, .inl (.inl ha)⟩, for_it (walk_tup (xs := as.map V.ref))
      (fun i σ H' => ∃ y2 y3 : Option V, σ = [some (.int n), some (.int (totP (ps.take i) : Nat)), y2, y3] ∧ H1 = H') ⟨none, none, rfl, rfl⟩ (fun i σ H' _ ⟨_, _, _, e⟩ => e ▸ .inl (.inl ha)) ?_ ?_⟩⟩
    · have hlen := hq.1
      rw [List.length_map] at hlen
      rintro i x σ H2 H' hi ⟨y2, y3, rfl, rfl⟩ ⟨eH, hx⟩
      obtain rfl := eH.symm
      rw [List.length_map] at hi
      have hi2 : i < ps.length := by omega
      rw [List.getElem?_map, List.getElem?_eq_getElem hi] at hx
      obtain rfl : V.ref as[i] = x := Option.some.inj hx
      have hqi : QAt H1 as[i] (cp ps[i]) := hq.2 i _ _ (List.getElem?_eq_getElem hi) (by rw [List.getElem?_map, List.getElem?_eq_getElem hi2]; rfl)
      obtain ⟨b1, b2, b3, b4⟩ := parts_le h1 hp ps[i] (List.getElem_mem _)
      have b5 := parts_tot_le hp i
      refine ⟨_, _, rfl, hqi.sq, rfl, _, _, rfl, _, _, rfl, rfl, ?_⟩
      refine ⟨_, rfl, _, rfl, _, rfl, _, rfl, _, _, rfl, rfl, ⟨?_, ?_⟩, _, _, rfl, rfl, _, _, rfl, rfl, .inl ⟨?_, ?_⟩, ?_⟩
      · show (0 : Int) < (ps[i].1 : Int)
        omega
      · show (ps[i].1 : Int) < 1073741824
        omega
      · omega
      · omega
      · refine ⟨some (.int ps[i].1), some (.int ps[i].2), ?_, rfl⟩
        have e1 : totP (ps.take (i + 1)) = totP (ps.take i) * (ps[i].2 - ps[i].2 / ps[i].1) := by
          unfold totP
          rw [fold_step _ _ (List.getElem?_eq_getElem hi2)]
        have e2 : ((ps[i].2 - ps[i].2 / ps[i].1 : Nat) : Int) = (ps[i].2 : Int) - (ps[i].2 : Int) / (ps[i].1 : Int) := by
          have := Nat.div_le_self ps[i].2 ps[i].1
          rw [divN]
          omega
        have e3 : ((totP (ps.take i) : Nat) : Int) * ((ps[i].2 : Int) - (ps[i].2 : Int) / (ps[i].1 : Int)) = ((totP (ps.take (i + 1)) : Nat) : Int) := by
          rw [e1, ← e2]
          exact (Int.natCast_mul _ _).symm
        show [some (V.int n), some (V.int (((totP (ps.take i) : Nat) : Int) * ((ps[i].2 : Int) - (ps[i].2 : Int) / (ps[i].1 : Int)))), _, _] = _
        rw [e3]
        rfl
    · rintro σ H2 ⟨y2, y3, rfl, rfl⟩
      have hlen := hq.1
      rw [List.length_map] at hlen
      refine ⟨_, rfl, ?_⟩
      have := k ps H1 hp s1
      rw [List.length_map, List.take_of_length_le (by omega)]
      exact this
def spPow : Sp := fun vs H Q _ => ∃ n : Nat, vs = [.int n] ∧ 1 ≤ n ∧ n ≤ 10000 ∧ ∀ (a : Addr) (ps : List (Nat × Nat)) (zs : List Int) (H' : Hp), Parts n ps → zs.Perm (ps.map fun x => (x.2 : Int)) → zs.Pairwise (· ≤ ·) → Same H H' → H' a = some (.tup (zs.map V.int)) → Q (.ref a) H'
theorem c_power_parts (D : At K mg "power_parts" s_power_parts ["number"]) (c_need_number : Cal P w K mg base 3 "need_number" spNum) (c_prime_parts : Cal P w K mg base 2 "prime_parts" spParts) (z_tuple : mg "tuple" = none) (z_sorted : mg "sorted" = none) :
    Cal P w K mg base 4 "power_parts" spPow := by
  refine okC D sc_power_parts (fun vs H Q E h => ?_) (fun f cdv A outer s H vs Q E hr h => ?_)
  · obtain ⟨n, rfl, _⟩ := h
    rfl
  · obtain ⟨n, rfl, h1, h2, k⟩ := h
    have nd := sc_power_parts.nd
    refine ⟨_, (pss_cons (ps_expr (pe_k c_need_number hr (by decide) (by rfl) (pa_cons (pv 0) pa_nil)))
 (pss_one (ps_ret (pe_tupleOf (by rfl) z_tuple (pe_callB cr_sortedI (by rfl) z_sorted (by decide +kernel) (pa_cons (pe_lc (own := [("_", 1), ("power", 2)]) (g := gTup K 2 (gCons (gName 1) (gCons (gName 2) gNil))) rfl nd (pi_tup (pe_k c_prime_parts hr (by decide) (by rfl) (pa_cons (pv 0) pa_nil))) (blkOk_by (N := N_power_parts) (sc := defScope s_power_parts) (by decide +kernel)) (fun _ _ _ _ _ => (pg_tup (n := 2) rfl (pgs_cons (pg_name (i := 1) nd rfl (.inl rfl) (hf := .inr rfl)) (pgs_cons (pg_name (i := 2) nd rfl (.inl rfl) (hf := .inr rfl)) pgs_nil)))) (fun _ _ _ _ _ => pts_nil) (fun _ _ _ _ _ => (pv 2))) pa_nil)))))), ?_⟩
    refine ⟨_, rfl, n, rfl, h1, h2, _, rfl, n, rfl, h1, h2, fun a as ps H1 hp hl s1 ha hq => ⟨a, rfl, ⟨_, .inl (.inl ha)⟩, fun L hL => lcM (walk_tup (xs := as.map V.ref)) (sndAt H1) hL ?_ (fun H' sm => .inl (.inl (sm _ _ ha))) ?_ ?_⟩⟩
    · have := hq.1
      rw [List.length_map] at this
      rw [List.length_map, this]
      exact Nat.lt_of_le_of_lt hl (Nat.lt_of_le_of_lt h2 (by decide))
    · intro x H' R hx sm q
      obtain ⟨b, p, rfl, _, hb⟩ := at_pairs hq hx
      rw [sndAt_of hb] at q
      exact ⟨b, _, rfl, (hb.same sm).sq, rfl, _, _, rfl, _, _, rfl, rfl, rfl, _, rfl, q H' (Same.refl _)⟩
    · intro H2 s2 hd
      have e : (ps.map fun x => V.int (x.2 : Int)) = (ps.map fun x => (x.2 : Int)).map V.int := by rw [List.map_map]; rfl
      rw [map_snd hq, e] at hd
      refine ⟨L, _, rfl, .inl (.inl hd), fun zs q hzp hza hq2 => .inl ⟨q, _, rfl, .inl (.inl upd_same), fun t ht => ?_⟩⟩
      exact k t ps zs _ hp hzp hza (s1.trans (s2.trans ((same_new hq2).trans (same_new ht)))) upd_same
end
end K1

set_option Elab.async false
set_option linter.all false
set_option maxRecDepth 100000
namespace K1
open PySem PySem.Spec PyProof.Rows L2 Gd Qu Nm
/-! ### the feed -/
def fdK (c : Addr) (sp ov tn : Int) : List (Key × V) := [(Sum.inr "cells", .ref c), (Sum.inr "spot", .int sp), (Sum.inr "over", .int ov), (Sum.inr "turn", .int tn)]
theorem fd_cells {c : Addr} {sp ov tn : Int} : valV (fdK c sp ov tn) (Sum.inr "cells") = some (.ref c) := by
  unfold fdK
  exact valV_pos rfl
theorem k1 : ¬ (Sum.inr "cells" : Key) = (Sum.inr "spot" : Key) := by decide +kernel
theorem k2 : ¬ (Sum.inr "cells" : Key) = (Sum.inr "over" : Key) := by decide +kernel
theorem k3 : ¬ (Sum.inr "cells" : Key) = (Sum.inr "turn" : Key) := by decide +kernel
theorem k4 : ¬ (Sum.inr "spot" : Key) = (Sum.inr "over" : Key) := by decide +kernel
theorem k5 : ¬ (Sum.inr "spot" : Key) = (Sum.inr "turn" : Key) := by decide +kernel
theorem k6 : ¬ (Sum.inr "over" : Key) = (Sum.inr "turn" : Key) := by decide +kernel
theorem k7 : ¬ (Sum.inr "turn" : Key) = (Sum.inr "over" : Key) := by decide +kernel
theorem k8 : ¬ (Sum.inr "turn" : Key) = (Sum.inr "spot" : Key) := by decide +kernel
theorem k9 : ¬ (Sum.inr "over" : Key) = (Sum.inr "spot" : Key) := by decide +kernel
theorem fd_spot {c : Addr} {sp ov tn : Int} : valV (fdK c sp ov tn) (Sum.inr "spot") = some (.int sp) := by
  unfold fdK
  rw [valV_neg k1, valV_pos rfl]
theorem fd_over {c : Addr} {sp ov tn : Int} : valV (fdK c sp ov tn) (Sum.inr "over") = some (.int ov) := by
  unfold fdK
  rw [valV_neg k2, valV_neg k4, valV_pos rfl]
theorem fd_turn {c : Addr} {sp ov tn : Int} : valV (fdK c sp ov tn) (Sum.inr "turn") = some (.int tn) := by
  unfold fdK
  rw [valV_neg k3, valV_neg k5, valV_neg k6, valV_pos rfl]
theorem ne_cells_spot : ¬ ("cells" : Str) = ("spot" : Str) := by decide +kernel
theorem ne_over_spot : ¬ ("over" : Str) = ("spot" : Str) := by decide +kernel
theorem ne_turn_spot : ¬ ("turn" : Str) = ("spot" : Str) := by decide +kernel
theorem ne_cells_over : ¬ ("cells" : Str) = ("over" : Str) := by decide +kernel
theorem ne_spot_over : ¬ ("spot" : Str) = ("over" : Str) := by decide +kernel
theorem ne_turn_over : ¬ ("turn" : Str) = ("over" : Str) := by decide +kernel
theorem ne_cells_turn : ¬ ("cells" : Str) = ("turn" : Str) := by decide +kernel
theorem ne_spot_turn : ¬ ("spot" : Str) = ("turn" : Str) := by decide +kernel
theorem ne_over_turn : ¬ ("over" : Str) = ("turn" : Str) := by decide +kernel
theorem put_spot {c : Addr} {sp ov tn z : Int} : putK (fdK c sp ov tn) (Sum.inr "spot") (.int z) = fdK c z ov tn := by
  unfold putK fdK
  rw [if_pos (by simp)]
  simp [ne_cells_spot, ne_over_spot, ne_turn_spot]
theorem put_over {c : Addr} {sp ov tn z : Int} : putK (fdK c sp ov tn) (Sum.inr "over") (.int z) = fdK c sp z tn := by
  unfold putK fdK
  rw [if_pos (by simp)]
  simp [ne_cells_over, ne_spot_over, ne_turn_over]
theorem put_turn {c : Addr} {sp ov tn z : Int} : putK (fdK c sp ov tn) (Sum.inr "turn") (.int z) = fdK c sp ov z := by
  unfold putK fdK
  rw [if_pos (by simp)]
  simp [ne_cells_turn, ne_spot_turn, ne_over_turn]
theorem merge_fd {c : Addr} {x y z : Int} : mergeK [] [((Sum.inr "cells" : Key), V.ref c), (Sum.inr "spot", .int x), (Sum.inr "over", .int y), (Sum.inr "turn", .int z)] = fdK c x y z := by
  unfold mergeK fdK putK
  simp [ne_cells_spot, ne_cells_over, ne_spot_over, ne_cells_turn, ne_spot_turn, ne_over_turn]
/-- a feed at d, of the cells at c, after at most B draws -/
structure FeedAt (H : Hp) (d c : Addr) (cells : List Int) (B : Nat) : Prop where
  ex : ∃ sp ov tn : Int, H d = some (.dK (fdK c sp ov tn)) ∧ 0 ≤ sp ∧ sp ≤ B ∧ 0 ≤ ov ∧ 0 ≤ tn ∧ tn ≤ B
  cl : H c = some (.lst (cells.map V.int))
  few : cells.length ≤ 63
theorem FeedAt.ne {H : Hp} {d c : Addr} {cells : List Int} {B : Nat} (F : FeedAt H d c cells B) : d ≠ c := by
  obtain ⟨sp, ov, tn, h, _⟩ := F.ex
  exact ne_of h F.cl (by intro z; cases z)
theorem FeedAt.same {H H' : Hp} {d c : Addr} {cells : List Int} {B : Nat} (s : Same H H') (F : FeedAt H d c cells B) : FeedAt H' d c cells B := by
  obtain ⟨sp, ov, tn, h, r⟩ := F.ex
  exact ⟨⟨sp, ov, tn, s _ _ h, r⟩, s _ _ F.cl, F.few⟩
theorem FeedAt.mono {H : Hp} {d c : Addr} {cells : List Int} {B B' : Nat} (F : FeedAt H d c cells B) (h : B ≤ B') : FeedAt H d c cells B' := by
  obtain ⟨sp, ov, tn, h1, h2, h3, h4, h5, h6⟩ := F.ex
  exact ⟨⟨sp, ov, tn, h1, h2, by omega, h4, h5, by omega⟩, F.cl, F.few⟩
def spDraw : Sp := fun vs H Q _ => ∃ (d c : Addr) (cells : List Int) (B l : Nat), vs = [.ref d, .int l] ∧ FeedAt H d c cells B ∧ B ≤ 1000000 ∧ 1 ≤ l ∧ l ≤ 1000000 ∧
  ∀ (r : Nat) (H' : Hp), r < l → FeedAt H' d c cells (B + 1) → Kp d H H' → Q (.int r) H'
theorem g_cells {H : Hp} {d c : Addr} {sp ov tn : Int} (h : H d = some (.dK (fdK c sp ov tn))) : DGet H d (.str "cells") (some (.ref c)) := by
  have e := DGet.k (k := (Sum.inr "cells" : Key)) h
  rw [fd_cells] at e
  exact e
theorem g_spot {H : Hp} {d c : Addr} {sp ov tn : Int} (h : H d = some (.dK (fdK c sp ov tn))) : DGet H d (.str "spot") (some (.int sp)) := by
  have e := DGet.k (k := (Sum.inr "spot" : Key)) h
  rw [fd_spot] at e
  exact e
theorem g_over {H : Hp} {d c : Addr} {sp ov tn : Int} (h : H d = some (.dK (fdK c sp ov tn))) : DGet H d (.str "over") (some (.int ov)) := by
  have e := DGet.k (k := (Sum.inr "over" : Key)) h
  rw [fd_over] at e
  exact e
theorem g_turn {H : Hp} {d c : Addr} {sp ov tn : Int} (h : H d = some (.dK (fdK c sp ov tn))) : DGet H d (.str "turn") (some (.int tn)) := by
  have e := DGet.k (k := (Sum.inr "turn" : Key)) h
  rw [fd_turn] at e
  exact e
theorem p_spot {H : Hp} {d c : Addr} {sp ov tn z : Int} (h : H d = some (.dK (fdK c sp ov tn))) : DPut H d (.str "spot") (.int z) (upd H d (.dK (fdK c z ov tn))) := by
  have e := DPut.k (k := (Sum.inr "spot" : Key)) (v := .int z) h (by show 4 < sizeLine; decide)
  rw [put_spot] at e
  exact e
theorem p_over {H : Hp} {d c : Addr} {sp ov tn z : Int} (h : H d = some (.dK (fdK c sp ov tn))) : DPut H d (.str "over") (.int z) (upd H d (.dK (fdK c sp z tn))) := by
  have e := DPut.k (k := (Sum.inr "over" : Key)) (v := .int z) h (by show 4 < sizeLine; decide)
  rw [put_over] at e
  exact e
theorem p_turn {H : Hp} {d c : Addr} {sp ov tn z : Int} (h : H d = some (.dK (fdK c sp ov tn))) : DPut H d (.str "turn") (.int z) (upd H d (.dK (fdK c sp ov z))) := by
  have e := DPut.k (k := (Sum.inr "turn" : Key)) (v := .int z) h (by show 4 < sizeLine; decide)
  rw [put_turn] at e
  exact e
section
variable {P : Program} {w : World} {K : PySem.W.Frag} {mg : Str → Option Value} {base : Heap}
def spFeed (K : PySem.W.Frag) : Sp := fun vs H Q _ => ∃ (a : Addr) (ns : List Int), vs = [.ref a] ∧ SqL K H a (ns.map V.int) ∧ ns.length ≤ 63 ∧ ∀ (d c : Addr) (cells : List Int) (H' : Hp), FeedAt H' d c cells 0 → Same H H' → Q (.ref d) H'
theorem c__law_feed (D : At K mg "_law_feed" s__law_feed ["_law_script"]) (z_int : mg "int" = none) : Cal P w K mg base 1 "_law_feed" (spFeed K) := by
  refine okC D sc__law_feed (fun vs H Q E h => ?_) (fun f cdv A outer s H vs Q E hr h => ?_)
  · obtain ⟨a, ns, rfl, _⟩ := h
    rfl
  · obtain ⟨a, ns, rfl, ha, hz, k⟩ := h
    have nd := sc__law_feed.nd
    refine ⟨_, (pss_one (ps_ret (pe_disp (pps_cons pe_str (pe_lc (own := [("_law_cell", 1)]) rfl nd (pi_list (pe_slice sl_list (pv 0) po_none (po_some pe_int))) (blkOk_by (N := N__law_feed) (sc := defScope s__law_feed) (by decide +kernel)) (fun _ _ _ _ _ => pg_name (i := 1) nd rfl (Or.inl rfl)) (fun _ _ _ _ _ => pts_nil) (fun _ _ _ _ _ => (pe_callTy call_int1 (by rfl) z_int (by decide +kernel) (pa_cons (pv 1) pa_nil)))) (pps_cons pe_str pe_int (pps_cons pe_str pe_int (pps_cons pe_str pe_int pps_nil)))) rfl rfl (by decide) (by decide)))), ?_⟩
    intro d hd
    have s0 : Same H (upd H d (.dK [])) := same_new hd
    obtain ⟨lo, hi, ec⟩ : ∃ lo hi, cutV (ns.map V.int) none (some 63) = ((ns.drop lo).take hi).map V.int := ⟨_, _, by unfold cutV; rw [← List.map_drop, ← List.map_take]⟩
    refine ⟨.ref a, rfl, 63, rfl, a, _, rfl, s0.seq ha, fun c hc => ⟨c, rfl, ⟨_, .inl (.inl upd_same)⟩, fun L hL => lcM (walk_list (xs := cutV (ns.map V.int) none (some 63))) id hL ?_ (fun H' sm => .inl (.inl (sm _ _ upd_same))) ?_ ?_⟩⟩
    · rw [ec, List.length_map]
      refine Nat.lt_of_le_of_lt (Nat.le_trans (List.length_take_le' _ _) ?_) (small1000 (Nat.le_refl _))
      rw [List.length_drop]
      omega
    · intro x H' R hx sm q
      rw [ec] at hx
      obtain ⟨i, _, rfl⟩ := List.mem_map.mp hx
      exact ⟨rfl, _, rfl, .inl ⟨i, rfl, q H' (Same.refl _)⟩⟩
    · intro H2 s2 hL2
      rw [List.map_id, ec] at hL2
      have sd : Same (upd H d (.dK [])) H2 := (same_new hc).trans s2
      refine ⟨sd _ _ upd_same, [((Sum.inr "cells" : Key), V.ref L), (Sum.inr "spot", .int 0), (Sum.inr "over", .int 0), (Sum.inr "turn", .int 0)], rfl, (by show 4 ≤ 15; decide), ?_⟩
      rw [merge_fd]
      have nL : L ≠ d := fun z => by
        rw [z] at hL2
        have := hL2.symm.trans (sd _ _ upd_same)
        cases this
      refine k d L ((ns.drop lo).take hi) _ ⟨⟨0, 0, 0, upd_same, by omega, by omega, by omega, by omega, by omega⟩, ?_, ?_⟩ ?_
      · show upd H2 d _ L = _
        rw [upd_ne nL]
        exact hL2
      · refine Nat.le_trans (List.length_take_le' _ _) ?_
        rw [List.length_drop]
        omega
      · exact same_own (s0.trans sd) hd
end
end K1

set_option Elab.async false
set_option linter.all false
set_option maxRecDepth 100000
namespace K1
open PySem PySem.Spec PyProof.Rows L2 Gd Qu Nm
theorem dpInts {K : PySem.W.Frag} {H : Hp} : ∀ ns : List Int, DpAll K H (ns.map V.int) (ns.map PyData.int)
  | [] => .nil
  | n :: ns => .cons (.int n) (dpInts ns)
theorem canInts : ∀ ns : List Int, PyData.canLayAll0 (ns.map PyData.int) = true
  | [] => by simp [PyData.canLayAll0]
  | n :: ns => by simp [PyData.canLayAll0, PyData.canLay0, canInts ns]
theorem depthInts : ∀ ns : List Int, PyData.depthAll (ns.map PyData.int) ≤ 1
  | [] => by simp [PyData.depthAll]
  | n :: ns => by
    have := depthInts ns
    simp [PyData.depthAll, PyData.depth]
    omega
theorem shapedInts (ns : List Int) : SeqAt.shaped (.list (ns.map PyData.int)) = true := by
  unfold SeqAt.shaped
  rw [Bool.and_eq_true]
  refine ⟨?_, decide_eq_true ?_⟩
  · simp [PyData.canLay0, canInts]
  · have := depthInts ns
    simp [PyData.depth]
    omega
section
variable {P : Program} {w : World} {K : PySem.W.Frag} {mg : Str → Option Value} {base : Heap}
theorem c__law_draw (D : At K mg "_law_draw" s__law_draw ["_law_feed_here", "_law_limit"]) (z_int : mg "int" = none) (z_len : mg "len" = none) : Cal P w K mg base 1 "_law_draw" spDraw := by
  refine okC D sc__law_draw (fun vs H Q E h => ?_) (fun f cdv A outer s H vs Q E hr h => ?_)
  · obtain ⟨d, c, cells, B, l, rfl, _⟩ := h
    rfl
  · obtain ⟨d, c, cells, B, l, rfl, F, hB, l1, l2, k⟩ := h
    have nd := sc__law_draw.nd
    have hu := hu_of hr
    have hu64 := hr.units
    refine ⟨_, (pss_cons (ps_dput hu (pv 0) pe_str (pe_op op_add (pe_dget hu (pv 0) pe_str (fun _ _ => rfl)) pe_int) rfl)
 (pss_cons (ps_if (pt_cmpR op_gt (pe_dget hu (pv 0) pe_str (fun _ _ => rfl)) pe_int (nomark _))
 (pss_cons (ps_set (i := 4) nd rfl (.inl rfl) (pe_op op_mod (pe_callTy call_int1 (by rfl) z_int (by decide +kernel) (pa_cons (pe_dget hu (pv 0) pe_str (fun _ _ => rfl)) pa_nil)) (pv 1)))
 (pss_cons (ps_dput hu (pv 0) pe_str (pe_op op_fdiv (pe_dget hu (pv 0) pe_str (fun _ _ => rfl)) (pv 1)) rfl)
 (pss_one (ps_ret (pv 4)))))
 pss_nil)
 (pss_cons (ps_par (i := 5) (j := 6) rfl nd rfl rfl (by decide) rfl rfl (pa_cons (pe_dget hu (pv 0) pe_str (fun _ _ => rfl)) (pa_cons (pe_dget hu (pv 0) pe_str (fun _ _ => rfl)) pa_nil)) rfl)
 (pss_cons (ps_dput hu (pv 0) pe_str (pe_op op_add (pv 6) pe_int) rfl)
 (C8.pss_cut (ps_set (i := 2) nd rfl (.inl rfl) (pe_ifExp (pt_cmpR (op_neD hu64) (pv 5) (pe_lst pa_nil) (nomark _)) (pe_ix ix_list (pv 5) (pe_op op_mod (pe_callTy call_int1 (by rfl) z_int (by decide +kernel) (pa_cons (pv 6) pa_nil)) (pe_callB call_len_seq (by rfl) z_len PySem.boot_len (pa_cons (pv 5) pa_nil))) (fun _ _ => rfl)) pe_int))
 (C8.pss_cut (ps_if (PW.pt (pw_and (pt_cmpR op_ge (pv 2) (pe_op op_pow pe_int pe_int) (nomark _)) (pw_and1 (pt_cmpR op_lt (pv 6) (pe_callB call_len_seq (by rfl) z_len PySem.boot_len (pa_cons (pv 5) pa_nil)) (nomark _)))))
 (pss_cons (ps_dput hu (pv 0) pe_str (pe_op op_fdiv (pv 2) (pv 1)) rfl)
 (pss_one (ps_ret (pe_op op_mod (pe_callTy call_int1 (by rfl) z_int (by decide +kernel) (pa_cons (pv 2) pa_nil)) (pv 1)))))
 pss_nil)
 (pss_cons (ps_set (i := 3) nd rfl (.inl rfl) (pe_op op_mod (pe_callTy call_int1 (by rfl) z_int (by decide +kernel) (pa_cons (pe_op op_add (pe_op op_add (pe_op op_mod (pe_callTy call_int1 (by rfl) z_int (by decide +kernel) (pa_cons (pv 2) pa_nil)) pe_int) (pe_op op_mul pe_int (pe_dget hu (pv 0) pe_str (fun _ _ => rfl)))) pe_int) pa_nil)) pe_int))
 (pss_cons (ps_set (i := 3) nd rfl (.inl rfl) (pe_op op_mod (pe_callTy call_int1 (by rfl) z_int (by decide +kernel) (pa_cons (pe_op op_add (pe_op op_add (pe_op op_mul (pv 3) (pv 3)) (pe_op op_mul pe_int (pe_dget hu (pv 0) pe_str (fun _ _ => rfl)))) pe_int) pa_nil)) pe_int))
 (pss_one (ps_ret (pe_op op_mod (pe_callTy call_int1 (by rfl) z_int (by decide +kernel) (pa_cons (pe_op op_fdiv (pe_op op_mod (pe_callTy call_int1 (by rfl) z_int (by decide +kernel) (pa_cons (pe_op op_add (pe_op op_mul (pv 3) (pv 3)) (pe_op op_mul pe_int (pv 3))) pa_nil)) pe_int) pe_int) pa_nil)) (pv 1)))))))))))), ?_⟩
    obtain ⟨sp, ov, tn, h0, a1, a2, a3, a4, a5⟩ := F.ex
    have ndc := F.ne
    have lpos : (0 : Int) < (l : Int) := by omega
    have ret : ∀ (z : Int) (H' : Hp), FeedAt H' d c cells (B + 1) → Kp d H H' → Q (.int (z % (l : Int))) H' := by
      intro z H' F' kp
      have e1 := Int.emod_nonneg z (show (l : Int) ≠ 0 by omega)
      have e2 := Int.emod_lt_of_pos z lpos
      have e3 := k (z % (l : Int)).toNat H' (by omega) F' kp
      rw [Int.toNat_of_nonneg e1] at e3
      exact e3
    -- the turn is counted
    have h1 : (upd H d (.dK (fdK c sp ov (tn + 1)))) d = some (.dK (fdK c sp ov (tn + 1))) := upd_same
    have c1 : (upd H d (.dK (fdK c sp ov (tn + 1)))) c = some (.lst (cells.map V.int)) := by
      rw [upd_ne ndc.symm]
      exact F.cl
    have kp1 : Kp d H (upd H d (.dK (fdK c sp ov (tn + 1)))) := Kp.upd_d
    refine ⟨_, rfl, d, _, rfl, g_turn h0, _, _, rfl, rfl, _, rfl, d, _, rfl, p_turn h0, ?_⟩
    generalize hH1 : upd H d (.dK (fdK c sp ov (tn + 1))) = H1 at *
    refine ⟨_, rfl, d, _, rfl, g_over h1, _, _, rfl, rfl, _, rfl, ite2 (fun e => ?_) (fun e => ?_)⟩
    · -- what is over gives a digit
      refine ⟨_, rfl, d, _, rfl, g_over h1, .inl ⟨ov, rfl, _, rfl, _, _, rfl, rfl, lpos, ?_⟩⟩
      refine ⟨_, rfl, d, _, rfl, g_over h1, _, rfl, _, _, rfl, rfl, ⟨lpos, by omega⟩, _, rfl, d, _, rfl, p_over h1, _, rfl, ?_⟩
      refine ret ov _ ⟨⟨sp, ov / l, tn + 1, upd_same, a1, by omega, Int.ediv_nonneg a3 (by omega), by omega, by omega⟩, ?_, F.few⟩ (kp1.trans Kp.upd_d)
      rw [upd_ne ndc.symm]
      exact c1
    · -- the next cell
      refine ⟨_, rfl, d, _, rfl, g_cells h1, _, rfl, d, _, rfl, g_spot h1, _, _, rfl, ?_⟩
      refine ⟨_, rfl, _, _, rfl, rfl, _, rfl, d, _, rfl, p_spot h1, ?_⟩
      have h2 : (upd H1 d (.dK (fdK c (sp + 1) ov (tn + 1)))) d = some (.dK (fdK c (sp + 1) ov (tn + 1))) := upd_same
      have c2 : (upd H1 d (.dK (fdK c (sp + 1) ov (tn + 1)))) c = some (.lst (cells.map V.int)) := by
        rw [upd_ne ndc.symm]
        exact c1
      have kp2 : Kp d H (upd H1 d (.dK (fdK c (sp + 1) ov (tn + 1)))) := kp1.trans Kp.upd_d
      generalize hH2 : upd H1 d (.dK (fdK c (sp + 1) ov (tn + 1))) = H2 at *
      refine ⟨fun σ' H' => ∃ z : Int, σ' = [some (.ref d), some (.int l), some (.int z), none, none, some (.ref c), some (.int sp)] ∧ Same H2 H', ?_, ?_⟩
      · refine ⟨_, rfl, Nat.zero_le _, fun p hp => ?_⟩
        have s3 : Same H2 (upd H2 p (.lst [])) := same_new hp
        have c3 := s3 _ _ c2
        refine ⟨.list (cells.map PyData.int), .list [], .lst (.inl (.inl c3)) (dpInts cells), .lst (.inl (.inl upd_same)) .nil, shapedInts cells, shapedInts [], _, rfl, ?_⟩
        cases cells with
        | nil => exact iteF ⟨_, rfl, s3⟩
        | cons n0 ns =>
          refine iteT ⟨_, rfl, _, rfl, .inl ⟨sp, rfl, _, rfl, c, _, rfl, .inl (.inl (.inl c3)), _, _, rfl, rfl, ?_, ?_⟩⟩
          · rw [List.length_map, List.length_cons]
            omega
          · have lp : (0 : Int) < ((ns.length + 1 : Nat) : Int) := by omega
            have e1 := Int.emod_nonneg sp (show ((ns.length + 1 : Nat) : Int) ≠ 0 by omega)
            have e2 := Int.emod_lt_of_pos sp lp
            have e3 : (sp % ((ns.length + 1 : Nat) : Int)).toNat < (n0 :: ns).length := by rw [List.length_cons]; omega
            refine ⟨c, _, sp % ((ns.length + 1 : Nat) : Int), .int ((n0 :: ns)[(sp % ((ns.length + 1 : Nat) : Int)).toNat]), rfl, ?_, .inl (.inl c3), ?_, _, rfl, s3⟩
            · rw [List.length_map, List.length_cons]
            · have e4 := atI_nat (xs := (n0 :: ns).map V.int) (j := (sp % ((ns.length + 1 : Nat) : Int)).toNat) (v := .int ((n0 :: ns)[(sp % ((ns.length + 1 : Nat) : Int)).toNat])) (by rw [List.getElem?_map, List.getElem?_eq_getElem e3]; rfl)
              rw [Int.toNat_of_nonneg e1] at e4
              exact e4
      · rintro σ' H3 ⟨z, rfl, s3⟩
        have h3 := s3 _ _ h2
        have c3 := s3 _ _ c2
        have kp3 : Kp d H H3 := kp2.trans s3.kp
        refine ⟨fun σ' H' => σ' = [some (V.ref d), some (.int l), some (.int z), none, none, some (.ref c), some (.int sp)] ∧ H3 = H', ?_, ?_⟩
        · refine ⟨_, rfl, _, _, rfl, rfl, ⟨by decide, by decide, by decide⟩, _, _, rfl, rfl, _, rfl, ite2 (fun e1 => ?_) (fun _ => iteF ⟨rfl, rfl⟩)⟩
          refine ⟨_, rfl, _, rfl, c, _, rfl, .inl (.inl (.inl c3)), _, _, rfl, rfl, _, rfl, ite2 (fun e2 => ?_) (fun _ => ⟨rfl, rfl⟩)⟩
          have z0 : (10 : Int) ^ (18 : Int).toNat ≤ z := of_decide_eq_true e1
          have z1 : (0 : Int) ≤ z := Int.le_trans (by decide) z0
          refine ⟨_, rfl, _, rfl, _, _, rfl, rfl, ⟨lpos, by omega⟩, _, rfl, d, _, rfl, p_over h3, ?_⟩
          refine ⟨_, rfl, .inl ⟨z, rfl, _, rfl, _, _, rfl, rfl, lpos, ?_⟩⟩
          refine ret z _ ⟨⟨sp + 1, z / l, tn + 1, upd_same, by omega, by omega, Int.ediv_nonneg z1 (by omega), by omega, by omega⟩, ?_, F.few⟩ (kp3.trans Kp.upd_d)
          rw [upd_ne ndc.symm]
          exact c3
        · rintro σ' _ ⟨rfl, rfl⟩
          refine ⟨_, rfl, .inl ⟨z, rfl, _, _, rfl, rfl, (show (0 : Int) < 1000417741 by decide), _, rfl, d, _, rfl, g_turn h3, _, _, rfl, rfl, .inl ⟨by decide, by decide⟩, _, _, rfl, rfl, _, _, rfl, rfl, .inl ⟨_, rfl, _, _, rfl, rfl, (show (0 : Int) < 2147340219 by decide), ?_⟩⟩⟩
          generalize hx : (z % 1000417741 + 289440 * (tn + 1) + 13318) % (2147340219 : Int) = x
          have x1 : 0 ≤ x := by rw [← hx]; exact Int.emod_nonneg _ (by decide)
          have x2 : x < 2147340219 := by rw [← hx]; exact Int.emod_lt_of_pos _ (by decide)
          refine ⟨_, rfl, _, rfl, _, _, rfl, rfl, .inl ⟨by omega, by omega⟩, _, rfl, d, _, rfl, g_turn h3, _, _, rfl, rfl, .inl ⟨by decide, by decide⟩, _, _, rfl, rfl, _, _, rfl, rfl, .inl ⟨_, rfl, _, _, rfl, rfl, (show (0 : Int) < 2147334307 by decide), ?_⟩⟩
          generalize hy : (x * x + 6687164 * (tn + 1) + 14958) % (2147334307 : Int) = y
          have y1 : 0 ≤ y := by rw [← hy]; exact Int.emod_nonneg _ (by decide)
          have y2 : y < 2147334307 := by rw [← hy]; exact Int.emod_lt_of_pos _ (by decide)
          refine ⟨_, rfl, _, rfl, _, _, rfl, rfl, .inl ⟨by omega, by omega⟩, _, rfl, _, _, rfl, rfl, .inl ⟨by decide, by decide⟩, _, _, rfl, rfl, .inl ⟨_, rfl, _, _, rfl, rfl, (show (0 : Int) < 2147327041 by decide), _, _, rfl, rfl, ⟨by decide, by decide⟩, .inl ⟨_, rfl, _, rfl, _, _, rfl, rfl, lpos, ?_⟩⟩⟩
          refine ret _ _ ⟨⟨sp + 1, ov, tn + 1, h3, by omega, by omega, a3, by omega, by omega⟩, c3, F.few⟩ kp3
end
end K1

set_option Elab.async false
set_option linter.all false
set_option maxRecDepth 100000
namespace K1
open PySem PySem.Spec PyProof.Rows L2 Gd Qu Nm
section
variable {P : Program} {w : World} {K : PySem.W.Frag} {mg : Str → Option Value} {base : Heap}
def spSame (K : PySem.W.Frag) : Sp := fun vs H Q _ => ∃ (a b : Addr) (dt : PyData), vs = [.ref a, .ref b] ∧ Dp K H (.ref a) dt ∧ Dp K H (.ref b) dt ∧ OkD dt 16000000 ∧ Q (.bl true) H
theorem c__law_same (D : At K mg "_law_same" s__law_same ["_law_told", "_law_due"]) (z_repr : mg "repr" = none) : CalG P w K mg base 1 "_law_same" ["_law_told", "_law_due"] (spSame K) := by
  refine okCG D sc__law_same (fun vs H Q E h => ?_) (fun f cdv A outer s H vs Q E hr hG h => ?_)
  · obtain ⟨a, b, dt, rfl, _⟩ := h
    rfl
  · obtain ⟨a, b, dt, rfl, ha, hb, ok, k⟩ := h
    have nd := sc__law_same.nd
    refine ⟨_, (pss_one (ps_ret (pe_cmpR op_eq (pe_callB (call_repr hr hG) (by rfl) z_repr (by decide +kernel) (pa_cons (pv 0) pa_nil)) (pe_callB (call_repr hr hG) (by rfl) z_repr (by decide +kernel) (pa_cons (pv 1) pa_nil)) (nomark _)))), ?_⟩
    have len := ok.len (by rw [sizeLine_eq]; decide)
    refine ⟨_, rfl, a, dt, rfl, ha, ok.sh, ok.nd, ok.dp, len, _, rfl, b, dt, rfl, hb, ok.sh, ok.nd, ok.dp, len, rfl, ?_⟩
    rw [decide_eq_true rfl]
    exact k
def spGcd : Sp := fun vs H Q _ => ∃ a b : Int, vs = [.int a, .int b] ∧ Q (.int ((Nat.gcd a.natAbs b.natAbs : Nat) : Int)) H
theorem c__law_gcd (D : At K mg "_law_gcd" s__law_gcd ["_law_first", "_law_second"]) (z_abs : mg "abs" = none) (z_int : mg "int" = none) : Cal P w K mg base 1 "_law_gcd" spGcd := by
  refine okC D sc__law_gcd (fun vs H Q E h => ?_) (fun f cdv A outer s H vs Q E hr h => ?_)
  · obtain ⟨a, b, rfl, _⟩ := h
    rfl
  · obtain ⟨a, b, rfl, k⟩ := h
    have nd := sc__law_gcd.nd
    refine ⟨_, (pss_cons (ps_par (i := 2) (j := 3) rfl nd rfl rfl (by decide) rfl rfl (pa_cons (pe_callB call_abs (by rfl) z_abs (by decide +kernel) (pa_cons (pv 0) pa_nil)) (pa_cons (pe_callB call_abs (by rfl) z_abs (by decide +kernel) (pa_cons (pv 1) pa_nil)) pa_nil)) rfl)
 (pss_cons (ps_while PassesOwn.never (pt_cmpR op_gt (pv 3) pe_int (nomark _))
 (pss_one (ps_par (i := 2) (j := 3) rfl nd rfl rfl (by decide) rfl rfl (pa_cons (pv 3) (pa_cons (pe_op op_mod (pe_callTy call_int1 (by rfl) z_int (by decide +kernel) (pa_cons (pv 2) pa_nil)) (pv 3)) pa_nil)) rfl)))
 (pss_one (ps_ret (pv 2))))), ?_⟩
    refine ⟨_, rfl, a, rfl, _, rfl, b, rfl, _, _, rfl, ?_⟩
    have ea : (if a < 0 then -a else a) = (a.natAbs : Int) := by split <;> omega
    have eb : (if b < 0 then -b else b) = (b.natAbs : Int) := by split <;> omega
    rw [ea, eb]
    refine ⟨fun m σ H' => ∃ x : Nat, σ = [some (.int a), some (.int b), some (.int (x : Int)), some (.int (m : Int))] ∧ H = H' ∧ Nat.gcd x m = Nat.gcd a.natAbs b.natAbs, ⟨b.natAbs, a.natAbs, rfl, rfl, rfl⟩, ?_⟩
    rintro m σ _ ⟨x, rfl, rfl, e⟩
    refine ⟨_, rfl, _, _, rfl, rfl, _, rfl, ite2 (fun c => ?_) (fun c => ?_)⟩
    · have c1 : (0 : Int) < (m : Int) := of_decide_eq_true c
      refine ⟨fun σ' H' => ∃ m', m' < m ∧ ∃ x : Nat, σ' = [some (.int a), some (.int b), some (.int (x : Int)), some (.int (m' : Int))] ∧ H = H' ∧ Nat.gcd x m' = Nat.gcd a.natAbs b.natAbs, fun _ _ z => z, ?_⟩
      refine ⟨_, rfl, _, rfl, .inl ⟨_, rfl, _, rfl, _, _, rfl, rfl, c1, _, _, rfl, ?_⟩⟩
      refine ⟨x % m, Nat.mod_lt _ (by omega), m, rfl, rfl, ?_⟩
      rw [← e, Nat.gcd_comm x m, Nat.gcd_rec m x, Nat.gcd_comm]
    · have c1 : ¬ (0 : Int) < (m : Int) := fun z => c (decide_eq_true z)
      have m0 : m = 0 := by omega
      subst m0
      rw [Nat.gcd_zero_right] at e
      refine ⟨_, rfl, ?_⟩
      rw [e]
      exact k
theorem c__law_cut (D : At K mg "_law_cut" s__law_cut ["_law_first", "_law_second"]) (c__law_gcd : Cal P w K mg base 1 "_law_gcd" spGcd) (z_abs : mg "abs" = none) : Cal P w K mg base 2 "_law_cut" spQuot := by
  refine okC D sc__law_cut (fun vs H Q E h => ?_) (fun f cdv A outer s H vs Q E hr h => ?_)
  · obtain ⟨a, b, rfl, _⟩ := h
    rfl
  · obtain ⟨t, b, rfl, hb, ht, hbb, k⟩ := h
    have nd := sc__law_cut.nd
    refine ⟨_, (pss_cons (ps_set (i := 2) nd rfl (.inl rfl) (pe_k c__law_gcd hr (by decide) (by rfl) (pa_cons (pv 0) (pa_cons (pv 1) pa_nil))))
 (pss_cons (ps_set (i := 3) nd rfl (.inl rfl) (pe_ifExp (pt_cmpR op_gt (pv 1) pe_int (nomark _)) pe_int (pe_un un_neg pe_int)))
 (pss_one (ps_ret (pe_tup (pa_cons (pe_op op_fdivW (pe_op op_mul (pv 3) (pv 0)) (pv 2)) (pa_cons (pe_op op_fdivW (pe_callB call_abs (by rfl) z_abs (by decide +kernel) (pa_cons (pv 1) pa_nil)) (pv 2)) pa_nil))))))), ?_⟩
    have hg := gq_pos (a := t) hb
    have hgb : (gq t b).natAbs < 2 ^ 8000 := gq_lt hb hbb
    have c : CDivW t (gq t b) := wide_div hg hgb (by decide) (by decide)
    refine ⟨_, rfl, _, rfl, t, b, rfl, _, rfl, _, _, rfl, rfl, _, rfl, ?_⟩
    have eb : (if b < 0 then -b else b) = (b.natAbs : Int) := by split <;> omega
    by_cases h0 : 0 < b
    · rw [decide_eq_true h0]
      refine iteT ⟨_, rfl, _, rfl, _, _, rfl, rfl, .inl ⟨by decide, by decide⟩, _, rfl, _, gq t b, rfl, rfl, c, _, rfl, b, rfl, _, rfl, _, gq t b, rfl, rfl, c, (by show 2 ≤ sizeLine; decide), fun p hp => ?_⟩
      refine k p _ (same_new hp) ?_
      show upd H p (.tup [.int (1 * t / gq t b), .int ((if b < 0 then -b else b) / gq t b)]) p = _
      rw [upd_same, eb, Int.one_mul]
      unfold cut
      rw [if_pos h0]
    · rw [decide_eq_false h0]
      refine iteF ⟨1, rfl, _, rfl, _, rfl, _, _, rfl, rfl, .inl ⟨by decide, by decide⟩, _, rfl, _, gq t b, rfl, rfl, c, _, rfl, b, rfl, _, rfl, _, gq t b, rfl, rfl, c, (by show 2 ≤ sizeLine; decide), fun p hp => ?_⟩
      refine k p _ (same_new hp) ?_
      show upd H p (.tup [.int (-1 * t / gq t b), .int ((if b < 0 then -b else b) / gq t b)]) p = _
      rw [upd_same, eb, Int.neg_one_mul]
      unfold cut
      rw [if_neg h0]
theorem c__law_plus (D : At K mg "_law_plus" s__law_plus ["_law_one", "_law_other"]) (c__law_cut : Cal P w K mg base 2 "_law_cut" spQuot) : Cal P w K mg base 3 "_law_plus" (spTwoQ plusQ fun _ => True) := by
  refine okC D sc__law_plus (fun vs H Q E h => ?_) (fun f cdv A outer s H vs Q E hr h => ?_)
  · obtain ⟨a, b, x, y, rfl, _⟩ := h
    rfl
  · obtain ⟨a, b, x, y, rfl, ha, hb, ix, iy, _, sx, sy, k⟩ := h
    have nd := sc__law_plus.nd
    refine ⟨_, (pss_one (ps_ret (pe_k c__law_cut hr (by decide) (by rfl) (pa_cons (pe_op op_add (pe_op op_mulW (pe_ix ix_tup (pv 0) pe_int (fun _ _ => rfl)) (pe_ix ix_tup (pv 1) pe_int (fun _ _ => rfl))) (pe_op op_mulW (pe_ix ix_tup (pv 1) pe_int (fun _ _ => rfl)) (pe_ix ix_tup (pv 0) pe_int (fun _ _ => rfl)))) (pa_cons (pe_op op_mulW (pe_ix ix_tup (pv 0) pe_int (fun _ _ => rfl)) (pe_ix ix_tup (pv 1) pe_int (fun _ _ => rfl))) pa_nil))))), ?_⟩
    have h1 := ha.sq (K := K)
    have h2 := hb.sq (K := K)
    have w1 : CMulW x.1 y.2 := wide_mul sx.t sy.b (by decide) (by decide) (by decide)
    have w2 : CMulW y.1 x.2 := wide_mul sy.t sx.b (by decide) (by decide) (by decide)
    have w3 : CMulW x.2 y.2 := wide_mul sx.b sy.b (by decide) (by decide) (by decide)
    refine ⟨_, rfl, a, _, 0, _, rfl, rfl, h1, atI_nat (j := 0) rfl, _, rfl, b, _, 1, _, rfl, rfl, h2, atI_nat (j := 1) rfl, _, _, rfl, rfl, w1, ?_⟩
    refine ⟨_, rfl, b, _, 0, _, rfl, rfl, h2, atI_nat (j := 0) rfl, _, rfl, a, _, 1, _, rfl, rfl, h1, atI_nat (j := 1) rfl, _, _, rfl, rfl, w2, _, _, rfl, rfl, ?_⟩
    refine ⟨_, rfl, a, _, 1, _, rfl, rfl, h1, atI_nat (j := 1) rfl, _, rfl, b, _, 1, _, rfl, rfl, h2, atI_nat (j := 1) rfl, _, _, rfl, rfl, w3, ?_⟩
    exact ⟨_, _, rfl, Int.mul_ne_zero ix.ne iy.ne, lt_pow (add_lt (mul_lt sx.t sy.b) (mul_lt sy.t sx.b)) (by decide), lt_pow (mul_lt sx.b sy.b) (by decide), k⟩
end
end K1

set_option Elab.async false
set_option linter.all false
set_option maxRecDepth 100000
namespace K1
open PySem PySem.Spec PyProof.Rows L2 Gd Qu Nm
theorem FeedAt.neQ {H : Hp} {d c p : Addr} {cells : List Int} {B : Nat} {q : Int × Int} (F : FeedAt H d c cells B) (h : QAt H p q) : p ≠ d := by
  obtain ⟨sp, ov, tn, e, _⟩ := F.ex
  exact ne_of h e (by intro z; cases z)
theorem FeedAt.neL {H : Hp} {d c p : Addr} {cells : List Int} {B : Nat} {xs : List V} (F : FeedAt H d c cells B) (h : H p = some (.lst xs)) : p ≠ d := by
  obtain ⟨sp, ov, tn, e, _⟩ := F.ex
  exact ne_of h e (by intro z; cases z)
theorem FeedAt.neT {H : Hp} {d c p : Addr} {cells : List Int} {B : Nat} {xs : List V} (F : FeedAt H d c cells B) (h : H p = some (.tup xs)) : p ≠ d := by
  obtain ⟨sp, ov, tn, e, _⟩ := F.ex
  exact ne_of h e (by intro z; cases z)
section
variable {P : Program} {w : World} {K : PySem.W.Frag} {mg : Str → Option Value} {base : Heap}
def spAny : Sp := fun vs H Q _ => ∃ (d c a : Addr) (cells : List Int) (B : Nat) (xs : List V), vs = [.ref d, .ref a] ∧ FeedAt H d c cells B ∧ B ≤ 100000 ∧ H a = some (.lst xs) ∧ 1 ≤ xs.length ∧ xs.length ≤ 1000 ∧
  ∀ (x : V) (H' : Hp), x ∈ xs → FeedAt H' d c cells (B + 1) → Kp d H H' → Q x H'
theorem c__law_any (D : At K mg "_law_any" s__law_any ["_law_feed_here", "_law_some"]) (c__law_draw : Cal P w K mg base 1 "_law_draw" spDraw) (z_len : mg "len" = none) : Cal P w K mg base 2 "_law_any" spAny := by
  refine okC D sc__law_any (fun vs H Q E h => ?_) (fun f cdv A outer s H vs Q E hr h => ?_)
  · obtain ⟨d, c, a, cells, B, xs, rfl, _⟩ := h
    rfl
  · obtain ⟨d, c, a, cells, B, xs, rfl, F, hB, ha, l1, l2, k⟩ := h
    have nd := sc__law_any.nd
    refine ⟨_, (pss_one (ps_ret (pe_ix ix_list (pv 1) (pe_k c__law_draw hr (by decide) (by rfl) (pa_cons (pv 0) (pa_cons (pe_callB call_len_seq (by rfl) z_len PySem.boot_len (pa_cons (pv 1) pa_nil)) pa_nil))) (fun _ _ => rfl)))), ?_⟩
    refine ⟨_, rfl, _, rfl, _, rfl, a, xs, rfl, .inl (.inl (.inl ha)), d, c, cells, B, xs.length, rfl, F, by omega, l1, by omega, fun r H' hrl F' kp => ?_⟩
    have ha' := kp a _ (F.neL ha) ha
    exact ⟨a, xs, r, xs[r], rfl, rfl, .inl (.inl ha'), atI_nat (j := r) (List.getElem?_eq_getElem hrl), k _ H' (List.getElem_mem _) F' kp⟩
def spFrac : Sp := fun vs H Q _ => ∃ (d c : Addr) (cells : List Int) (B : Nat), vs = [.ref d] ∧ FeedAt H d c cells B ∧ B ≤ 100000 ∧
  ∀ (q : Int × Int) (p : Addr) (H' : Hp), IsQ q → Sz 150 q → FeedAt H' d c cells (B + 3) → Kp d H H' → QAt H' p q → Q (.ref p) H'
theorem ten40 : (10 : Int) ^ (40 : Int).toNat = 10000000000000000000000000000000000000000 := by decide
theorem ten30 : (10 : Int) ^ (30 : Int).toNat = 1000000000000000000000000000000 := by decide
theorem two150 : (2 : Nat) ^ 150 = 1427247692705959881058285969449495136382746624 := by decide
theorem c__law_fraction (D : At K mg "_law_fraction" s__law_fraction ["_law_feed_here"]) (c__law_draw : Cal P w K mg base 1 "_law_draw" spDraw) (c__law_cut : Cal P w K mg base 2 "_law_cut" spQuot) : Cal P w K mg base 3 "_law_fraction" spFrac := by
  refine okC D sc__law_fraction (fun vs H Q E h => ?_) (fun f cdv A outer s H vs Q E hr h => ?_)
  · obtain ⟨d, c, cells, B, rfl, _⟩ := h
    rfl
  · obtain ⟨d, c, cells, B, rfl, F, hB, k⟩ := h
    have nd := sc__law_fraction.nd
    refine ⟨_, (pss_cons (ps_set (i := 1) nd rfl (.inl rfl) (pe_k c__law_draw hr (by decide) (by rfl) (pa_cons (pv 0) (pa_cons pe_int pa_nil))))
 (pss_cons (ps_if (pt_cmpR op_eq (pv 1) pe_int (nomark _))
 (pss_one (ps_ret (pe_tup (pa_cons pe_int (pa_cons pe_int pa_nil)))))
 pss_nil)
 (pss_cons (ps_if (pt_cmpR op_eq (pv 1) pe_int (nomark _))
 (pss_one (ps_ret (pe_k c__law_cut hr (by decide) (by rfl) (pa_cons (pe_op op_sub (pe_op op_mul (pe_k c__law_draw hr (by decide) (by rfl) (pa_cons (pv 0) (pa_cons pe_int pa_nil))) (pe_op op_pow pe_int pe_int)) pe_int) (pa_cons (pe_op op_add (pe_op op_pow pe_int pe_int) (pe_k c__law_draw hr (by decide) (by rfl) (pa_cons (pv 0) (pa_cons pe_int pa_nil)))) pa_nil)))))
 pss_nil)
 (pss_one (ps_ret (pe_k c__law_cut hr (by decide) (by rfl) (pa_cons (pe_op op_sub (pe_k c__law_draw hr (by decide) (by rfl) (pa_cons (pv 0) (pa_cons pe_int pa_nil))) pe_int) (pa_cons (pe_op op_add pe_int (pe_k c__law_draw hr (by decide) (by rfl) (pa_cons (pv 0) (pa_cons pe_int pa_nil)))) pa_nil)))))))), ?_⟩
    refine ⟨_, rfl, d, c, cells, B, 6, rfl, F, by omega, by decide, by decide, fun r H1 r6 F1 k1 => ?_⟩
    refine ⟨_, rfl, rfl, _, rfl, ite2 (fun _ => ?_) (fun _ => ?_)⟩
    · refine ⟨(by show 2 ≤ sizeLine; decide), fun p hp => ?_⟩
      exact k (0, 1) p _ q01 (sz01.mono (by decide)) ((F1.same (same_new hp)).mono (by omega)) (k1.trans (same_new hp).kp) upd_same
    refine ⟨_, rfl, rfl, _, rfl, ite2 (fun _ => ?_) (fun _ => ?_)⟩
    · refine ⟨_, rfl, d, c, cells, B + 1, 1000, rfl, F1, by omega, by decide, by decide, fun x H2 hx F2 k2 => ?_⟩
      refine ⟨_, _, rfl, rfl, ⟨by decide, by decide, by decide⟩, _, _, rfl, rfl, .inl ⟨by omega, by omega⟩, _, _, rfl, rfl, ?_⟩
      refine ⟨_, _, rfl, rfl, ⟨by decide, by decide, by decide⟩, _, rfl, d, c, cells, B + 2, 1000, rfl, F2, by omega, by decide, by decide, fun y H3 hy F3 k3 => ?_⟩
      have b1 : ((x : Int) * 10 ^ (40 : Int).toNat - 7).natAbs < 2 ^ 150 := by
        rw [ten40, two150]
        omega
      have b2 : ((10 : Int) ^ (30 : Int).toNat + (y : Int)).natAbs < 2 ^ 150 := by
        rw [ten30, two150]
        omega
      have b3 : (10 : Int) ^ (30 : Int).toNat + (y : Int) ≠ 0 := by
        rw [ten30]
        omega
      refine ⟨_, _, rfl, rfl, _, _, rfl, b3, lt_pow b1 (by decide), lt_pow b2 (by decide), fun p H4 s4 hp => ?_⟩
      exact k _ p H4 (cut_isQ b3) (cut_sz b3 b1 b2) (F3.same s4) (((k1.trans k2).trans k3).trans s4.kp) hp
    · refine ⟨_, rfl, d, c, cells, B + 1, 41, rfl, F1, by omega, by decide, by decide, fun x H2 hx F2 k2 => ?_⟩
      refine ⟨_, _, rfl, rfl, _, rfl, d, c, cells, B + 2, 12, rfl, F2, by omega, by decide, by decide, fun y H3 hy F3 k3 => ?_⟩
      have b1 : ((x : Int) - 20).natAbs < 2 ^ 150 := by
        rw [two150]
        omega
      have b2 : ((1 : Int) + (y : Int)).natAbs < 2 ^ 150 := by
        rw [two150]
        omega
      have b3 : (1 : Int) + (y : Int) ≠ 0 := by omega
      refine ⟨_, _, rfl, rfl, _, _, rfl, b3, lt_pow b1 (by decide), lt_pow b2 (by decide), fun p H4 s4 hp => ?_⟩
      exact k _ p H4 (cut_isQ b3) (cut_sz b3 b1 b2) (F3.same s4) (((k1.trans k2).trans k3).trans s4.kp) hp
end
end K1

set_option Elab.async false
set_option linter.all false
set_option maxRecDepth 100000
namespace K1
open PySem PySem.Spec PyProof.Rows L2 Gd Qu Nm
structure HalfF (n : Nat) (fs : List Nat) (rest step : Nat) : Prop where
  prod : prodN fs * rest = n
  asc : fs.Pairwise (· ≤ ·)
  pr : ∀ p ∈ fs, Pr p
  le : ∀ p ∈ fs, p ≤ step
  nod : ∀ d, 2 ≤ d → d < step → ¬ d ∣ rest
  pos : 1 ≤ rest
theorem fs_len {n rest : Nat} {fs : List Nat} (h : prodN fs * rest = n) (hp : ∀ p ∈ fs, Pr p) (hr : 1 ≤ rest) : fs.length ≤ n := by
  have key : ∀ l : List Nat, (∀ p ∈ l, Pr p) → l.length + 1 ≤ prodN l := by
    intro l
    induction l with
    | nil => intro _; exact Nat.le_refl _
    | cons x l ih =>
      intro hx
      have h1 := ih fun y hy => hx y (List.mem_cons_of_mem _ hy)
      have h2 := (hx x List.mem_cons_self).1
      have h5 : 2 * (l.length + 1) ≤ x * prodN l := Nat.mul_le_mul h2 h1
      show l.length + 1 + 1 ≤ x * prodN l
      omega
  have h1 := key fs hp
  have h2 : prodN fs * 1 ≤ n := by
    rw [← h]
    exact Nat.mul_le_mul_left _ hr
  omega
theorem HalfF.more {n rest r step : Nat} {fs : List Nat} (h : HalfF n fs rest step) (hs : 2 ≤ step) (e : rest = step * r) : HalfF n (fs ++ [step]) r step := by
  have hp : Pr step := (least_at hs h.nod ⟨r, e⟩).pr
  have r0 : 1 ≤ r := by
    have := h.pos
    cases r with
    | zero => rw [Nat.mul_zero] at e; omega
    | succ r => omega
  refine ⟨?_, List.pairwise_append.mpr ⟨h.asc, List.pairwise_singleton _ _, fun a ha b hb => ?_⟩, fun p hp' => ?_, fun p hp' => ?_, fun d h1 h2 h3 => h.nod d h1 h2 (Nat.dvd_trans h3 ⟨step, by rw [e, Nat.mul_comm]⟩), r0⟩
  · rw [prodN_snoc, ← h.prod, e]
    ac_rfl
  · rw [List.mem_singleton.mp hb]
    exact h.le a ha
  · rcases List.mem_append.mp hp' with z | z
    · exact h.pr p z
    · rw [List.mem_singleton.mp z]
      exact hp
  · rcases List.mem_append.mp hp' with z | z
    · exact h.le p z
    · rw [List.mem_singleton.mp z]
      exact Nat.le_refl _
theorem HalfF.done {n rest step : Nat} {fs : List Nat} (h : HalfF n fs rest step) (hlt : rest < step * step) (hs : ∀ p ∈ fs, p < step) : Facs n (fs ++ if 1 < rest then [rest] else []) := by
  have hpos := h.pos
  by_cases c : 1 < rest
  · rw [if_pos c]
    have hp : Pr rest := (least_self c h.nod hlt).pr
    have hge : step ≤ rest := Nat.le_of_not_lt fun z => h.nod rest c z (Nat.dvd_refl _)
    refine ⟨fun p hp' => ?_, List.pairwise_append.mpr ⟨h.asc, List.pairwise_singleton _ _, fun a ha b hb => ?_⟩, ?_⟩
    · rcases List.mem_append.mp hp' with z | z
      · exact h.pr p z
      · rw [List.mem_singleton.mp z]
        exact hp
    · rw [List.mem_singleton.mp hb]
      exact Nat.le_trans (Nat.le_of_lt (hs a ha)) hge
    · rw [prodN_snoc]
      exact h.prod
  · rw [if_neg c, List.append_nil]
    refine ⟨h.pr, h.asc, ?_⟩
    have e : rest = 1 := by omega
    have := h.prod
    rw [e, Nat.mul_one] at this
    exact this
/-- ints of naturals -/
def nV (fs : List Nat) : List V := fs.map fun (p : Nat) => V.int (p : Int)
theorem nV_ints (fs : List Nat) : nV fs = (fs.map fun (p : Nat) => (p : Int)).map V.int := by
  unfold nV
  rw [List.map_map]
  rfl
section
variable {P : Program} {w : World} {K : PySem.W.Frag} {mg : Str → Option Value} {base : Heap}
def spFacs : Sp := fun vs H Q _ => ∃ n : Nat, vs = [.int n] ∧ 1 ≤ n ∧ n ≤ 10000 ∧ ∀ (a : Addr) (fs : List Nat) (H' : Hp), Facs n fs → fs.length ≤ n → Same H H' → H' a = some (.lst (nV fs)) → Q (.ref a) H'
def FOut (H : Hp) (n : Nat) (m : Nat) (σ : L2.St) (H' : Hp) : Prop := ∃ (l : Addr) (fs : List Nat) (rest step : Nat), σ = [some (.int n), some (.ref l), some (.int rest), some (.int step)] ∧
  Same H H' ∧ H l = none ∧ H' l = some (.lst (nV fs)) ∧ HalfF n fs rest step ∧ (∀ p ∈ fs, p < step) ∧ 2 ≤ step ∧ step ≤ n + 1 ∧ m = n + 2 - step
def FIn (H : Hp) (n step : Nat) (l : Addr) (m : Nat) (σ : L2.St) (H' : Hp) : Prop := ∃ (fs : List Nat) (rest : Nat), σ = [some (.int n), some (.ref l), some (.int rest), some (.int step)] ∧
  Same H H' ∧ H' l = some (.lst (nV fs)) ∧ HalfF n fs rest step ∧ rest = m
theorem c__law_primes (D : At K mg "_law_primes" s__law_primes ["_law_whole"]) (z_int : mg "int" = none) : Cal P w K mg base 1 "_law_primes" spFacs := by
  refine okC D sc__law_primes (fun vs H Q E h => ?_) (fun f cdv A outer s H vs Q E hr h => ?_)
  · obtain ⟨n, rfl, _⟩ := h
    rfl
  · obtain ⟨n, rfl, h1, h2, k⟩ := h
    have nd := sc__law_primes.nd
    refine ⟨_, (pss_cons (ps_par3 (i := 1) (j := 2) (l := 3) rfl nd rfl rfl rfl (by decide) (by decide) (by decide) rfl rfl rfl (pa_cons (pe_lst pa_nil) (pa_cons (pv 0) (pa_cons pe_int pa_nil))) rfl)
 (pss_cons (ps_while PassesOwn.never (pt_cmpR op_le (pe_op op_mul (pv 3) (pv 3)) (pv 2) (nomark _))
 (pss_cons (ps_while PassesOwn.never (pt_cmpR op_eq (pe_op op_mod (pe_callTy call_int1 (by rfl) z_int (by decide +kernel) (pa_cons (pv 2) pa_nil)) (pv 3)) pe_int (nomark _))
 (pss_cons (ps_expr (pe_bm PySem.F.plainAttrs_list PySem.F.slot_list_append PySem.F.type_list_append mt_append (pv 1) (pa_cons (pv 3) pa_nil)))
 (pss_one (ps_set (i := 2) nd rfl (.inl rfl) (pe_op op_fdiv (pv 2) (pv 3))))))
 (pss_one (ps_set (i := 3) nd rfl (.inl rfl) (pe_op op_add (pv 3) pe_int)))))
 (pss_one (ps_ret (pe_op op_cat (pv 1) (pe_op op_rep (pe_lst (pa_cons (pv 2) pa_nil)) (pe_callTy call_int1 (by rfl) z_int (by decide +kernel) (pa_cons (pe_cmpR op_gt (pv 2) pe_int (nomark _)) pa_nil)))))))), ?_⟩
    refine ⟨Nat.zero_le _, fun l hl => ⟨_, rfl, _, _, _, rfl, FOut H n, ⟨n, l, [], n, 2, rfl, same_new hl, hl, upd_same, ⟨Nat.one_mul n, List.Pairwise.nil, fun p hp => absurd hp List.not_mem_nil, fun p hp => absurd hp List.not_mem_nil, fun d a1 a2 => by omega, h1⟩, fun p hp => absurd hp List.not_mem_nil, by decide, by omega, by omega⟩, ?_⟩⟩
    clear hl l
    rintro m σ H1 ⟨l, fs, rest, step, rfl, s1, hl, e1, hf, hlt, st2, stn, rfl⟩
    have rn : rest ≤ n := by
      have hp : 1 ≤ prodN fs := prod_pos fun a ha => (hf.pr a ha).pos
      rw [← hf.prod]
      exact Nat.le_mul_of_pos_left _ hp
    have stp : (0 : Int) < (step : Int) := by omega
    refine ⟨_, rfl, _, rfl, _, _, rfl, rfl, .inl ⟨by omega, by omega⟩, _, rfl, _, _, rfl, rfl, _, rfl, ite2 (fun c => ?_) (fun c => ?_)⟩
    · have c1 : (step : Int) * step ≤ rest := of_decide_eq_true c
      have c2 : step * step ≤ rest := by exact_mod_cast c1
      have c3 : step ≤ rest := Nat.le_trans (Nat.le_mul_of_pos_left step (by omega)) c2
      refine ⟨fun σ' H' => ∃ m', m' < n + 2 - step ∧ FOut H n m' σ' H', fun _ _ z => z, FIn H n step l, ⟨rest, fs, rest, rfl, s1, e1, hf, rfl⟩, ?_⟩
      rintro m σ H2 ⟨gs, r2, rfl, s2, e2, hg, rfl⟩
      have rn2 : gs.length ≤ n := fs_len hg.prod hg.pr hg.pos
      refine ⟨_, rfl, .inl ⟨_, rfl, _, rfl, _, _, rfl, rfl, stp, rfl, _, rfl, ite2 (fun d => ?_) (fun d => ?_)⟩⟩
      · have d1 := mod0.mp (of_decide_eq_true d)
        obtain ⟨r, er⟩ := d1
        have hg' := hg.more st2 er
        refine ⟨fun σ' H' => ∃ m', m' < r2 ∧ FIn H n step l m' σ' H', fun _ _ z => z, ?_⟩
        refine ⟨_, rfl, .inl ⟨rfl, _, .inl (.inl e2)⟩, _, rfl, l, nV gs, _, rfl, rfl, e2, ?_, ?_⟩
        · unfold nV
          rw [List.length_map]
          exact Nat.lt_of_le_of_lt rn2 (Nat.lt_of_le_of_lt h2 (by decide))
        · have hdiv : r2 / step = r := by
            rw [er]
            exact Nat.mul_div_cancel_left _ (by omega)
          refine ⟨_, rfl, _, rfl, _, _, rfl, rfl, ⟨stp, by omega⟩, r, ?_, gs ++ [step], r, ?_, same_own s2 hl, ?_, hg', rfl⟩
          · rw [er]
            have := hg'.pos
            have : 2 * r ≤ step * r := Nat.mul_le_mul_right r st2
            omega
          · rw [← hdiv]
            rfl
          · rw [upd_same]
            unfold nV
            rw [List.map_append]
            rfl
      · have d1 : ¬ step ∣ r2 := fun z => d (decide_eq_true (mod0.mpr z))
        refine ⟨_, rfl, _, _, rfl, rfl, n + 2 - (step + 1), by omega, l, gs, r2, step + 1, rfl, s2, hl, e2, ⟨hg.prod, hg.asc, hg.pr, fun p hp => Nat.le_succ_of_le (hg.le p hp), fun d a1 a2 a3 => ?_, hg.pos⟩, fun p hp => Nat.lt_succ_of_le (hg.le p hp), by omega, by omega, rfl⟩
        by_cases ed : d = step
        · subst ed
          exact d1 a3
        · exact hg.nod d a1 (by omega) a3
    · have c1 : ¬ (step : Int) * step ≤ rest := fun z => c (decide_eq_true z)
      have c2 : rest < step * step := by
        refine Nat.lt_of_not_le fun z => c1 ?_
        exact_mod_cast z
      have fin := hf.done c2 hlt
      have flen : (fs ++ if 1 < rest then [rest] else []).length ≤ n := fs_len (rest := 1) (by rw [Nat.mul_one]; exact fin.prod) fin.pr (Nat.le_refl _)
      have fl : fs.length ≤ n := fs_len hf.prod hf.pr hf.pos
      have big : ∀ z : Nat, z ≤ n → z ≤ sizeLine := fun z hz => Nat.le_trans hz (Nat.le_trans h2 (by rw [sizeLine_eq]; decide))
      refine ⟨_, rfl, _, rfl, (by show 1 ≤ sizeLine; decide), fun p hp => ?_⟩
      have sp := same_new (o := .lst [V.int (rest : Int)]) hp
      refine ⟨_, rfl, _, _, rfl, rfl, ?_⟩
      refine .inr ⟨_, rfl, p, _, [.int rest], rfl, rfl, upd_same, ?_, ?_, ?_, fun p2 hp2 => ⟨l, p2, nV fs, _, rfl, rfl, same_new hp2 _ _ (sp _ _ e1), upd_same, ?_, fun p3 hp3 => ?_⟩⟩
      · split <;> decide
      · split <;> decide
      · split
        · show 1 * 1 ≤ sizeLine
          decide
        · show 1 * 0 ≤ sizeLine
          decide
      · refine big _ ?_
        unfold nV
        rw [List.length_map]
        refine Nat.le_trans ?_ flen
        rw [List.length_append]
        refine Nat.add_le_add_left ?_ _
        by_cases q : 1 < rest
        · have q1 : (1 : Int) < rest := by omega
          rw [if_pos q, decide_eq_true q1]
          exact Nat.le_refl 1
        · have q1 : ¬ (1 : Int) < rest := by omega
          rw [if_neg q, decide_eq_false q1]
          exact Nat.le_refl 0
      · refine k p3 _ _ fin flen (((s1.trans sp).trans (same_new hp2)).trans (same_new hp3)) ?_
        rw [upd_same]
        unfold nV
        rw [List.map_append]
        by_cases q : 1 < rest
        · have q1 : (1 : Int) < rest := by omega
          rw [if_pos q, decide_eq_true q1]
          rfl
        · have q1 : ¬ (1 : Int) < rest := by omega
          rw [if_neg q, decide_eq_false q1]
          rfl
end
end K1

set_option Elab.async false
set_option linter.all false
set_option maxRecDepth 100000
namespace K1
open PySem PySem.Spec PyProof.Rows L2 Gd Qu Nm
theorem prodN_take {fs : List Nat} {i : Nat} {p : Nat} (h : fs[i]? = some p) : prodN (fs.take (i + 1)) = prodN (fs.take i) * p := by
  rw [List.take_add_one, h, Option.toList, prodN_snoc]
theorem nV_get {fs : List Nat} {i : Nat} {x : V} (h : (nV fs)[i]? = some x) : ∃ p, fs[i]? = some p ∧ x = V.int (p : Nat) := by
  unfold nV at h
  rw [List.getElem?_map] at h
  cases e : fs[i]? with
  | none => rw [e] at h; cases h
  | some p =>
    rw [e] at h
    exact ⟨p, rfl, (Option.some.inj h).symm⟩
theorem nV_len (fs : List Nat) : (nV fs).length = fs.length := by
  unfold nV
  rw [List.length_map]
/-- from ints back: a strictly ascending list of ints whose members are those of naturals -/
theorem ks_nat {ks : List Int} {ds : List Nat} (asc : ks.Pairwise (· < ·)) (dasc : ds.Pairwise (· < ·)) (h : ∀ k : Int, k ∈ ks ↔ ∃ d ∈ ds, k = (d : Int)) : ks = ds.map fun (d : Nat) => (d : Int) := by
  refine asc_ext (r := fun a b : Int => a < b) (fun a => Int.lt_irrefl a) (fun _ _ _ => Int.lt_trans) asc (List.pairwise_map.mpr (dasc.imp fun h => by omega)) fun k => ?_
  rw [h k, List.mem_map]
  constructor
  · rintro ⟨d, hd, e⟩
    exact ⟨d, hd, e.symm⟩
  · rintro ⟨d, hd, e⟩
    exact ⟨d, hd, e.symm⟩
/-- .. as naturals -/
theorem ks_ex {ks : List Int} {S : Nat → Prop} (asc : ks.Pairwise (· < ·)) (h : ∀ k : Int, k ∈ ks ↔ ∃ d : Nat, S d ∧ k = (d : Int)) : ∃ ds : List Nat, ks = ds.map (fun (d : Nat) => (d : Int)) ∧ ds.Pairwise (· < ·) ∧ ∀ d, d ∈ ds ↔ S d := by
  refine ⟨ks.map Int.toNat, ?_, ?_, fun d => ?_⟩
  · rw [List.map_map]
    symm
    refine (List.map_congr_left fun k hk => ?_).trans (List.map_id _)
    obtain ⟨d, _, rfl⟩ := (h k).mp hk
    rfl
  · rw [List.pairwise_map]
    refine List.Pairwise.imp_of_mem ?_ asc
    intro a b ha hb hab
    obtain ⟨x, _, rfl⟩ := (h a).mp ha
    obtain ⟨y, _, rfl⟩ := (h b).mp hb
    show ((x : Int)).toNat < ((y : Int)).toNat
    omega
  · rw [List.mem_map]
    constructor
    · rintro ⟨k, hk, rfl⟩
      obtain ⟨x, hx, rfl⟩ := (h k).mp hk
      exact hx
    · intro hd
      exact ⟨d, (h _).mpr ⟨d, hd, rfl⟩, rfl⟩
section
variable {P : Program} {w : World} {K : PySem.W.Frag} {mg : Str → Option Value} {base : Heap}
theorem c__law_divisors (D : At K mg "_law_divisors" s__law_divisors ["_law_whole"]) (c__law_primes : Cal P w K mg base 1 "_law_primes" spFacs) (z_sorted : mg "sorted" = none) (z_set : mg "set" = none) (z_tuple : mg "tuple" = none) :
    Cal P w K mg base 2 "_law_divisors" spDvs := by
  refine okC D sc__law_divisors (fun vs H Q E h => ?_) (fun f cdv A outer s H vs Q E hr h => ?_)
  · obtain ⟨n, rfl, _⟩ := h
    rfl
  · obtain ⟨n, rfl, h1, h2, k⟩ := h
    have nd := sc__law_divisors.nd
    refine ⟨_, (pss_cons (ps_set (i := 1) nd rfl (.inl rfl) (pe_lst (pa_cons pe_int pa_nil)))
 (pss_cons (ps_for PassesOwn.never rfl (pi_list (pe_k c__law_primes hr (by decide) (by rfl) (pa_cons (pv 0) pa_nil))) (pg_name (i := 2) nd rfl (.inr rfl))
 (pss_one (ps_set (i := 1) nd rfl (.inl rfl) (pe_callB (cr_sortSet rfl) (by rfl) z_sorted (by decide +kernel) (pa_cons (pe_callTy (cr_setL rfl) (by rfl) z_set (by decide +kernel) (pa_cons (pe_op op_cat (pv 1) (pe_lc (own := [("_law_part", 3)]) rfl nd (pi_list (pv 1)) (blkOk_by (N := N__law_divisors) (sc := defScope s__law_divisors) (by decide +kernel)) (fun _ _ _ _ _ => pg_name (i := 3) nd rfl (Or.inl rfl)) (fun _ _ _ _ _ => pts_nil) (fun _ _ _ _ _ => (pe_op op_mul (pv 2) (pv 3))))) pa_nil)) pa_nil)))))
 (pss_one (ps_ret (pe_tupleOf (by rfl) z_tuple (pv 1)))))), ?_⟩
    refine ⟨(by show 1 ≤ sizeLine; decide), fun l0 hl0 => ?_⟩
    have s0 : Same H (upd H l0 (.lst [V.int 1])) := same_new hl0
    refine ⟨_, rfl, n, rfl, h1, h2, fun a fs H1 hf flen s1 ha => ⟨a, rfl, ⟨_, .inl (.inl ha)⟩, for_it (walk_list (xs := nV fs))
      (fun i σ H' => ∃ (l : Addr) (ds : List Nat) (y2 y3 : Option V), σ = [some (.int n), some (.ref l), y2, y3] ∧ Same H1 H' ∧ H' l = some (.lst (nV ds)) ∧ ds.Pairwise (· < ·) ∧ ∀ d, d ∈ ds ↔ d ∣ prodN (fs.take i))
      ⟨l0, [1], none, none, rfl, Same.refl _, s1 _ _ upd_same, List.pairwise_singleton _ _, fun d => by rw [List.mem_singleton]; exact Nat.dvd_one.symm⟩ (fun i σ H' _ ⟨_, _, _, _, _, sm, _⟩ => .inl (.inl (sm _ _ ha))) ?_ ?_⟩⟩
    · rintro i x σ H2 H' hi ⟨l, ds, y2, y3, rfl, s2, hl, asc, mem⟩ ⟨eH, hx⟩
      obtain rfl := eH.symm
      obtain ⟨p, hp, rfl⟩ := nV_get hx
      have hpm : p ∈ fs := List.mem_of_getElem? hp
      have pr := hf.pr p hpm
      have pn : p ≤ n := Nat.le_of_dvd h1 ((hf.mem p).mp hpm).2
      have mpos : 1 ≤ prodN (fs.take i) := prod_pos fun b hb => (hf.pr b (List.mem_of_mem_take hb)).pos
      have mle : prodN (fs.take i) ≤ n := by
        have e : prodN (fs.take i) * prodN (fs.drop i) = n := by rw [← prodN_append, List.take_append_drop, hf.prod]
        have hp : 1 ≤ prodN (fs.drop i) := prod_pos fun b hb => (hf.pr b (List.mem_of_mem_drop hb)).pos
        rw [← e]
        exact Nat.le_mul_of_pos_right _ hp
      have dlen : ds.length ≤ 200 := dv_len mpos (by omega) asc fun d hd => (mem d).mp hd
      have dle : ∀ d ∈ ds, d ≤ n := fun d hd => Nat.le_trans (Nat.le_of_dvd mpos ((mem d).mp hd)) mle
      refine ⟨_, rfl, _, rfl, l, rfl, ⟨_, .inl (.inl hl)⟩, fun L hL => lcM (walk_list (xs := nV ds)) (fun x => match x with | .int j => .int ((p : Int) * j) | z => z) hL ?_ (fun H' sm => .inl (.inl (sm _ _ hl))) ?_ ?_⟩
      · rw [nV_len]
        exact small1000 (by omega)
      · intro x H' R hx sm q
        obtain ⟨j, hj, e⟩ := List.mem_map.mp hx
        subst e
        have := dle j hj
        exact ⟨rfl, _, rfl, _, rfl, _, _, rfl, rfl, .inl ⟨by omega, by omega⟩, q H' (Same.refl _)⟩
      · intro H3 s3 hL3
        have e3 : (nV ds).map (fun x => match x with | .int j => V.int ((p : Int) * j) | z => z) = nV (ds.map (p * ·)) := by
          unfold nV
          rw [List.map_map, List.map_map]
          refine List.map_congr_left fun j _ => ?_
          show V.int ((p : Int) * (j : Int)) = V.int ((p * j : Nat) : Int)
          rw [Int.natCast_mul]
        rw [e3] at hL3
        refine ⟨l, L, nV ds, _, rfl, rfl, s3 _ _ hl, hL3, ?_, fun p4 hp4 => ?_⟩
        · rw [nV_len, nV_len, List.length_map]
          exact Nat.le_of_lt (small1000 (by omega))
        · have ecat : nV ds ++ nV (ds.map (p * ·)) = ((ds ++ ds.map (p * ·)).map fun (d : Nat) => (d : Int)).map V.int := by
            rw [← nV_ints]
            unfold nV
            rw [List.map_append]
          refine ⟨p4, (ds ++ ds.map (p * ·)).map fun (d : Nat) => (d : Int), rfl, .inl (.inl (by rw [upd_same, ecat])), ?_, fun p5 m hp5 hm => ?_⟩
          · rw [List.length_map, List.length_append, List.length_map]
            omega
          · refine ⟨p5, _, m, rfl, upd_same, ?_, fun ks p6 kasc kmem hp6 => ?_⟩
            · rw [List.length_map, List.length_append, List.length_map] at hm
              omega
            · obtain ⟨es, rfl, easc, emem⟩ := ks_ex (S := fun d => d ∣ prodN (fs.take (i + 1))) kasc fun z => by
                rw [kmem z, decide_eq_true_eq, List.mem_map]
                constructor
                · rintro ⟨d, hd, rfl⟩
                  refine ⟨d, ?_, rfl⟩
                  rw [prodN_take hp, dvd_step pr mpos]
                  rcases List.mem_append.mp hd with q | q
                  · exact .inl ((mem d).mp q)
                  · obtain ⟨e, he, rfl⟩ := List.mem_map.mp q
                    exact .inr ⟨e, (mem e).mp he, rfl⟩
                · rintro ⟨d, hd, rfl⟩
                  refine ⟨d, ?_, rfl⟩
                  rw [prodN_take hp, dvd_step pr mpos] at hd
                  rcases hd with q | ⟨e, he, rfl⟩
                  · exact List.mem_append_left _ ((mem d).mpr q)
                  · exact List.mem_append_right _ (List.mem_map.mpr ⟨e, (mem e).mpr he, rfl⟩)
              refine ⟨p6, es, _, y3, rfl, s2.trans (s3.trans ((same_new hp4).trans ((same_new hp5).trans (same_new hp6)))), ?_, easc, emem⟩
              rw [upd_same, nV_ints]
    · rintro σ H2 ⟨l, ds, y2, y3, rfl, s2, hl, asc, mem⟩
      rw [nV_len, List.take_length, hf.prod] at mem
      refine ⟨_, rfl, .inl ⟨l, _, rfl, .inl (.inl hl), fun t ht => ?_⟩⟩
      have e : ds = dvs n := asc_nat asc (dvs_asc n) fun d => (mem d).trans (dvs_mem h1 d).symm
      subst e
      exact k t _ (s0.trans (s1.trans (s2.trans (same_new ht)))) upd_same
end
end K1

set_option Elab.async false
set_option linter.all false
set_option maxRecDepth 100000
namespace K1
open PySem PySem.Spec PyProof.Rows L2 Gd Qu Nm
theorem facs_len13 {n : Nat} {fs : List Nat} (hn : n ≤ 10000) (g : Facs n fs) : fs.length ≤ 13 := by
  have key : ∀ l : List Nat, (∀ p ∈ l, Pr p) → 2 ^ l.length ≤ prodN l := by
    intro l
    induction l with
    | nil => intro _; exact Nat.le_refl _
    | cons x l ih =>
      intro hx
      have h1 := ih fun y hy => hx y (List.mem_cons_of_mem _ hy)
      have h2 := (hx x List.mem_cons_self).1
      rw [List.length_cons, Nat.pow_succ, Nat.mul_comm]
      exact Nat.mul_le_mul h2 h1
  have h1 := key fs g.pr
  rw [g.prod] at h1
  refine Nat.le_of_not_lt fun z => ?_
  have : 2 ^ 14 ≤ 2 ^ fs.length := Nat.pow_le_pow_right (by decide) z
  omega
theorem facs_set {n : Nat} {fs es : List Nat} {ps : List (Nat × Nat)} (g : Facs n fs) (hp : Parts n ps) (asc : es.Pairwise (· < ·)) (mem : ∀ d, d ∈ es ↔ d ∈ fs) : es = ps.map (·.1) :=
  asc_nat asc hp.asc fun a => (mem a).trans ((g.mem a).trans (hp.mem a).symm)
theorem totF_take {n : Nat} {es : List Nat} {i p : Nat} (h : es[i]? = some p) : totF n (es.take (i + 1)) = totF n (es.take i) / p * (p - 1) := by
  unfold totF
  rw [fold_step _ _ h]
section
variable {P : Program} {w : World} {K : PySem.W.Frag} {mg : Str → Option Value} {base : Heap}
def spTotF : Sp := fun vs H Q _ => ∃ (n : Nat) (ps : List (Nat × Nat)), vs = [.int n] ∧ 1 ≤ n ∧ n ≤ 10000 ∧ Parts n ps ∧ ∀ H', Same H H' → Q (.int (totP ps : Nat)) H'
theorem c__law_totient (D : At K mg "_law_totient" s__law_totient ["_law_whole"]) (c__law_primes : Cal P w K mg base 1 "_law_primes" spFacs) (z_sorted : mg "sorted" = none) (z_set : mg "set" = none) : Cal P w K mg base 2 "_law_totient" spTotF := by
  refine okC D sc__law_totient (fun vs H Q E h => ?_) (fun f cdv A outer s H vs Q E hr h => ?_)
  · obtain ⟨n, ps, rfl, _⟩ := h
    rfl
  · obtain ⟨n, ps, rfl, h1, h2, hps, k⟩ := h
    have nd := sc__law_totient.nd
    refine ⟨_, (pss_cons (ps_set (i := 1) nd rfl (.inl rfl) (pv 0))
 (pss_cons (ps_for PassesOwn.never rfl (pi_list (pe_callB (cr_sortSet rfl) (by rfl) z_sorted (by decide +kernel) (pa_cons (pe_callTy (cr_setL rfl) (by rfl) z_set (by decide +kernel) (pa_cons (pe_k c__law_primes hr (by decide) (by rfl) (pa_cons (pv 0) pa_nil)) pa_nil)) pa_nil))) (pg_name (i := 2) nd rfl (.inl rfl))
 (pss_one (ps_set (i := 1) nd rfl (.inl rfl) (pe_op op_mul (pe_op op_fdiv (pv 1) (pv 2)) (pe_op op_sub (pv 2) pe_int)))))
 (pss_one (ps_ret (pv 1))))), ?_⟩
    refine ⟨_, rfl, _, rfl, n, rfl, h1, h2, fun a fs H1 hf flen s1 ha => ⟨a, fs.map fun (p : Nat) => (p : Int), rfl, .inl (.inl (by rw [ha, nV_ints])), ?_, fun p5 m hp5 hm => ⟨p5, _, m, rfl, upd_same, ?_, fun ks p6 kasc kmem hp6 => ?_⟩⟩⟩
    · rw [List.length_map]
      have := facs_len13 h2 hf
      omega
    · rw [List.length_map] at hm
      have := facs_len13 h2 hf
      omega
    · obtain ⟨es, rfl, easc, emem⟩ := ks_ex (S := fun d => d ∈ fs) kasc fun z => by
        rw [kmem z, decide_eq_true_eq, List.mem_map]
        constructor
        · rintro ⟨d, hd, rfl⟩
          exact ⟨d, hd, rfl⟩
        · rintro ⟨d, hd, rfl⟩
          exact ⟨d, hd, rfl⟩
      have ees := facs_set hf hps easc emem
      have sH : Same H (upd (upd H1 p5 (SetO w p5 (fun j => decide (j ∈ fs.map fun (p : Nat) => (p : Int))) m)) p6 (.lst ((es.map fun (d : Nat) => (d : Int)).map V.int))) := s1.trans ((same_new hp5).trans (same_new hp6))
      have at6 : (upd (upd H1 p5 (SetO w p5 (fun j => decide (j ∈ fs.map fun (p : Nat) => (p : Int))) m)) p6 (.lst ((es.map fun (d : Nat) => (d : Int)).map V.int))) p6 = some (.lst (nV es)) := by
        rw [upd_same, nV_ints]
      refine ⟨p6, rfl, ⟨_, .inl (.inl at6)⟩, for_it (walk_list (xs := nV es)) (fun i σ H' => ∃ y2 : Option V, σ = [some (.int n), some (.int (totF n (es.take i) : Nat)), y2] ∧ Same H H' ∧ H' p6 = some (.lst (nV es))) ⟨none, rfl, sH, at6⟩ (fun i σ H' _ ⟨_, _, _, e⟩ => .inl (.inl e)) ?_ ?_⟩
      · rintro i x σ H2 H' hi ⟨y2, rfl, s2, e2⟩ ⟨eH, hx⟩
        obtain rfl := eH.symm
        obtain ⟨p, hp, rfl⟩ := nV_get hx
        have hpm : p ∈ fs := (emem p).mp (List.mem_of_getElem? hp)
        have pr := (hf.pr p hpm).1
        have pn : p ≤ n := Nat.le_of_dvd h1 ((hf.mem p).mp hpm).2
        refine ⟨_, rfl, _, rfl, _, _, rfl, rfl, ⟨by omega, by omega⟩, _, rfl, _, _, rfl, rfl, _, _, rfl, rfl, .inr ⟨by omega, by omega⟩, some (.int p), ?_, s2, e2⟩
        have e3 : ((totF n (es.take i) : Nat) : Int) / (p : Int) * ((p : Int) - 1) = ((totF n (es.take (i + 1)) : Nat) : Int) := by
          rw [totF_take hp, Int.natCast_mul, divN]
          congr 1
          omega
        show [some (V.int n), some (V.int (((totF n (es.take i) : Nat) : Int) / (p : Int) * ((p : Int) - 1))), _] = _
        rw [e3]
      · rintro σ H2 ⟨y2, rfl, s2, e2⟩
        rw [nV_len, List.take_length]
        refine ⟨_, rfl, ?_⟩
        have := k H2 s2
        rw [← hps.tot, ← ees] at this
        exact this
def spPowF : Sp := fun vs H Q _ => ∃ (n : Nat) (ps : List (Nat × Nat)), vs = [.int n] ∧ 1 ≤ n ∧ n ≤ 10000 ∧ Parts n ps ∧ ∀ (a : Addr) (zs : List Int) (H' : Hp), zs.Perm (ps.map fun x => (x.2 : Int)) → zs.Pairwise (· ≤ ·) → Same H H' → H' a = some (.tup (zs.map V.int)) → Q (.ref a) H'
theorem count_take {fs : List Nat} {j q p : Nat} (h : fs[j]? = some q) : p ^ ((fs.take (j + 1)).count p) = p ^ ((fs.take j).count p) * (if q = p then p else 1) := by
  rw [List.take_add_one, h, Option.toList, List.count_append]
  by_cases e : q = p
  · subst e
    rw [if_pos rfl, List.count_singleton_self, Nat.pow_succ]
  · rw [if_neg e, Nat.mul_one, List.count_cons_of_ne e, List.count_nil, Nat.add_zero]
theorem c__law_powers (D : At K mg "_law_powers" s__law_powers ["_law_whole"]) (c__law_primes : Cal P w K mg base 1 "_law_primes" spFacs) (z_sorted : mg "sorted" = none) (z_set : mg "set" = none) (z_tuple : mg "tuple" = none) : Cal P w K mg base 2 "_law_powers" spPowF := by
  refine okC D sc__law_powers (fun vs H Q E h => ?_) (fun f cdv A outer s H vs Q E hr h => ?_)
  · obtain ⟨n, ps, rfl, _⟩ := h
    rfl
  · obtain ⟨n, ps, rfl, h1, h2, hps, k⟩ := h
    have nd := sc__law_powers.nd
    refine ⟨_, (pss_cons (ps_par (i := 2) (j := 3) rfl nd rfl rfl (by decide) rfl rfl (pa_cons (pe_k c__law_primes hr (by decide) (by rfl) (pa_cons (pv 0) pa_nil)) (pa_cons (pe_lst pa_nil) pa_nil)) rfl)
 (pss_cons (ps_for PassesOwn.never rfl (pi_list (pe_callB (cr_sortSet rfl) (by rfl) z_sorted (by decide +kernel) (pa_cons (pe_callTy (cr_setL rfl) (by rfl) z_set (by decide +kernel) (pa_cons (pv 2) pa_nil)) pa_nil))) (pg_name (i := 1) nd rfl (.inl rfl))
 (pss_cons (ps_set (i := 4) nd rfl (.inl rfl) pe_int)
 (pss_cons (ps_for PassesOwn.never rfl (pi_list (pv 2)) (pg_name (i := 5) nd rfl (.inl rfl))
 (pss_one (ps_set (i := 4) nd rfl (.inl rfl) (pe_op op_mul (pv 4) (pe_ifExp (pt_cmpR op_eq (pv 5) (pv 1) (nomark _)) (pv 1) pe_int)))))
 (pss_one (ps_expr (pe_bm PySem.F.plainAttrs_list PySem.F.slot_list_append PySem.F.type_list_append mt_append (pv 3) (pa_cons (pv 4) pa_nil)))))))
 (pss_one (ps_ret (pe_tupleOf (by rfl) z_tuple (pe_callB cr_sortedI (by rfl) z_sorted (by decide +kernel) (pa_cons (pv 3) pa_nil))))))), ?_⟩
    refine ⟨_, rfl, n, rfl, h1, h2, fun a fs H1 hf flen s1 ha => ⟨Nat.zero_le _, fun L hL => ⟨_, _, rfl, _, rfl, a, fs.map fun (p : Nat) => (p : Int), rfl, .inl (.inl (by rw [same_new hL _ _ ha, nV_ints])), ?_, fun p5 m hp5 hm => ⟨p5, _, m, rfl, upd_same, ?_, fun ks p6 kasc kmem hp6 => ?_⟩⟩⟩⟩
    · rw [List.length_map]
      have := facs_len13 h2 hf
      omega
    · rw [List.length_map] at hm
      have := facs_len13 h2 hf
      omega
    · obtain ⟨es, rfl, easc, emem⟩ := ks_ex (S := fun d => d ∈ fs) kasc fun z => by
        rw [kmem z, decide_eq_true_eq, List.mem_map]
        constructor
        · rintro ⟨d, hd, rfl⟩
          exact ⟨d, hd, rfl⟩
        · rintro ⟨d, hd, rfl⟩
          exact ⟨d, hd, rfl⟩
      have ees := facs_set hf hps easc emem
      have elen : es.length ≤ 13 := by
        have h3 := List.Nodup.length_le_of_subset (easc.imp fun h => Nat.ne_of_lt h) fun d hd => (emem d).mp hd
        have := facs_len13 h2 hf
        omega
      have sL := same_new (o := .lst []) hL
      have s5 := same_new (o := SetO w p5 (fun j => decide (j ∈ fs.map fun (p : Nat) => (p : Int))) m) hp5
      have s6 := same_new (o := .lst ((es.map fun (d : Nat) => (d : Int)).map V.int)) hp6
      have nLa : a ≠ L := ne_of_none ha hL
      have n5 : p5 ≠ L := fun z => by
        rw [z, upd_same] at hp5
        cases hp5
      have n6 : p6 ≠ L := fun z => by
        rw [z, upd_ne n5.symm, upd_same] at hp6
        cases hp6
      have eA : (upd (upd (upd H1 L (.lst [])) p5 (SetO w p5 (fun j => decide (j ∈ fs.map fun (p : Nat) => (p : Int))) m)) p6 (.lst ((es.map fun (d : Nat) => (d : Int)).map V.int))) a = some (.lst (nV fs)) := s6 _ _ (s5 _ _ (sL _ _ ha))
      have eL : (upd (upd (upd H1 L (.lst [])) p5 (SetO w p5 (fun j => decide (j ∈ fs.map fun (p : Nat) => (p : Int))) m)) p6 (.lst ((es.map fun (d : Nat) => (d : Int)).map V.int))) L = some (.lst []) := s6 _ _ (s5 _ _ upd_same)
      have e6 : (upd (upd (upd H1 L (.lst [])) p5 (SetO w p5 (fun j => decide (j ∈ fs.map fun (p : Nat) => (p : Int))) m)) p6 (.lst ((es.map fun (d : Nat) => (d : Int)).map V.int))) p6 = some (.lst (nV es)) := by rw [upd_same, nV_ints]
      have sA : Same H1 (upd (upd (upd H1 L (.lst [])) p5 (SetO w p5 (fun j => decide (j ∈ fs.map fun (p : Nat) => (p : Int))) m)) p6 (.lst ((es.map fun (d : Nat) => (d : Int)).map V.int))) := sL.trans (s5.trans s6)
      refine ⟨p6, rfl, ⟨_, .inl (.inl e6)⟩, for_it (walk_list (xs := nV es)) (fun i σ H' => ∃ y1 y4 y5 : Option V, σ = [some (.int n), y1, some (.ref a), some (.ref L), y4, y5] ∧ Same H1 H' ∧ H' p6 = some (.lst (nV es)) ∧ H' a = some (.lst (nV fs)) ∧ H' L = some (.lst (nV ((es.take i).map fun p => p ^ (fs.count p)))))
        ⟨none, none, none, rfl, sA, e6, eA, eL⟩ (fun i σ H' _ ⟨_, _, _, _, _, e, _⟩ => .inl (.inl e)) ?_ ?_⟩
      · rintro i x σ H2 H' hi ⟨y1, y4, y5, rfl, s2, f6, fA, fL⟩ ⟨eH, hx⟩
        obtain rfl := eH.symm
        obtain ⟨p, hp, rfl⟩ := nV_get hx
        have hpm : p ∈ fs := (emem p).mp (List.mem_of_getElem? hp)
        have pn : p ≤ n := Nat.le_of_dvd h1 ((hf.mem p).mp hpm).2
        refine ⟨_, rfl, a, rfl, ⟨_, .inl (.inl fA)⟩, for_it (walk_list (xs := nV fs)) (fun j σ H' => ∃ y5 : Option V, σ = [some (.int n), some (.int p), some (.ref a), some (.ref L), some (.int (p ^ ((fs.take j).count p) : Nat)), y5] ∧ H2 = H') ⟨y5, rfl, rfl⟩ (fun j σ H' _ ⟨_, _, e⟩ => e ▸ .inl (.inl fA)) ?_ ?_⟩
        · rintro j x σ H3 H' hj ⟨z5, rfl, rfl⟩ ⟨eH, hx⟩
          obtain rfl := eH.symm
          obtain ⟨q, hq, rfl⟩ := nV_get hx
          have ct := count_take (p := p) hq
          refine ⟨_, rfl, _, rfl, _, rfl, rfl, _, rfl, ite2 (fun c => ?_) (fun c => ?_)⟩
          · have e : q = p := by
              have := V.int.inj (of_decide_eq_true c)
              omega
            rw [if_pos e] at ct
            refine ⟨_, rfl, _, _, rfl, rfl, .inr ⟨by omega, by omega⟩, some (.int q), ?_, rfl⟩
            have e3 : ((p ^ ((fs.take j).count p) : Nat) : Int) * (p : Int) = ((p ^ ((fs.take (j + 1)).count p) : Nat) : Int) := by rw [ct, Int.natCast_mul]
            show [some (V.int n), some (V.int p), some (V.ref a), some (V.ref L), some (V.int (((p ^ ((fs.take j).count p) : Nat) : Int) * (p : Int))), _] = _
            rw [e3]
          · have e : ¬ q = p := fun z => c (decide_eq_true (by rw [z]))
            rw [if_neg e, Nat.mul_one] at ct
            refine ⟨_, _, rfl, rfl, .inr ⟨by decide, by decide⟩, some (.int q), ?_, rfl⟩
            show [some (V.int n), some (V.int p), some (V.ref a), some (V.ref L), some (V.int (((p ^ ((fs.take j).count p) : Nat) : Int) * 1)), _] = _
            rw [Int.mul_one, ct]
        · rintro σ H3 ⟨z5, rfl, rfl⟩
          rw [nV_len, List.take_length]
          refine ⟨_, rfl, .inl ⟨rfl, _, .inl (.inl fL)⟩, _, rfl, L, _, _, rfl, rfl, fL, ?_, some (.int p), some (.int (p ^ (fs.count p) : Nat)), z5, rfl, same_own s2 hL, ?_, ?_, ?_⟩
          · rw [nV_len, List.length_map, List.length_take]
            exact small1000 (by omega)
          · rw [upd_ne n6]
            exact f6
          · rw [upd_ne nLa]
            exact fA
          · rw [upd_same, List.take_add_one, hp]
            unfold nV
            rw [List.map_append, List.map_append]
            rfl
      · rintro σ H2 ⟨y1, y4, y5, rfl, s2, f6, fA, fL⟩
        rw [nV_len, List.take_length, nV_ints] at fL
        refine ⟨_, rfl, L, _, rfl, .inl (.inl fL), fun zs q hz1 hz2 hq => .inl ⟨q, _, rfl, .inl (.inl upd_same), fun t ht => ?_⟩⟩
        refine k t zs _ ?_ hz2 (s1.trans (s2.trans ((same_new hq).trans (same_new ht)))) upd_same
        have e : (es.map fun p => p ^ (fs.count p)).map (fun (d : Nat) => (d : Int)) = ps.map fun x => (x.2 : Int) := by
          rw [ees, List.map_map, List.map_map]
          refine List.map_congr_left fun x hx => ?_
          show ((x.1 ^ fs.count x.1 : Nat) : Int) = (x.2 : Int)
          rw [← hps.power hf x hx]
        rw [← e]
        exact hz1
end
end K1

set_option Elab.async false
set_option linter.all false
set_option maxRecDepth 100000
namespace K1
open PySem PySem.Spec PyProof.Rows L2 Gd Qu Nm
section
variable {P : Program} {w : World} {K : PySem.W.Frag} {mg : Str → Option Value} {base : Heap}
def InR (n : Nat) : Prop := 1 ≤ n ∧ n ≤ 10000
def spWholes : Sp := fun vs H Q _ => ∃ (d c : Addr) (cells : List Int) (B : Nat), vs = [.ref d] ∧ FeedAt H d c cells B ∧ B ≤ 10000 ∧
  ∀ (a : Addr) (ns : List Nat) (H' : Hp), (∀ n ∈ ns, InR n) → ns.length ≤ 7 → FeedAt H' d c cells (B + 14) → Kp d H H' → H' a = some (.lst (nV ns)) → Q (.ref a) H'
theorem c__law_wholes (D : At K mg "_law_wholes" s__law_wholes ["_law_feed_here"]) (c__law_draw : Cal P w K mg base 1 "_law_draw" spDraw) (c__law_any : Cal P w K mg base 2 "_law_any" spAny) (z_range : mg "range" = none) : Cal P w K mg base 3 "_law_wholes" spWholes := by
  refine okC D sc__law_wholes (fun vs H Q E h => ?_) (fun f cdv A outer s H vs Q E hr h => ?_)
  · obtain ⟨d, c, cells, B, rfl, _⟩ := h
    rfl
  · obtain ⟨d, c, cells, B, rfl, F, hB, k⟩ := h
    have nd := sc__law_wholes.nd
    refine ⟨_, (pss_cons (ps_par (i := 3) (j := 4) rfl nd rfl rfl (by decide) rfl rfl (pa_cons (pe_lst (pa_cons pe_int (pa_cons pe_int (pa_cons (pe_op op_add pe_int (pe_k c__law_draw hr (by decide) (by rfl) (pa_cons (pv 0) (pa_cons pe_int pa_nil)))) (pa_cons (pe_op op_add pe_int (pe_k c__law_draw hr (by decide) (by rfl) (pa_cons (pv 0) (pa_cons pe_int pa_nil)))) (pa_cons (pe_op op_add pe_int (pe_k c__law_draw hr (by decide) (by rfl) (pa_cons (pv 0) (pa_cons pe_int pa_nil)))) pa_nil)))))) (pa_cons pe_int pa_nil)) rfl)
 (C8.pss_cut (ps_if (pt_cmpR op_eq (pe_k c__law_draw hr (by decide) (by rfl) (pa_cons (pv 0) (pa_cons pe_int pa_nil))) pe_int (nomark _))
 (pss_cons (ps_set (i := 4) nd rfl (.inl rfl) pe_int)
 (pss_cons (ps_set (i := 5) nd rfl (.inl rfl) (pe_lst (pa_cons pe_int (pa_cons pe_int (pa_cons pe_int (pa_cons pe_int (pa_cons pe_int (pa_cons pe_int (pa_cons pe_int (pa_cons (pe_op op_add pe_int (pe_k c__law_draw hr (by decide) (by rfl) (pa_cons (pv 0) (pa_cons pe_int pa_nil)))) pa_nil))))))))))
 (pss_one (ps_expr (pe_bm PySem.F.plainAttrs_list PySem.F.slot_list_append PySem.F.type_list_append mt_append (pv 3) (pa_cons (pe_k c__law_any hr (by decide) (by rfl) (pa_cons (pv 0) (pa_cons (pv 5) pa_nil))) pa_nil))))))
 pss_nil)
 (pss_cons (ps_set (i := 1) nd rfl (.inl rfl) pe_int)
 (pss_cons (ps_for PassesOwn.never rfl (pi_range1 (by rfl) z_range (pa_cons pe_int pa_nil)) (pg_name (i := 2) nd rfl (.inl rfl))
 (pss_cons (ps_set (i := 6) nd rfl (.inl rfl) (pe_op op_mul (pv 1) (pe_k c__law_any hr (by decide) (by rfl) (pa_cons (pv 0) (pa_cons (pe_lst (pa_cons pe_int (pa_cons pe_int (pa_cons pe_int (pa_cons pe_int (pa_cons pe_int (pa_cons pe_int pa_nil))))))) pa_nil)))))
 (pss_one (ps_set (i := 1) nd rfl (.inl rfl) (pe_ifExp (pt_cmpR op_le (pv 6) (pv 4) (nomark _)) (pv 6) (pv 1))))))
 (pss_one (ps_ret (pe_op op_cat (pv 3) (pe_lst (pa_cons (pv 1) pa_nil))))))))), ?_⟩
    refine ⟨_, rfl, d, c, cells, B, 30, rfl, F, by omega, by decide, by decide, fun r1 H1 h1 F1 k1 => ⟨_, _, rfl, rfl, ?_⟩⟩
    refine ⟨_, rfl, d, c, cells, B + 1, 150, rfl, F1, by omega, by decide, by decide, fun r2 H2 h2 F2 k2 => ⟨_, _, rfl, rfl, ?_⟩⟩
    refine ⟨_, rfl, d, c, cells, B + 2, 600, rfl, F2, by omega, by decide, by decide, fun r3 H3 h3 F3 k3 => ⟨_, _, rfl, rfl, ?_⟩⟩
    refine ⟨(by show 5 ≤ sizeLine; decide), fun l hl => ⟨_, _, rfl, ?_⟩⟩
    have F4 : FeedAt (upd H3 l (.lst (nV [1, 2, 1 + r1, 1 + r2, 1 + r3]))) d c cells (B + 3) := F3.same (same_new hl)
    have k4 : Kp d H (upd H3 l (.lst (nV [1, 2, 1 + r1, 1 + r2, 1 + r3]))) := ((k1.trans k2).trans k3).trans (same_new hl).kp
    have e4 : (upd H3 l (.lst (nV [1, 2, 1 + r1, 1 + r2, 1 + r3]))) l = some (.lst (nV [1, 2, 1 + r1, 1 + r2, 1 + r3])) := upd_same
    have ok4 : ∀ n ∈ [1, 2, 1 + r1, 1 + r2, 1 + r3], InR n := by
      intro n hn
      simp only [List.mem_cons, List.not_mem_nil, or_false] at hn
      unfold InR
      omega
    have nld : l ≠ d := F4.neL e4
    refine ⟨fun σ' H' => ∃ (most : Nat) (ns : List Nat) (y5 : Option V), σ' = [some (.ref d), none, none, some (.ref l), some (.int most), y5, none] ∧ most ≤ 10000 ∧ FeedAt H' d c cells (B + 6) ∧ Kp d H H' ∧ H' l = some (.lst (nV ns)) ∧ (∀ n ∈ ns, InR n) ∧ ns.length ≤ 6, ?_, ?_⟩
    · refine ⟨_, rfl, d, c, cells, B + 3, 5, rfl, F4, by omega, by decide, by decide, fun r5 H5 h5 F5 k5 => ⟨rfl, _, rfl, ite2 (fun _ => ?_) (fun _ => ?_)⟩⟩
      · have e5 := k5 _ _ nld e4
        refine ⟨_, rfl, d, c, cells, B + 4, 10000, rfl, F5, by omega, by decide, by decide, fun r6 H6 h6 F6 k6 => ⟨_, _, rfl, rfl, ?_⟩⟩
        have e6 := k6 _ _ nld e5
        refine ⟨(by show 8 ≤ sizeLine; decide), fun b hb => ?_⟩
        have e7 := same_new (o := .lst (nV [10000, 9973, 8192, 6561, 9409, 9240, 9699, 1 + r6])) hb _ _ e6
        have F7 : FeedAt (upd H6 b (.lst (nV [10000, 9973, 8192, 6561, 9409, 9240, 9699, 1 + r6]))) d c cells (B + 5) := F6.same (same_new hb)
        refine ⟨_, rfl, .inl ⟨rfl, _, .inl (.inl e7)⟩, _, rfl, _, rfl, d, c, b, cells, B + 5, _, rfl, F7, by omega, upd_same, (by show 1 ≤ 8; decide), (by show 8 ≤ 1000; decide), fun x H8 hx F8 k8 => ?_⟩
        obtain ⟨n, hn, rfl⟩ : ∃ n, InR n ∧ x = V.int (n : Nat) := by
          have hx' : x ∈ nV [10000, 9973, 8192, 6561, 9409, 9240, 9699, 1 + r6] := hx
          unfold nV at hx'
          obtain ⟨n, hn, rfl⟩ := List.mem_map.mp hx'
          refine ⟨n, ?_, rfl⟩
          simp only [List.mem_cons, List.not_mem_nil, or_false] at hn
          unfold InR
          omega
        have e8 := k8 _ _ nld e7
        refine ⟨l, _, _, rfl, rfl, e8, (by show 5 < sizeLine; decide), 10000, [1, 2, 1 + r1, 1 + r2, 1 + r3, n], _, rfl, by decide, ?_, ?_, ?_, ?_, (by show 6 ≤ 6; decide)⟩
        · obtain ⟨sp, ov, tn, q1, q2⟩ := F8.ex
          have ncl : c ≠ l := fun z => by
            rw [z] at F
            have := (F3.cl)
            have hl' := hl
            rw [← z] at hl'
            rw [F3.cl] at hl'
            cases hl'
          exact ⟨⟨sp, ov, tn, by rw [upd_ne nld.symm]; exact q1, q2⟩, by rw [upd_ne ncl]; exact F8.cl, F8.few⟩
        · have kk : Kp d H H8 := (((k4.trans k5).trans k6).trans (same_new hb).kp).trans k8
          intro b' o hb' ho
          rw [upd_ne (ne_of_none (((k1.trans k2).trans k3) b' o hb' ho) hl)]
          exact kk b' o hb' ho
        · rw [upd_same]
          rfl
        · intro m hm
          simp only [List.mem_cons, List.not_mem_nil, or_false] at hm
          unfold InR at *
          omega
      · exact ⟨700, _, _, rfl, by decide, F5.mono (by omega), k4.trans k5, k5 _ _ nld e4, ok4, (by show 5 ≤ 6; decide)⟩
    · rintro σ' H5 ⟨most, ns, y5, rfl, hm, F5, k5, e5, ok5, len5⟩
      refine ⟨8, rfl, by decide, by decide, for_it walk_range (fun i σ H' => ∃ (part : Nat) (y2 y6 : Option V), σ = [some (.ref d), some (.int part), y2, some (.ref l), some (.int most), y5, y6] ∧ InR part ∧ FeedAt H' d c cells (B + 6 + i) ∧ Kp d H H' ∧ H' l = some (.lst (nV ns)))
        ⟨1, none, none, rfl, ⟨by decide, by decide⟩, F5, k5, e5⟩ (fun _ _ _ _ _ => True.intro) ?_ ?_⟩
      · rintro i x σ H6 H' hi ⟨part, y2, y6, rfl, hp, F6, k6, e6⟩ ⟨eH, rfl⟩
        obtain rfl := eH.symm
        have hi8 : i < 8 := hi
        refine ⟨_, rfl, _, rfl, (by show 6 ≤ sizeLine; decide), fun b hb => ?_⟩
        have e7 := same_new (o := .lst (nV [2, 2, 3, 5, 7, 11])) hb _ _ e6
        refine ⟨d, c, b, cells, B + 6 + i, nV [2, 2, 3, 5, 7, 11], rfl, F6.same (same_new hb), by omega, upd_same, (by decide), (by decide), fun x H8 hx F8 k8 => ?_⟩
        obtain ⟨n, hn, rfl⟩ : ∃ n : Nat, (2 ≤ n ∧ n ≤ 11) ∧ x = V.int (n : Nat) := by
          unfold nV at hx
          obtain ⟨n, hn, rfl⟩ := List.mem_map.mp hx
          refine ⟨n, ?_, rfl⟩
          simp only [List.mem_cons, List.not_mem_nil, or_false] at hn
          omega
        have e8 := k8 _ _ nld e7
        have kk : Kp d H H8 := (k6.trans (same_new hb).kp).trans k8
        unfold InR at hp
        refine ⟨_, _, rfl, rfl, .inl ⟨by omega, by omega⟩, _, rfl, _, rfl, _, _, rfl, rfl, _, rfl, ite2 (fun e => ?_) (fun e => ?_)⟩
        · have e1 : (part : Int) * (n : Int) ≤ most := of_decide_eq_true e
          have e2 : part * n ≤ most := by exact_mod_cast e1
          have e3 : 1 ≤ part * n := Nat.mul_pos hp.1 (by omega)
          refine ⟨_, rfl, part * n, _, _, rfl, ⟨e3, by omega⟩, F8, kk, e8⟩
        · exact ⟨_, rfl, part, _, _, rfl, hp, F8, kk, e8⟩
      · rintro σ H6 ⟨part, y2, y6, rfl, hp, F6, k6, e6⟩
        refine ⟨_, rfl, _, rfl, (by show 1 ≤ sizeLine; decide), fun b hb => ⟨l, b, nV ns, _, rfl, rfl, same_new hb _ _ e6, upd_same, ?_, fun a ha => ?_⟩⟩
        · rw [nV_len]
          exact Nat.le_of_lt (small1000 (by show ns.length + 1 ≤ 1000; omega))
        · refine k a (ns ++ [part]) _ ?_ ?_ ((F6.same (same_new hb)).same (same_new ha)) ((k6.trans (same_new hb).kp).trans (same_new ha).kp) ?_
          · intro n hn
            rcases List.mem_append.mp hn with z | z
            · exact ok5 n z
            · rw [List.mem_singleton.mp z]
              exact hp
          · rw [List.length_append]
            show ns.length + 1 ≤ 7
            omega
          · rw [upd_same]
            unfold nV
            rw [List.map_append]
            rfl
end
end K1

set_option Elab.async false
set_option linter.all false
set_option maxRecDepth 100000
namespace K1
open PySem PySem.Spec PyProof.Rows L2 Gd Qu Nm
theorem nV_dp {K : PySem.W.Frag} {H : Hp} : ∀ fs : List Nat, DpAll K H (nV fs) (fs.map fun (p : Nat) => PyData.int (p : Int))
  | [] => .nil
  | p :: fs => .cons (.int _) (nV_dp fs)
theorem okA_nats {b : Nat} {fs : List Nat} (h : ∀ p ∈ fs, p < 2 ^ b) (h0 : 0 < b) (hb : b ≤ 1920) : OkA (fs.map fun (p : Nat) => PyData.int (p : Int)) 0 (1923 * fs.length) := by
  have e : (fs.map fun (p : Nat) => PyData.int (p : Int)) = (fs.map fun (p : Nat) => (p : Int)).map PyData.int := by rw [List.map_map]; rfl
  rw [e]
  have := okA_ints h0 hb (ns := fs.map fun (p : Nat) => (p : Int)) fun i hi => by
    obtain ⟨p, hp, rfl⟩ := List.mem_map.mp hi
    rw [Int.natAbs_natCast]
    exact h p hp
  rw [List.length_map] at this
  exact this
theorem facs1 {fs : List Nat} (g : Facs 1 fs) : fs = [] := by
  cases fs with
  | nil => rfl
  | cons a fs =>
    have h := g.prod
    have h1 := (g.pr a List.mem_cons_self).1
    have h2 : 0 < prodN fs := prod_pos fun b hb => (g.pr b (List.mem_cons_of_mem _ hb)).pos
    have h3 : 2 * 1 ≤ a * prodN fs := Nat.mul_le_mul h1 h2
    have h4 : a * prodN fs = 1 := h
    omega
theorem isP {n : Nat} {fs : List Nat} (h1 : 1 ≤ n) (g : Facs n fs) {b : Bool} (hb : b = true ↔ 2 ≤ n ∧ Least n n) : b = decide (fs.length = 1) := by
  have key : (2 ≤ n ∧ Least n n) ↔ fs.length = 1 := by
    by_cases e : n = 1
    · subst e
      have e2 := facs1 g
      subst e2
      constructor
      · rintro ⟨z, _⟩
        omega
      · intro z
        exact absurd z (by decide)
    · obtain ⟨l, hl⟩ := least_ex (n := n) (by omega)
      constructor
      · rintro ⟨_, z⟩
        exact (g.one hl).mp (hl.uniq z)
      · intro z
        have := (g.one hl).mpr z
        exact ⟨by omega, this ▸ hl⟩
  cases b with
  | true => exact (decide_eq_true (key.mp (hb.mp rfl))).symm
  | false => exact (decide_eq_false fun z => Bool.false_ne_true (hb.mpr (key.mpr z))).symm
section
variable {P : Program} {w : World} {K : PySem.W.Frag} {mg : Str → Option Value} {base : Heap}
def spRight : Sp := fun vs H Q _ => ∃ n : Nat, vs = [.int n] ∧ InR n ∧ ∀ H', Same H H' → Q (.bl true) H'
def cntF (n : Nat) (x : V) : Option V := match x with
  | .int i => if Nat.gcd i.natAbs n = 1 then some (.int i) else none
  | _ => none
theorem c__law_is_whole_right (D : At K mg "_law_is_whole_right" s__law_is_whole_right ["_law_whole"])
    (c__law_primes : Cal P w K mg base 1 "_law_primes" spFacs) (c_primes_of : Cal P w K mg base 4 "primes_of" spPrimes) (c_divisors_of : Cal P w K mg base 4 "divisors_of" spDvs)
    (c_totient_of : Cal P w K mg base 4 "totient_of" spTot) (c_power_parts : Cal P w K mg base 4 "power_parts" spPow) (c__law_divisors : Cal P w K mg base 2 "_law_divisors" spDvs)
    (c__law_totient : Cal P w K mg base 2 "_law_totient" spTotF) (c__law_powers : Cal P w K mg base 2 "_law_powers" spPowF) (c__law_same : CalG P w K mg base 1 "_law_same" ["_law_told", "_law_due"] (spSame K))
    (c_is_prime : Cal P w K mg base 2 "is_prime" spIsPrime) (c_is_prime_power : Cal P w K mg base 3 "is_prime_power" spIsPP) (c__law_gcd : Cal P w K mg base 1 "_law_gcd" spGcd)
    (z_tuple : mg "tuple" = none) (z_sorted : mg "sorted" = none) (z_set : mg "set" = none) (z_len : mg "len" = none) (z_list : mg "list" = none) (z_range : mg "range" = none) (z_int : mg "int" = none) :
    CalG P w K mg base 5 "_law_is_whole_right" ["_law_whole"] spRight := by
  refine okCG D sc__law_is_whole_right (fun vs H Q E h => ?_) (fun f cdv A outer s H vs Q E hr hG h => ?_)
  · obtain ⟨n, rfl, _⟩ := h
    rfl
  · obtain ⟨n, rfl, ⟨h1, h2⟩, k⟩ := h
    have nd := sc__law_is_whole_right.nd
    have hu64 := hr.units
    refine ⟨_, (pss_cons (ps_set (i := 1) nd rfl (.inl rfl) (pe_k c__law_primes hr (by decide) (by rfl) (pa_cons (pv 0) pa_nil)))
 (pss_cons (ps_set (i := 2) nd rfl (.inl rfl) (pe_lst (pa_cons (pe_k c_primes_of hr (by decide) (by rfl) (pa_cons (pv 0) pa_nil)) (pa_cons (pe_k c_divisors_of hr (by decide) (by rfl) (pa_cons (pv 0) pa_nil)) (pa_cons (pe_k c_totient_of hr (by decide) (by rfl) (pa_cons (pv 0) pa_nil)) (pa_cons (pe_k c_power_parts hr (by decide) (by rfl) (pa_cons (pv 0) pa_nil)) pa_nil))))))
 (pss_cons (ps_set (i := 3) nd rfl (.inl rfl) (pe_lst (pa_cons (pe_tupleOf (by rfl) z_tuple (pe_callB (cr_sortSet rfl) (by rfl) z_sorted (by decide +kernel) (pa_cons (pe_callTy (cr_setL rfl) (by rfl) z_set (by decide +kernel) (pa_cons (pv 1) pa_nil)) pa_nil))) (pa_cons (pe_k c__law_divisors hr (by decide) (by rfl) (pa_cons (pv 0) pa_nil)) (pa_cons (pe_k c__law_totient hr (by decide) (by rfl) (pa_cons (pv 0) pa_nil)) (pa_cons (pe_k c__law_powers hr (by decide) (by rfl) (pa_cons (pv 0) pa_nil)) pa_nil))))))
 (pss_cons (ps_if (pt_not (pt_val (pe_kG c__law_same hr hG (by decide) (by rfl) (pa_cons (pv 2) (pa_cons (pv 3) pa_nil)))))
 (pss_one (ps_ret pe_bl))
 pss_nil)
 (pss_cons (ps_set (i := 2) nd rfl (.inl rfl) (pe_lst (pa_cons (pe_k c_is_prime hr (by decide) (by rfl) (pa_cons (pv 0) pa_nil)) (pa_cons (pe_k c_is_prime_power hr (by decide) (by rfl) (pa_cons (pv 0) pa_nil)) pa_nil))))
 (C8.pss_cut (ps_if (pt_not (pt_val (pe_kG c__law_same hr hG (by decide) (by rfl) (pa_cons (pv 2) (pa_cons (pe_lst (pa_cons (pe_cmpR op_eq (pe_callB call_len_seq (by rfl) z_len PySem.boot_len (pa_cons (pv 1) pa_nil)) pe_int (nomark _)) (pa_cons (pe_and (pe_cmpR (op_neD hu64) (pv 1) (pe_lst pa_nil) (nomark _)) (pe_one (pe_cmpR op_eq (pe_ix ix_list (pv 1) pe_int (fun _ _ => rfl)) (pe_ix ix_list (pv 1) (pe_un un_neg pe_int) (fun _ _ => rfl)) (nomark _)))) pa_nil))) pa_nil)))))
 (pss_one (ps_ret pe_bl))
 pss_nil)
 (pss_cons (ps_if (pt_cmpR op_gt (pv 0) pe_int (nomark _))
 (pss_one (ps_ret pe_bl))
 pss_nil)
 (pss_cons (ps_set (i := 4) nd rfl (.inl rfl) (pe_listRg rfl (by rfl) z_list (prg_2 (by rfl) z_range pe_int (pe_op op_add (pv 0) pe_int))))
 (pss_cons (ps_set (i := 2) nd rfl (.inl rfl) (pe_lst (pa_cons (pe_k c_divisors_of hr (by decide) (by rfl) (pa_cons (pv 0) pa_nil)) (pa_cons (pe_k c_totient_of hr (by decide) (by rfl) (pa_cons (pv 0) pa_nil)) pa_nil))))
 (pss_cons (ps_set (i := 3) nd rfl (.inl rfl) (pe_lst (pa_cons (pe_tupleOf (by rfl) z_tuple (pe_lc (own := [("_law_part", 5)]) rfl nd (pi_list (pv 4)) (blkOk_by (N := N__law_is_whole_right) (sc := defScope s__law_is_whole_right) (by decide +kernel)) (fun _ _ _ _ _ => pg_name (i := 5) nd rfl (Or.inl rfl)) (fun _ _ _ _ _ => pts_one (pt_cmpR op_eq (pe_op op_mod (pe_callTy call_int1 (by rfl) z_int (by decide +kernel) (pa_cons (pv 0) pa_nil)) (pv 5)) pe_int (nomark _))) (fun _ _ _ _ _ => (pv 5)))) pa_nil)))
 (pss_one (ps_ret (pe_kG c__law_same hr hG (by decide) (by rfl) (pa_cons (pv 2) (pa_cons (pe_op op_cat (pv 3) (pe_lst (pa_cons (pe_callB call_len_seq (by rfl) z_len PySem.boot_len (pa_cons (pe_lc (own := [("_law_part", 5)]) rfl nd (pi_list (pv 4)) (blkOk_by (N := N__law_is_whole_right) (sc := defScope s__law_is_whole_right) (by decide +kernel)) (fun _ _ _ _ _ => pg_name (i := 5) nd rfl (Or.inl rfl)) (fun _ _ _ _ _ => pts_one (pt_cmpR op_eq (pe_k c__law_gcd hr (by decide) (by rfl) (pa_cons (pv 5) (pa_cons (pv 0) pa_nil))) pe_int (nomark _))) (fun _ _ _ _ _ => (pv 5))) pa_nil)) pa_nil))) pa_nil))))))))))))))), ?_⟩
    -- the parts
    refine ⟨_, rfl, n, rfl, h1, h2, fun a0 fs H0 hf flen s0 e0 => ?_⟩
    have f13 := facs_len13 h2 hf
    -- what is told
    refine ⟨_, rfl, n, rfl, h1, h2, fun a1 ps H1 hp s1 e1 => ?_⟩
    refine ⟨_, rfl, n, rfl, h1, h2, fun a2 H2 s2 e2 => ?_⟩
    refine ⟨_, rfl, n, rfl, h1, h2, fun ps' H3 hp' s3 => ?_⟩
    obtain rfl := hp.uniq hp'
    refine ⟨_, rfl, n, rfl, h1, h2, fun a4 ps' zs H4 hp'' zp za s4 e4 => ?_⟩
    obtain rfl := hp.uniq hp''
    refine ⟨(by show 4 ≤ sizeLine; decide), fun t1 ht1 => ?_⟩
    have sT := same_new (o := .lst [V.ref a1, .ref a2, .int (totP ps : Nat), .ref a4]) ht1
    -- what is due
    have e0' := sT _ _ (s4 _ _ (s3 _ _ (s2 _ _ (s1 _ _ e0))))
    refine ⟨_, rfl, a0, fs.map fun (p : Nat) => (p : Int), rfl, .inl (.inl (by rw [e0', nV_ints])), ?_, fun p5 m hp5 hm => ⟨p5, _, m, rfl, upd_same, ?_, fun ks p6 kasc kmem hp6 => ?_⟩⟩
    · rw [List.length_map]
      omega
    · rw [List.length_map] at hm
      omega
    obtain ⟨es, rfl, easc, emem⟩ := ks_ex (S := fun d => d ∈ fs) kasc fun z => by
      rw [kmem z, decide_eq_true_eq, List.mem_map]
      constructor
      · rintro ⟨d, hd, rfl⟩
        exact ⟨d, hd, rfl⟩
      · rintro ⟨d, hd, rfl⟩
        exact ⟨d, hd, rfl⟩
    have ees := facs_set hf hp easc emem
    have s5 := same_new (o := SetO w p5 (fun j => decide (j ∈ fs.map fun (p : Nat) => (p : Int))) m) hp5
    have s6 := same_new (o := .lst ((es.map fun (d : Nat) => (d : Int)).map V.int)) hp6
    refine .inl ⟨p6, _, rfl, .inl (.inl upd_same), fun q7 hq7 => ?_⟩
    have s7 := same_new (o := .tup ((es.map fun (d : Nat) => (d : Int)).map V.int)) hq7
    refine ⟨_, rfl, n, rfl, h1, h2, fun a8 H8 s8 e8 => ?_⟩
    refine ⟨_, rfl, n, ps, rfl, h1, h2, hp, fun H9 s9 => ?_⟩
    refine ⟨_, rfl, n, ps, rfl, h1, h2, hp, fun a10 zs' H10 zp' za' s10 e10 => ?_⟩
    have ezz : zs' = zs := List.Perm.eq_of_pairwise (fun a b _ _ q1 q2 => Int.le_antisymm q1 q2) za' za (zp'.trans zp.symm)
    subst ezz
    refine ⟨(by show 4 ≤ sizeLine; decide), fun d1 hd1 => ?_⟩
    have s11 := same_new (o := .lst [V.ref q7, .ref a8, .int (totP ps : Nat), .ref a10]) hd1
    -- both are the same
    have sTo : Same (upd H4 t1 (.lst [V.ref a1, .ref a2, .int (totP ps : Nat), .ref a4])) (upd H10 d1 (.lst [V.ref q7, .ref a8, .int (totP ps : Nat), .ref a10])) :=
      s5.trans (s6.trans (s7.trans (s8.trans (s9.trans (s10.trans s11)))))
    have f1 := sTo _ _ (sT _ _ (s4 _ _ (s3 _ _ (s2 _ _ e1))))
    have f2 := sTo _ _ (sT _ _ (s4 _ _ (s3 _ _ e2)))
    have f4 := sTo _ _ (sT _ _ e4)
    have fT := sTo _ _ upd_same
    have f7 := s11 _ _ (s10 _ _ (s9 _ _ (s8 _ _ (upd_same (H := _) (a := q7) (o := .tup ((es.map fun (d : Nat) => (d : Int)).map V.int))))))
    have f8 := s11 _ _ (s10 _ _ (s9 _ _ e8))
    have f10 := s11 _ _ e10
    have fD : (upd H10 d1 (.lst [V.ref q7, .ref a8, .int (totP ps : Nat), .ref a10])) d1 = _ := upd_same
    have ep : (ps.map fun x => V.int (x.1 : Int)) = nV es := by
      rw [ees]
      unfold nV
      rw [List.map_map]
      rfl
    rw [ep] at f1
    rw [← nV_ints] at f7
    have es13 : es.length ≤ 13 := by
      have h3 := List.Nodup.length_le_of_subset (easc.imp fun h => Nat.ne_of_lt h) fun d hd => (emem d).mp hd
      omega
    have okE : OkA [.tuple (es.map fun (p : Nat) => PyData.int (p : Int))] 1 400000 := by
      refine (okA_tup (okA_nats (b := 14) (fun p hp => ?_) (by decide) (by decide))).mono (Nat.le_refl _) (by omega)
      have := Nat.le_of_dvd h1 ((hf.mem p).mp ((emem p).mp hp)).2
      omega
    have okV : OkA [.tuple ((dvs n).map fun (p : Nat) => PyData.int (p : Int))] 1 400000 := by
      have := dv_len h1 h2 (dvs_asc n) fun d hd => (dvs_mem h1 d).mp hd
      refine (okA_tup (okA_nats (b := 14) (fun p hp => ?_) (by decide) (by decide))).mono (Nat.le_refl _) (by omega)
      have := Nat.le_of_dvd h1 ((dvs_mem h1 p).mp hp)
      omega
    have tn : totP ps ≤ n := by
      have := parts_tot_le hp ps.length
      rwa [List.take_length] at this
    have okT : OkA [.int ((totP ps : Nat) : Int)] 1 1923 := okA_int (b := 14) (by rw [Int.natAbs_natCast]; omega) (by decide) (by decide)
    have okZ : OkA [.tuple (zs'.map PyData.int)] 1 400000 := by
      have zl : zs'.length ≤ 13 := by
        rw [zp.length_eq, List.length_map]
        have := congrArg List.length ees
        rw [List.length_map] at this
        omega
      refine (okA_tup (okA_ints (b := 14) (by decide) (by decide) fun z hz => ?_)).mono (Nat.le_refl _) (by omega)
      obtain ⟨x, hx, rfl⟩ := List.mem_map.mp (zp.mem_iff.mp hz)
      have := (parts_le h1 hp x hx).2.2.2
      rw [Int.natAbs_natCast]
      omega
    refine ⟨_, rfl, _, rfl, t1, d1, .list [.tuple (es.map fun (p : Nat) => PyData.int (p : Int)), .tuple ((dvs n).map fun (p : Nat) => PyData.int (p : Int)), .int ((totP ps : Nat) : Int), .tuple (zs'.map PyData.int)], rfl, ?_, ?_,
      okD_list (okA_cons okE (okA_cons okV (okA_cons okT okZ))) (by decide) (by decide), true, rfl, iteF ?_⟩
    · exact .lst (.inl (.inl fT)) (.cons (.tup (.inl (.inl f1)) (nV_dp es)) (.cons (.tup (.inl (.inl f2)) (nV_dp (dvs n))) (.cons (.int _) (.cons (.tup (.inl (.inl f4)) (dpInts zs')) .nil))))
    · exact .lst (.inl (.inl fD)) (.cons (.tup (.inl (.inl f7)) (nV_dp es)) (.cons (.tup (.inl (.inl f8)) (nV_dp (dvs n))) (.cons (.int _) (.cons (.tup (.inl (.inl f10)) (dpInts zs')) .nil))))
    have g0 := sTo _ _ e0'
    have sAll : Same H (upd H10 d1 (.lst [V.ref q7, .ref a8, .int (totP ps : Nat), .ref a10])) := s0.trans (s1.trans (s2.trans (s3.trans (s4.trans (sT.trans sTo)))))
    generalize upd H10 d1 (.lst [V.ref q7, .ref a8, .int (totP ps : Nat), .ref a10]) = G1 at g0 sAll ⊢
    -- one prime, one part
    refine ⟨_, rfl, n, rfl, h1, h2, fun b1 hb1 => ?_⟩
    obtain rfl := isP h1 hf hb1
    refine ⟨_, rfl, n, rfl, h1, h2, fun b2 G2 sG2 hb2 => ?_⟩
    have hb2 := hb2 ps hp
    rw [hp.one hf] at hb2
    refine ⟨(by show 2 ≤ sizeLine; decide), fun t2 ht2 => ?_⟩
    have sG3 := same_new (o := .lst [V.bl (decide (fs.length = 1)), .bl b2]) ht2
    have g3 := sG3 _ _ (sG2 _ _ g0)
    have gT2 : (upd G2 t2 (.lst [V.bl (decide (fs.length = 1)), .bl b2])) t2 = _ := upd_same
    have sAll3 := sAll.trans (sG2.trans sG3)
    generalize upd G2 t2 (.lst [V.bl (decide (fs.length = 1)), .bl b2]) = G3 at g3 gT2 sAll3 ⊢
    have lenEq : decide (V.int ((nV fs).length : Int) = V.int 1) = decide (fs.length = 1) := by
      rw [nV_len]
      by_cases e : fs.length = 1
      · rw [e]
        rfl
      · rw [decide_eq_false e]
        refine decide_eq_false fun z => e ?_
        have := V.int.inj z
        omega
    refine ⟨fun σ' H' => σ' = [some (.int n), some (.ref a0), some (.ref t2), some (.ref d1), none, none] ∧ Same H H', ?_, ?_⟩
    · refine ⟨_, rfl, _, rfl, a0, _, rfl, .inl (.inl (.inl g3)), rfl, _, rfl, Nat.zero_le _, fun p hp0 => ?_⟩
      have sP := same_new (o := .lst []) hp0
      have g4 := sP _ _ g3
      have gT4 := sP _ _ gT2
      have last : ∀ (v : Bool) (G : Hp), Same (upd G3 p (.lst [])) G → (b2 = v) → ∀ d2, G d2 = none → Dp K (upd G d2 (.lst [V.bl (decide (V.int ((nV fs).length : Int) = V.int 1)), .bl v])) (.ref t2) (.list [.bool (decide (fs.length = 1)), .bool b2]) ∧
          Dp K (upd G d2 (.lst [V.bl (decide (V.int ((nV fs).length : Int) = V.int 1)), .bl v])) (.ref d2) (.list [.bool (decide (fs.length = 1)), .bool b2]) := by
        intro v G sG e d2 hd2
        subst e
        rw [lenEq]
        exact ⟨.lst (.inl (.inl (same_new hd2 _ _ (sG _ _ gT4)))) (.cons (.bl _) (.cons (.bl _) .nil)), .lst (.inl (.inl upd_same)) (.cons (.bl _) (.cons (.bl _) .nil))⟩
      have okB : OkD (.list [.bool (decide (fs.length = 1)), .bool b2]) 16000000 := okD_list (k := 1) (okA_cons okA_bool okA_bool) (by decide) (by decide)
      refine ⟨.list (fs.map fun (p : Nat) => PyData.int (p : Int)), .list [], .lst (.inl (.inl g4)) (nV_dp fs), .lst (.inl (.inl upd_same)) .nil, ?_, shapedInts [], ?_⟩
      · have := shapedInts (fs.map fun (p : Nat) => (p : Int))
        rw [List.map_map] at this
        exact this
      cases fs with
      | nil =>
        refine ⟨false, rfl, iteF ⟨(by show 2 ≤ sizeLine; decide), fun d2 hd2 => ?_⟩⟩
        have eb : b2 = false := by
          cases b2 with
          | false => rfl
          | true => exact absurd rfl (hb2.mp rfl).1
        obtain ⟨q1, q2⟩ := last false _ (Same.refl _) eb d2 hd2
        exact ⟨t2, d2, _, rfl, q1, q2, okB, true, rfl, iteF ⟨rfl, sAll3.trans (sP.trans (same_new hd2))⟩⟩
      | cons f0 ft =>
        have hl : (f0 :: ft).length - 1 < (f0 :: ft).length := by rw [List.length_cons]; omega
        have eL : nV (f0 :: ft) = (nV (f0 :: ft)).dropLast ++ [V.int ((f0 :: ft)[(f0 :: ft).length - 1] : Nat)] := by
          have e1 := List.dropLast_concat_getLast (l := nV (f0 :: ft)) (by intro z; cases z)
          rw [← e1]
          congr 2
          rw [e1]
          unfold nV
          rw [List.getLast_map, List.getLast_eq_getElem]
        have gl : atI (nV (f0 :: ft)) (-1) = some (V.int ((f0 :: ft)[(f0 :: ft).length - 1] : Nat)) := by
          rw [eL]
          exact atI_last _ _
        refine ⟨true, rfl, iteT ⟨_, rfl, a0, nV (f0 :: ft), 0, V.int (f0 : Nat), rfl, rfl, .inl (.inl g4), atI_nat (j := 0) rfl, _, rfl, 1, rfl, a0, nV (f0 :: ft), -1, _, rfl, rfl, .inl (.inl g4), gl, rfl, ?_⟩⟩
        refine ⟨(by show 2 ≤ sizeLine; decide), fun d2 hd2 => ?_⟩
        have eb : b2 = decide (V.int (f0 : Nat) = V.int ((f0 :: ft)[(f0 :: ft).length - 1] : Nat)) := by
          have key : ((f0 :: ft) ≠ [] ∧ (f0 :: ft)[0]? = (f0 :: ft)[(f0 :: ft).length - 1]?) ↔ V.int (f0 : Nat) = V.int ((f0 :: ft)[(f0 :: ft).length - 1] : Nat) := by
            rw [List.getElem?_eq_getElem hl]
            constructor
            · rintro ⟨_, z⟩
              have : f0 = (f0 :: ft)[(f0 :: ft).length - 1] := Option.some.inj z
              rw [← this]
            · intro z
              have := V.int.inj z
              refine ⟨List.cons_ne_nil _ _, ?_⟩
              have h3 : f0 = (f0 :: ft)[(f0 :: ft).length - 1] := by omega
              show some f0 = _
              rw [← h3]
          cases b2 with
          | true => exact (decide_eq_true (key.mp (hb2.mp rfl))).symm
          | false => exact (decide_eq_false fun z => Bool.false_ne_true (hb2.mpr (key.mpr z))).symm
        obtain ⟨q1, q2⟩ := last _ _ (Same.refl _) eb d2 hd2
        exact ⟨t2, d2, _, rfl, q1, q2, okB, true, rfl, iteF ⟨rfl, sAll3.trans (sP.trans (same_new hd2))⟩⟩
    · clear hb2
      rintro σ' K3 ⟨rfl, sK3⟩
      refine ⟨_, rfl, _, _, rfl, rfl, _, rfl, ite2 (fun _ => k K3 sK3) (fun c => ?_)⟩
      have c1 : ¬ (150 : Int) < (n : Int) := fun z => c (decide_eq_true z)
      have n150 : n ≤ 150 := by omega
      have erg : L2.rgV 1 ((n : Int) + 1) = rgG 1 n := by
        unfold L2.rgV rgG
        rw [show ((n : Int) + 1 - 1).toNat = n by omega]
      -- every
      refine ⟨_, rfl, _, _, rfl, rfl, 1, (n : Int) + 1, rfl, rfl, ⟨by omega, by omega, by omega, by omega, by omega⟩, fun ev hev => ?_⟩
      rw [erg]
      have sE := same_new (o := .lst (rgG 1 n)) hev
      have gE : (upd K3 ev (.lst (rgG 1 n))) ev = some (.lst (rgG 1 n)) := upd_same
      have sE' := sK3.trans sE
      generalize upd K3 ev (.lst (rgG 1 n)) = K4 at gE sE' ⊢
      refine ⟨_, rfl, n, rfl, h1, h2, fun a5 K5 s5 e5 => ?_⟩
      refine ⟨_, rfl, n, rfl, h1, h2, fun ps6 K6 hp6 s6 => ?_⟩
      obtain rfl := hp.uniq hp6
      refine ⟨(by show 2 ≤ sizeLine; decide), fun t7 ht7 => ?_⟩
      have s7 := same_new (o := .lst [V.ref a5, .int (totP ps : Nat)]) ht7
      have gE7 := s7 _ _ (s6 _ _ (s5 _ _ gE))
      have g57 := s7 _ _ (s6 _ _ e5)
      have gt7 : (upd K6 t7 (.lst [V.ref a5, .int (totP ps : Nat)])) t7 = _ := upd_same
      have s47 := s5.trans (s6.trans s7)
      generalize upd K6 t7 (.lst [V.ref a5, .int (totP ps : Nat)]) = K7 at gE7 g57 gt7 s47 ⊢
      refine ⟨_, rfl, ev, rfl, ⟨_, .inl (.inl gE7)⟩, fun L hL => lcF (walk_list (xs := rgG 1 n)) (dvF n) hL ?_ (fun H' sm => .inl (.inl (sm _ _ gE7))) ?_ ?_⟩
      · rw [rgG_len]
        exact small1000 (by omega)
      · intro x H' R S hx sm q1 q2
        rw [rgG_eq] at hx
        obtain ⟨t, ht, rfl⟩ := List.mem_map.mp hx
        obtain ⟨i, hi, rfl⟩ := List.mem_map.mp ht
        refine ⟨rfl, _, rfl, .inl ⟨_, rfl, _, rfl, _, _, rfl, rfl, (by show (0 : Int) < ((1 + i : Nat) : Int); omega), rfl, _, rfl, ?_⟩⟩
        have n0 : ¬ ((1 + i : Nat) : Int) = 0 := by omega
        refine ite2 (fun c => ?_) (fun c => ?_)
        · have c1 : (n : Int) % ((1 + i : Nat) : Int) = 0 := V.int.inj (of_decide_eq_true c)
          refine ⟨_, rfl, q1 _ ?_ H' (Same.refl _)⟩
          unfold dvF
          simp only [if_neg n0, if_pos c1]
        · have c1 : ¬ (n : Int) % ((1 + i : Nat) : Int) = 0 := fun z => c (decide_eq_true (congrArg V.int z))
          refine q2 ?_ H' (Same.refl _)
          unfold dvF
          simp only [if_neg n0, if_neg c1]
      · intro K8 s8 e8
        have edv : (rgG 1 n).filterMap (dvF n) = nV (dvs n) := by
          rw [rgG_eq]
          refine filterMap_if _ _ _ _ fun t ht => ?_
          obtain ⟨i, hi, rfl⟩ := List.mem_map.mp ht
          have n0 : ¬ ((1 + i : Nat) : Int) = 0 := by omega
          unfold dvF
          simp only [if_neg n0]
          by_cases c : n % (1 + i) = 0
          · have c1 : (n : Int) % ((1 + i : Nat) : Int) = 0 := by rw [modN, c]; rfl
            rw [if_pos c1, if_pos (decide_eq_true c)]
          · have c1 : ¬ (n : Int) % ((1 + i : Nat) : Int) = 0 := by rw [modN]; omega
            rw [if_neg c1, if_neg fun z => c (of_decide_eq_true z)]
        rw [edv] at e8
        refine .inl ⟨L, _, rfl, .inl (.inl e8), fun q9 hq9 => ⟨(by show 1 ≤ sizeLine; decide), fun d10 hd10 => ?_⟩⟩
        have s9 := same_new (o := .tup (nV (dvs n))) hq9
        have s10 := same_new (o := .lst [V.ref q9]) hd10
        have s810 := s8.trans (s9.trans s10)
        have gE10 := s810 _ _ gE7
        have gq10 := s10 _ _ (upd_same (H := K8) (a := q9) (o := .tup (nV (dvs n))))
        have gd10 : (upd (upd K8 q9 (.tup (nV (dvs n)))) d10 (.lst [V.ref q9])) d10 = _ := upd_same
        generalize upd (upd K8 q9 (.tup (nV (dvs n)))) d10 (.lst [V.ref q9]) = K10 at s810 gE10 gq10 gd10 ⊢
        refine ⟨_, rfl, _, rfl, _, rfl, ev, rfl, ⟨_, .inl (.inl gE10)⟩, fun M hM => lcF (walk_list (xs := rgG 1 n)) (cntF n) hM ?_ (fun H' sm => .inl (.inl (sm _ _ gE10))) ?_ ?_⟩
        · rw [rgG_len]
          exact small1000 (by omega)
        · intro x H' R S hx sm q1 q2
          rw [rgG_eq] at hx
          obtain ⟨t, ht, rfl⟩ := List.mem_map.mp hx
          refine ⟨rfl, _, rfl, _, rfl, _, _, rfl, rfl, _, rfl, ite2 (fun c => ?_) (fun c => ?_)⟩
          · have c1 : Nat.gcd ((t : Int)).natAbs n = 1 := by
              have := V.int.inj (of_decide_eq_true c)
              rw [Int.natAbs_natCast] at this ⊢
              rw [Int.natAbs_natCast] at this
              omega
            refine ⟨_, rfl, q1 _ ?_ H' (Same.refl _)⟩
            unfold cntF
            simp only [if_pos c1]
          · have c1 : ¬ Nat.gcd ((t : Int)).natAbs n = 1 := by
              intro z
              refine c (decide_eq_true ?_)
              show V.int ((Nat.gcd ((t : Int)).natAbs ((n : Int)).natAbs : Nat) : Int) = V.int 1
              rw [Int.natAbs_natCast n, z]
              rfl
            refine q2 ?_ H' (Same.refl _)
            unfold cntF
            simp only [if_neg c1]
        · intro K11 s11 e11
          have ecn : ((rgG 1 n).filterMap (cntF n)).length = Nm.cnt n := by
            have e : (rgG 1 n).filterMap (cntF n) = (((List.range n).map (1 + ·)).filter fun k => decide (Nat.gcd k n = 1)).map fun (t : Nat) => V.int (t : Int) := by
              rw [rgG_eq]
              refine filterMap_if _ _ _ _ fun t ht => ?_
              unfold cntF
              simp only [Int.natAbs_natCast]
              by_cases c : Nat.gcd t n = 1
              · rw [if_pos c, if_pos (decide_eq_true c)]
              · rw [if_neg c, if_neg fun z => c (of_decide_eq_true z)]
            rw [e, List.length_map]
            rfl
          refine ⟨M, _, rfl, .inl (.inl (.inl e11)), (by show 1 ≤ sizeLine; decide), fun c12 hc12 => ⟨d10, c12, _, _, rfl, rfl, same_new hc12 _ _ (s11 _ _ gd10), upd_same, (by show 2 ≤ sizeLine; decide), fun r13 hr13 => ?_⟩⟩
          rw [ecn] at hr13 ⊢
          have s12 := same_new (o := .lst [V.int (Nm.cnt n : Nat)]) hc12
          have s13 := same_new (o := .lst ([V.ref q9] ++ [V.int (Nm.cnt n : Nat)])) hr13
          have sZ := s11.trans (s12.trans s13)
          have tc := tot_cnt h1 n150 hp
          refine ⟨t7, r13, .list [.tuple ((dvs n).map fun (p : Nat) => PyData.int (p : Int)), .int ((totP ps : Nat) : Int)], rfl, ?_, ?_, okD_list (okA_cons okV okT) (by decide) (by decide), ?_⟩
          · exact .lst (.inl (.inl (sZ _ _ (s810 _ _ gt7)))) (.cons (.tup (.inl (.inl (sZ _ _ (s810 _ _ g57)))) (nV_dp (dvs n))) (.cons (.int _) .nil))
          · refine .lst (.inl (.inl upd_same)) (.cons (.tup (.inl (.inl (sZ _ _ gq10))) (nV_dp (dvs n))) (.cons ?_ .nil))
            rw [tc]
            exact .int _
          · exact k _ (sE'.trans (s47.trans (s810.trans sZ)))
end
end K1

set_option Elab.async false
set_option linter.all false
set_option maxRecDepth 100000
namespace K1
open PySem PySem.Spec PyProof.Rows L2 Gd Qu Nm
def dq (q : Int × Int) : PyData := .tuple [.int q.1, .int q.2]
theorem dpQ {K : PySem.W.Frag} {H : Hp} {a : Addr} {q : Int × Int} (h : QAt H a q) : Dp K H (.ref a) (dq q) := .tup h.sq (.cons (.int _) (.cons (.int _) .nil))
theorem okQ {q : Int × Int} {n : Nat} (h : Sz n q) (h0 : 0 < n) (hn : n ≤ 1920) : OkA [dq q] 1 3851 :=
  (okA_tup (okA_cons (okA_int (k := 0) h.t h0 hn) (okA_int (k := 0) h.b h0 hn))).mono (Nat.le_refl _) (by decide)
theorem qs_nil {H : Hp} : QsAt H [] [] := ⟨rfl, fun i a q e => by simp at e⟩
theorem qs_cons {H : Hp} {a : Addr} {q : Int × Int} {as : List Addr} {qs : List (Int × Int)} (h : QAt H a q) (t : QsAt H as qs) : QsAt H (a :: as) (q :: qs) := by
  refine ⟨by rw [List.length_cons, List.length_cons, t.1], fun i b r e1 e2 => ?_⟩
  cases i with
  | zero =>
    obtain rfl : a = b := Option.some.inj e1
    obtain rfl : q = r := Option.some.inj e2
    exact h
  | succ i => exact t.2 i b r e1 e2
theorem QsAt.kp {d : Addr} {H H' : Hp} {as : List Addr} {qs : List (Int × Int)} (s : Kp d H H') (hd : ∀ (i : Nat) (a : Addr) (q : Int × Int), as[i]? = some a → qs[i]? = some q → QAt H a q → a ≠ d) (h : QsAt H as qs) : QsAt H' as qs :=
  ⟨h.1, fun i a q e1 e2 => s a _ (hd i a q e1 e2 (h.2 i a q e1 e2)) (h.2 i a q e1 e2)⟩
theorem five {α : Type} {l : List α} (h : l.length = 5) : ∃ a b c d e, l = [a, b, c, d, e] := by
  match l, h with
  | [a, b, c, d, e], _ => exact ⟨a, b, c, d, e, rfl⟩
section
variable {P : Program} {w : World} {K : PySem.W.Frag} {mg : Str → Option Value} {base : Heap}
def spQRight : Sp := fun vs H Q _ => ∃ (d c : Addr) (cells : List Int) (B : Nat), vs = [.ref d] ∧ FeedAt H d c cells B ∧ B ≤ 10000 ∧ ∀ H', FeedAt H' d c cells (B + 17) → Kp d H H' → Q (.bl true) H'
theorem c__law_are_quotients_right (D : At K mg "_law_are_quotients_right" s__law_are_quotients_right ["_law_feed_here"])
    (c__law_draw : Cal P w K mg base 1 "_law_draw" spDraw) (c__law_fraction : Cal P w K mg base 3 "_law_fraction" spFrac) (c__law_plus : Cal P w K mg base 3 "_law_plus" (spTwoQ plusQ fun _ => True))
    (c__law_cut : Cal P w K mg base 2 "_law_cut" spQuot) (c_sums : Cal P w K mg base 4 "sums" (spFoldQ plusQ (0, 1))) (c_products : Cal P w K mg base 4 "products" (spFoldQ prodQ (1, 1)))
    (c_less : Cal P w K mg base 4 "less" (spTwoQ lessQ fun _ => True)) (c_over : Cal P w K mg base 4 "over" (spTwoQ overQ fun y => y.1 ≠ 0)) (c_quotient : Cal P w K mg base 2 "quotient" spQuot)
    (c_is_quotient : Cal P w K mg base 3 "is_quotient" spIsQ) (c__law_same : CalG P w K mg base 1 "_law_same" ["_law_told", "_law_due"] (spSame K)) (z_range : mg "range" = none) :
    CalG P w K mg base 5 "_law_are_quotients_right" ["_law_feed_here"] spQRight := by
  refine okCG D sc__law_are_quotients_right (fun vs H Q E h => ?_) (fun f cdv A outer s H vs Q E hr hG h => ?_)
  · obtain ⟨d, c, cells, B, rfl, _⟩ := h
    rfl
  · obtain ⟨d, c, cells, B, rfl, F, hB, k⟩ := h
    have nd := sc__law_are_quotients_right.nd
    refine ⟨_, (pss_cons (ps_setLc (i := 1) (own := [("_law_lap", 13)]) rfl nd rfl rfl (sw_true rfl rfl rfl (by decide +kernel)) (pi_range1 (by rfl) z_range (pa_cons pe_int pa_nil)) (blkOk_by (N := N__law_are_quotients_right) (sc := defScope s__law_are_quotients_right) (by decide +kernel)) (fun _ _ _ _ _ => pg_name (i := 13) nd rfl (Or.inl rfl)) (fun _ _ _ _ _ => pts_nil) (fun _ _ _ _ _ => (pe_k c__law_fraction hr (by decide) (by rfl) (pa_cons (pv 0) pa_nil))))
 (pss_cons (ps_asg (pe_slice sl_list (pv 1) po_none (po_some pe_int)) (pg_unl rfl (pgs_cons (pg_name (i := 5) nd rfl (.inl rfl)) (pgs_cons (pg_name (i := 6) nd rfl (.inl rfl)) (pgs_cons (pg_name (i := 7) nd rfl (.inl rfl)) pgs_nil)))))
 (pss_cons (ps_asg (pe_tup (pa_cons (pe_tup (pa_cons pe_int (pa_cons pe_int pa_nil))) (pa_cons (pe_tup (pa_cons pe_int (pa_cons pe_int pa_nil))) pa_nil))) (pg_tup rfl (pgs_cons (pg_name (i := 8) nd rfl (.inl rfl)) (pgs_cons (pg_name (i := 9) nd rfl (.inl rfl)) pgs_nil))))
 (pss_cons (ps_for PassesOwn.never rfl (pi_list (pv 1)) (pg_name (i := 2) nd rfl (.inl rfl))
 (pss_one (ps_par (i := 8) (j := 9) rfl nd rfl rfl (by decide) rfl rfl (pa_cons (pe_k c__law_plus hr (by decide) (by rfl) (pa_cons (pv 8) (pa_cons (pv 2) pa_nil))) (pa_cons (pe_k c__law_cut hr (by decide) (by rfl) (pa_cons (pe_op op_mulW (pe_ix ix_tup (pv 9) pe_int (fun _ _ => rfl)) (pe_ix ix_tup (pv 2) pe_int (fun _ _ => rfl))) (pa_cons (pe_op op_mulW (pe_ix ix_tup (pv 9) pe_int (fun _ _ => rfl)) (pe_ix ix_tup (pv 2) pe_int (fun _ _ => rfl))) pa_nil))) pa_nil)) rfl)))
 (pss_cons (ps_set (i := 3) nd rfl (.inl rfl) (pe_lst (pa_cons (pe_k0 c_sums hr (by decide) (by rfl)) (pa_cons (pe_k0 c_products hr (by decide) (by rfl)) (pa_cons (pe_k c_sums hr (by decide) (by rfl) (pa_cons (pv 5) pa_nil)) (pa_cons (pe_k c_products hr (by decide) (by rfl) (pa_cons (pv 6) pa_nil)) (pa_cons (pe_k c_sums hr (by decide) (by rfl) (pa_cons (pv 5) (pa_cons (pv 6) (pa_cons (pv 7) (pa_cons (pe_ix ix_list (pv 1) pe_int (fun _ _ => rfl)) (pa_cons (pe_ix ix_list (pv 1) pe_int (fun _ _ => rfl)) pa_nil)))))) pa_nil)))))))
 (pss_cons (ps_expr (pe_bm PySem.F.plainAttrs_list PySem.F.slot_list_append PySem.F.type_list_append mt_append (pv 3) (pa_cons (pe_k c_products hr (by decide) (by rfl) (pa_cons (pe_ix ix_list (pv 1) pe_int (fun _ _ => rfl)) (pa_cons (pe_ix ix_list (pv 1) pe_int (fun _ _ => rfl)) (pa_cons (pv 7) (pa_cons (pv 6) (pa_cons (pv 5) pa_nil)))))) pa_nil)))
 (pss_cons (ps_if (pt_not (pt_val (pe_kG c__law_same hr hG (by decide) (by rfl) (pa_cons (pv 3) (pa_cons (pe_lst (pa_cons (pe_tup (pa_cons pe_int (pa_cons pe_int pa_nil))) (pa_cons (pe_tup (pa_cons pe_int (pa_cons pe_int pa_nil))) (pa_cons (pv 5) (pa_cons (pv 6) (pa_cons (pv 8) (pa_cons (pv 9) pa_nil))))))) pa_nil)))))
 (pss_one (ps_ret pe_bl))
 pss_nil)
 (pss_cons (ps_set (i := 4) nd rfl (.inl rfl) (pe_k c__law_plus hr (by decide) (by rfl) (pa_cons (pv 5) (pa_cons (pe_tup (pa_cons (pe_un un_neg (pe_ix ix_tup (pv 6) pe_int (fun _ _ => rfl))) (pa_cons (pe_ix ix_tup (pv 6) pe_int (fun _ _ => rfl)) pa_nil))) pa_nil))))
 (pss_cons (ps_if (pt_not (pt_val (pe_kG c__law_same hr hG (by decide) (by rfl) (pa_cons (pe_lst (pa_cons (pe_k c_less hr (by decide) (by rfl) (pa_cons (pv 5) (pa_cons (pv 6) pa_nil))) (pa_cons (pe_k c_sums hr (by decide) (by rfl) (pa_cons (pe_k c_less hr (by decide) (by rfl) (pa_cons (pv 5) (pa_cons (pv 6) pa_nil))) (pa_cons (pv 6) pa_nil))) (pa_cons (pe_k c_less hr (by decide) (by rfl) (pa_cons (pv 5) (pa_cons (pv 5) pa_nil))) pa_nil)))) (pa_cons (pe_lst (pa_cons (pv 4) (pa_cons (pv 5) (pa_cons (pe_tup (pa_cons pe_int (pa_cons pe_int pa_nil))) pa_nil)))) pa_nil)))))
 (pss_one (ps_ret pe_bl))
 pss_nil)
 (C8.pss_cut (ps_if (pt_cmpR op_ne (pe_ix ix_tup (pv 6) pe_int (fun _ _ => rfl)) pe_int (nomark _))
 (pss_cons (ps_set (i := 10) nd rfl (.inl rfl) (pe_k c__law_cut hr (by decide) (by rfl) (pa_cons (pe_op op_mulW (pe_ix ix_tup (pv 5) pe_int (fun _ _ => rfl)) (pe_ix ix_tup (pv 6) pe_int (fun _ _ => rfl))) (pa_cons (pe_op op_mulW (pe_ix ix_tup (pv 5) pe_int (fun _ _ => rfl)) (pe_ix ix_tup (pv 6) pe_int (fun _ _ => rfl))) pa_nil))))
 (pss_cons (ps_set (i := 3) nd rfl (.inl rfl) (pe_lst (pa_cons (pe_k c_over hr (by decide) (by rfl) (pa_cons (pv 5) (pa_cons (pv 6) pa_nil))) (pa_cons (pe_k c_products hr (by decide) (by rfl) (pa_cons (pe_k c_over hr (by decide) (by rfl) (pa_cons (pv 5) (pa_cons (pv 6) pa_nil))) (pa_cons (pv 6) pa_nil))) (pa_cons (pe_k c_over hr (by decide) (by rfl) (pa_cons (pv 6) (pa_cons (pv 6) pa_nil))) pa_nil)))))
 (pss_one (ps_if (pt_not (pt_val (pe_kG c__law_same hr hG (by decide) (by rfl) (pa_cons (pv 3) (pa_cons (pe_lst (pa_cons (pv 10) (pa_cons (pv 5) (pa_cons (pe_tup (pa_cons pe_int (pa_cons pe_int pa_nil))) pa_nil)))) pa_nil)))))
 (pss_one (ps_ret pe_bl))
 pss_nil))))
 pss_nil)
 (pss_cons (ps_par (i := 11) (j := 12) rfl nd rfl rfl (by decide) rfl rfl (pa_cons (pe_op op_sub (pe_k c__law_draw hr (by decide) (by rfl) (pa_cons (pv 0) (pa_cons pe_int pa_nil))) pe_int) (pa_cons (pe_ix ix_list (pe_lst (pa_cons pe_int (pa_cons (pe_un un_neg pe_int) (pa_cons pe_int (pa_cons (pe_un un_neg pe_int) (pa_cons (pe_op op_pow pe_int pe_int) (pa_cons pe_int pa_nil))))))) (pe_k c__law_draw hr (by decide) (by rfl) (pa_cons (pv 0) (pa_cons pe_int pa_nil))) (fun _ _ => rfl)) pa_nil)) rfl)
 (pss_cons (ps_set (i := 3) nd rfl (.inl rfl) (pe_lst (pa_cons (pe_k c_quotient hr (by decide) (by rfl) (pa_cons (pv 11) (pa_cons (pv 12) pa_nil))) (pa_cons (pe_k c_quotient hr (by decide) (by rfl) (pa_cons (pe_op op_mul (pv 11) (pv 12)) (pa_cons (pv 12) pa_nil))) (pa_cons (pe_k c_quotient hr (by decide) (by rfl) (pa_cons pe_int (pa_cons (pv 12) pa_nil))) (pa_cons (pe_k c_is_quotient hr (by decide) (by rfl) (pa_cons (pe_k c_quotient hr (by decide) (by rfl) (pa_cons (pv 11) (pa_cons (pv 12) pa_nil))) pa_nil)) pa_nil))))))
 (pss_one (ps_ret (pe_kG c__law_same hr hG (by decide) (by rfl) (pa_cons (pv 3) (pa_cons (pe_lst (pa_cons (pe_k c__law_cut hr (by decide) (by rfl) (pa_cons (pv 11) (pa_cons (pv 12) pa_nil))) (pa_cons (pe_tup (pa_cons (pv 11) (pa_cons pe_int pa_nil))) (pa_cons (pe_tup (pa_cons pe_int (pa_cons pe_int pa_nil))) (pa_cons pe_bl pa_nil))))) pa_nil))))))))))))))))), ?_⟩
    -- the row
    refine ⟨5, rfl, by decide, by decide, fun R hR => lc_it walk_range (fun i H' => ∃ (as : List Addr) (qs : List (Int × Int)), as.length = i ∧ FeedAt H' d c cells (B + 3 * i) ∧ Kp d H H' ∧ H' R = some (.lst (as.map V.ref)) ∧ QsAt H' as qs ∧ ∀ q ∈ qs, IsQ q ∧ Sz 150 q)
      ⟨[], [], rfl, F.same (same_new hR), (same_new hR).kp, upd_same, qs_nil, fun q hq => absurd hq List.not_mem_nil⟩ (fun _ _ _ _ => True.intro) ?_ ?_⟩
    · rintro i x H1 H' hi ⟨as, qs, rfl, F1, k1, e1, hq, ok⟩ ⟨eH, rfl⟩
      obtain rfl := eH.symm
      have i5 : as.length < 5 := hi
      have nRd : R ≠ d := F1.neL e1
      refine ⟨rfl, _, rfl, d, c, cells, B + 3 * as.length, rfl, F1, by omega, fun q p H4 iq sq F4 k4 hp => ?_⟩
      have e4 := k4 R _ nRd e1
      have npR : ∀ a r, QAt H4 a r → a ≠ R := fun a r h => ne_of h e4 (by intro z; cases z)
      have up : ∀ a r o, QAt H4 a r → QAt (upd H4 R o) a r := fun a r o h => by
        show upd H4 R o a = _
        rw [upd_ne (npR a r h)]
        exact h
      have hq4 : QsAt H4 as qs := hq.kp k4 fun _ _ _ _ _ h => F1.neQ h
      refine ⟨_, e4, ?_, as ++ [p], qs ++ [q], by rw [List.length_append]; rfl, ?_, ?_, ?_, ?_, ?_⟩
      · rw [List.length_map]
        exact small1000 (by omega)
      · obtain ⟨sp, ov, tn, q1, q2⟩ := F4.ex
        have ncR : c ≠ R := fun z => by
          have h1 := F4.cl
          rw [z, e4] at h1
          have h0 := F.cl
          rw [z, hR] at h0
          cases h0
        refine ⟨⟨sp, ov, tn, by rw [upd_ne nRd.symm]; exact q1, ?_⟩, by rw [upd_ne ncR]; exact F4.cl, F4.few⟩
        show 0 ≤ sp ∧ sp ≤ ((B + 3 * (as.length + 1) : Nat) : Int) ∧ 0 ≤ ov ∧ 0 ≤ tn ∧ tn ≤ ((B + 3 * (as.length + 1) : Nat) : Int)
        omega
      · intro b o hb ho
        rw [upd_ne (ne_of_none ho hR)]
        exact k4 b o hb (k1 b o hb ho)
      · rw [upd_same, List.map_append]
        rfl
      · refine ⟨by rw [List.length_append, List.length_append, hq4.1]; rfl, fun j b r g1 g2 => ?_⟩
        by_cases hj : j < as.length
        · rw [List.getElem?_append_left hj] at g1
          rw [List.getElem?_append_left (by rw [← hq4.1]; exact hj)] at g2
          exact up _ _ _ (hq4.2 j b r g1 g2)
        · rw [List.getElem?_append_right (by omega)] at g1
          rw [List.getElem?_append_right (by rw [← hq4.1]; omega), ← hq4.1] at g2
          have j0 : j - as.length = 0 := by
            cases h : j - as.length with
            | zero => rfl
            | succ m =>
              rw [h] at g1
              simp at g1
          rw [j0] at g1 g2
          obtain rfl : p = b := by simpa using g1
          obtain rfl : q = r := by simpa using g2
          exact up _ _ _ hp
      · intro r hr
        rcases List.mem_append.mp hr with z | z
        · exact ok r z
        · rw [List.mem_singleton.mp z]
          exact ⟨iq, sq⟩
    rintro H1 ⟨as, qs, l5, F1, k1, e1, hq, ok⟩
    obtain ⟨a0, a1, a2, a3, a4, rfl⟩ := five l5
    obtain ⟨q0, q1, q2, q3, q4, rfl⟩ := five (hq.1.symm.trans l5)
    have g0 : QAt H1 a0 q0 := hq.2 0 _ _ rfl rfl
    have g1 : QAt H1 a1 q1 := hq.2 1 _ _ rfl rfl
    have g2 : QAt H1 a2 q2 := hq.2 2 _ _ rfl rfl
    have g3 : QAt H1 a3 q3 := hq.2 3 _ _ rfl rfl
    have g4 : QAt H1 a4 q4 := hq.2 4 _ _ rfl rfl
    obtain ⟨i0, z0⟩ := ok q0 (by simp)
    obtain ⟨i1, z1⟩ := ok q1 (by simp)
    obtain ⟨i2, z2⟩ := ok q2 (by simp)
    obtain ⟨i3, z3⟩ := ok q3 (by simp)
    obtain ⟨i4, z4⟩ := ok q4 (by simp)
    -- one, other, third
    refine ⟨_, rfl, 3, rfl, R, _, rfl, .inl (.inl e1), fun S hS => ⟨S, _, rfl, .inl (.inl upd_same), rfl, _, _, rfl, _, _, rfl, _, _, rfl, rfl, ?_⟩⟩
    have sS := same_new (o := .lst (cutV ([a0, a1, a2, a3, a4].map V.ref) none (some 3))) hS
    generalize upd H1 S (.lst (cutV ([a0, a1, a2, a3, a4].map V.ref) none (some 3))) = H2 at sS ⊢
    -- total, product
    refine ⟨(by show 2 ≤ sizeLine; decide), fun T hT => ⟨(by show 2 ≤ sizeLine; decide), fun U hU => ⟨(by show 2 ≤ sizeLine; decide), fun W hW => ⟨W, _, rfl, .inl (.inl upd_same), rfl, _, _, rfl, _, _, rfl, rfl, ?_⟩⟩⟩⟩
    have sW := same_new (o := .tup [V.ref T, .ref U]) hW
    have sT := same_new (o := .tup [V.int 0, .int 1]) hT
    have sU := same_new (o := .tup [V.int 1, .int 1]) hU
    have gT : QAt (upd (upd H2 T (.tup [V.int 0, .int 1])) U (.tup [V.int 1, .int 1])) T (0, 1) := sU _ _ upd_same
    have gU : QAt (upd (upd H2 T (.tup [V.int 0, .int 1])) U (.tup [V.int 1, .int 1])) U (1, 1) := upd_same
    have gT := gT.same sW
    have gU := gU.same sW
    have s13 := sS.trans (sT.trans (sU.trans sW))
    generalize upd (upd (upd H2 T (.tup [V.int 0, .int 1])) U (.tup [V.int 1, .int 1])) W (.tup [V.ref T, .ref U]) = H3 at gT gU s13 ⊢
    have eR := s13 _ _ e1
    refine ⟨_, rfl, R, rfl, ⟨_, .inl (.inl eR)⟩, for_it (walk_list (xs := [a0, a1, a2, a3, a4].map V.ref)) (fun i σ H' => ∃ (y2 : Option V) (T U : Addr), σ = [some (.ref d), some (.ref R), y2, none, none, some (.ref a0), some (.ref a1), some (.ref a2), some (.ref T), some (.ref U), none, none, none, none] ∧ Same H1 H' ∧
        QAt H' T (([q0, q1, q2, q3, q4].take i).foldl plusQ (0, 1)) ∧ QAt H' U (([q0, q1, q2, q3, q4].take i).foldl prodQ (1, 1)) ∧ IsQ (([q0, q1, q2, q3, q4].take i).foldl plusQ (0, 1)) ∧ IsQ (([q0, q1, q2, q3, q4].take i).foldl prodQ (1, 1)) ∧
        Sz (1 + i * 151) (([q0, q1, q2, q3, q4].take i).foldl plusQ (0, 1)) ∧ Sz (1 + i * 150) (([q0, q1, q2, q3, q4].take i).foldl prodQ (1, 1)))
      ⟨none, T, U, rfl, s13, gT, gU, q01, q11, sz01, sz11⟩ (fun i σ H' _ ⟨_, _, _, _, sm, _⟩ => .inl (.inl (sm _ _ e1))) ?_ ?_⟩
    · rintro i x σ H4 H' hi ⟨y2, T, U, rfl, s4, hT4, hU4, iT, iU, zT, zU⟩ ⟨eH, hx⟩
      obtain rfl := eH.symm
      have i5 : i < 5 := hi
      obtain ⟨a, q, ea, eq, hqa, iq, zq⟩ : ∃ a q, x = V.ref a ∧ [q0, q1, q2, q3, q4][i]? = some q ∧ QAt H4 a q ∧ IsQ q ∧ Sz 150 q := by
        match i, i5, hx with
        | 0, _, hx => exact ⟨a0, q0, (Option.some.inj hx).symm, rfl, g0.same s4, i0, z0⟩
        | 1, _, hx => exact ⟨a1, q1, (Option.some.inj hx).symm, rfl, g1.same s4, i1, z1⟩
        | 2, _, hx => exact ⟨a2, q2, (Option.some.inj hx).symm, rfl, g2.same s4, i2, z2⟩
        | 3, _, hx => exact ⟨a3, q3, (Option.some.inj hx).symm, rfl, g3.same s4, i3, z3⟩
        | 4, _, hx => exact ⟨a4, q4, (Option.some.inj hx).symm, rfl, g4.same s4, i4, z4⟩
      subst ea
      have stp := fold_step plusQ (0, 1) eq
      have stu := fold_step prodQ (1, 1) eq
      generalize hV : ([q0, q1, q2, q3, q4].take i).foldl plusQ (0, 1) = V at *
      generalize hW : ([q0, q1, q2, q3, q4].take i).foldl prodQ (1, 1) = W at *
      refine ⟨_, rfl, _, rfl, T, a, V, q, rfl, hT4, hqa, iT, iq, True.intro, zT.mono (by omega), zq.mono (by decide), fun p H5 s5 hp => ?_⟩
      have hU5 := (hU4.same s5).sq (K := K)
      have hq5 := (hqa.same s5).sq (K := K)
      have w1 : CMulW W.1 q.1 := wide_mul zU.t zq.t (by omega) (by decide) (by omega)
      have w2 : CMulW W.2 q.2 := wide_mul zU.b zq.b (by omega) (by decide) (by omega)
      refine ⟨_, rfl, U, _, 0, _, rfl, rfl, hU5, atI_nat (j := 0) rfl, _, rfl, a, _, 0, _, rfl, rfl, hq5, atI_nat (j := 0) rfl, _, _, rfl, rfl, w1, ?_⟩
      refine ⟨_, rfl, U, _, 1, _, rfl, rfl, hU5, atI_nat (j := 1) rfl, _, rfl, a, _, 1, _, rfl, rfl, hq5, atI_nat (j := 1) rfl, _, _, rfl, rfl, w2, ?_⟩
      refine ⟨_, _, rfl, Int.mul_ne_zero iU.ne iq.ne, lt_pow (mul_lt zU.t zq.t) (by omega), lt_pow (mul_lt zU.b zq.b) (by omega), fun p2 H6 s6 hp2 => ⟨_, _, rfl, some (.ref a), p, p2, rfl, s4.trans (s5.trans s6), ?_⟩⟩
      rw [stp, stu]
      refine ⟨hp.same s6, hp2, plus_isQ iT iq, prod_isQ iU iq, (plus_sz zT zq iT iq).mono (by omega), (prod_sz zU zq iU iq).mono (by omega)⟩
    rintro σ G ⟨y2, T, U, rfl, sG, hT, hU, iT, iU, zT, zU⟩
    have hT : QAt G T ([q0, q1, q2, q3, q4].foldl plusQ (0, 1)) := hT
    have hU : QAt G U ([q0, q1, q2, q3, q4].foldl prodQ (1, 1)) := hU
    have zT : Sz 756 ([q0, q1, q2, q3, q4].foldl plusQ (0, 1)) := zT
    have zU : Sz 751 ([q0, q1, q2, q3, q4].foldl prodQ (1, 1)) := zU
    have g0 := g0.same sG
    have g1 := g1.same sG
    have g2 := g2.same sG
    have g3 := g3.same sG
    have g4 := g4.same sG
    have gR := sG _ _ e1
    have FG : FeedAt G d c cells (B + 15) := F1.same sG
    have kG : Kp d H G := k1.trans sG.kp
    clear gT gU eR s13 sS
    have b7 : ∀ {q : Int × Int}, IsQ q → Sz 150 q → IsQ q ∧ Sz 700 q := fun i z => ⟨i, z.mono (by decide)⟩
    have all5 : ∀ {x y u v w : Int × Int}, IsQ x ∧ Sz 700 x → IsQ y ∧ Sz 700 y → IsQ u ∧ Sz 700 u → IsQ v ∧ Sz 700 v → IsQ w ∧ Sz 700 w → ∀ q ∈ [x, y, u, v, w], IsQ q ∧ Sz 700 q := by
      intro x y u v w hx hy hu hv hw q hq
      simp only [List.mem_cons, List.not_mem_nil, or_false] at hq
      rcases hq with e | e | e | e | e <;> subst e <;> assumption
    have all1 : ∀ {x : Int × Int}, IsQ x ∧ Sz 700 x → ∀ q ∈ [x], IsQ q ∧ Sz 700 q := by
      intro x hx q hq
      rw [List.mem_singleton.mp hq]
      exact hx
    have at3 : ∀ {G' : Hp}, Same G G' → SqL K G' R ([a0, a1, a2, a3, a4].map V.ref) := fun s => .inl (.inl (s _ _ gR))
    -- told
    refine ⟨[], [], rfl, qs_nil, fun q hq => absurd hq List.not_mem_nil, by decide, fun p1 G1 s1 h1 => ?_⟩
    refine ⟨[], [], rfl, qs_nil, fun q hq => absurd hq List.not_mem_nil, by decide, fun p2 G2 s2 h2 => ?_⟩
    have t2 := s1.trans s2
    refine ⟨_, rfl, [a0], [q0], rfl, qs_cons (g0.same t2) qs_nil, all1 (b7 i0 z0), (by show 1 ≤ 6; decide), fun p3 G3 s3 h3 => ?_⟩
    have t3 := t2.trans s3
    refine ⟨_, rfl, [a1], [q1], rfl, qs_cons (g1.same t3) qs_nil, all1 (b7 i1 z1), (by show 1 ≤ 6; decide), fun p4 G4 s4 h4 => ?_⟩
    have t4 := t3.trans s4
    refine ⟨_, rfl, _, rfl, _, rfl, _, rfl, R, _, 3, .ref a3, rfl, rfl, at3 t4, atI_nat (j := 3) rfl, _, rfl, R, _, 4, .ref a4, rfl, rfl, at3 t4, atI_nat (j := 4) rfl, [a0, a1, a2, a3, a4], [q0, q1, q2, q3, q4], rfl,
      qs_cons (g0.same t4) (qs_cons (g1.same t4) (qs_cons (g2.same t4) (qs_cons (g3.same t4) (qs_cons (g4.same t4) qs_nil)))), all5 (b7 i0 z0) (b7 i1 z1) (b7 i2 z2) (b7 i3 z3) (b7 i4 z4), (by show 5 ≤ 6; decide), fun p5 G5 s5 h5 => ?_⟩
    refine ⟨(by show 5 ≤ sizeLine; decide), fun L hL => ?_⟩
    have sL := same_new (o := .lst [V.ref p1, .ref p2, .ref p3, .ref p4, .ref p5]) hL
    have t6 := t4.trans (s5.trans sL)
    have eL : (upd G5 L (.lst [V.ref p1, .ref p2, .ref p3, .ref p4, .ref p5])) L = _ := upd_same
    have u1 := h1.same (s2.trans (s3.trans (s4.trans (s5.trans sL))))
    have u2 := h2.same (s3.trans (s4.trans (s5.trans sL)))
    have u3 := h3.same (s4.trans (s5.trans sL))
    have u4 := h4.same (s5.trans sL)
    have u5 := h5.same sL
    have nL : ∀ b o, G b = some o → b ≠ L := fun b o h => ne_of_none ((t4.trans s5) _ _ h) hL
    generalize upd G5 L (.lst [V.ref p1, .ref p2, .ref p3, .ref p4, .ref p5]) = G6 at eL u1 u2 u3 u4 u5 t6 ⊢
    refine ⟨_, rfl, .inl ⟨rfl, _, .inl (.inl eL)⟩, _, rfl, R, _, 4, .ref a4, rfl, rfl, at3 t6, atI_nat (j := 4) rfl, _, rfl, R, _, 3, .ref a3, rfl, rfl, at3 t6, atI_nat (j := 3) rfl, _, rfl, _, rfl, _, rfl, [a4, a3, a2, a1, a0], [q4, q3, q2, q1, q0], rfl,
      qs_cons (g4.same t6) (qs_cons (g3.same t6) (qs_cons (g2.same t6) (qs_cons (g1.same t6) (qs_cons (g0.same t6) qs_nil)))), all5 (b7 i4 z4) (b7 i3 z3) (b7 i2 z2) (b7 i1 z1) (b7 i0 z0), (by show 5 ≤ 6; decide), fun p7 G7 s7 h7 => ?_⟩
    refine ⟨L, _, _, rfl, rfl, s7 _ _ eL, (by show 5 < sizeLine; decide), ?_⟩
    have nQ : ∀ {b q}, QAt G7 b q → b ≠ L := fun {b q} h => ne_of h (s7 _ _ eL) (by intro z; cases z)
    have upQ : ∀ {b q}, QAt G7 b q → QAt (upd G7 L (.lst ([V.ref p1, .ref p2, .ref p3, .ref p4, .ref p5] ++ [V.ref p7]))) b q := fun {b q} h => by
      show upd G7 L _ b = _
      rw [upd_ne (nQ h)]
      exact h
    have w1 := upQ (u1.same s7)
    have w2 := upQ (u2.same s7)
    have w3 := upQ (u3.same s7)
    have w4 := upQ (u4.same s7)
    have w5 := upQ (u5.same s7)
    have w7 := upQ h7
    have t8 : Same G (upd G7 L (.lst ([V.ref p1, .ref p2, .ref p3, .ref p4, .ref p5] ++ [V.ref p7]))) := fun b o h => by
      rw [upd_ne (nL b o h)]
      exact (t6.trans s7) b o h
    have eL8 : (upd G7 L (.lst ([V.ref p1, .ref p2, .ref p3, .ref p4, .ref p5] ++ [V.ref p7]))) L = _ := upd_same
    generalize upd G7 L (.lst ([V.ref p1, .ref p2, .ref p3, .ref p4, .ref p5] ++ [V.ref p7])) = G8 at w1 w2 w3 w4 w5 w7 t8 eL8 ⊢
    -- due
    refine ⟨_, rfl, (by show 2 ≤ sizeLine; decide), fun x1 hx1 => ⟨(by show 2 ≤ sizeLine; decide), fun x2 hx2 => ⟨_, rfl, _, rfl, _, rfl, _, rfl, (by show 6 ≤ sizeLine; decide), fun M hM => ?_⟩⟩⟩
    have sx1 := same_new (o := .tup [V.int 0, .int 1]) hx1
    have sx2 := same_new (o := .tup [V.int 1, .int 1]) hx2
    have sM := same_new (o := .lst [V.ref x1, .ref x2, .ref a0, .ref a1, .ref T, .ref U]) hM
    have t9 := sx1.trans (sx2.trans sM)
    have v1 : QAt _ x1 (0, 1) := QAt.same (sx2.trans sM) (show QAt (upd G8 x1 (.tup [V.int 0, .int 1])) x1 (0, 1) from upd_same)
    have v2 : QAt _ x2 (1, 1) := QAt.same sM (show QAt (upd (upd G8 x1 (.tup [V.int 0, .int 1])) x2 (.tup [V.int 1, .int 1])) x2 (1, 1) from upd_same)
    have eM : (upd (upd (upd G8 x1 (.tup [V.int 0, .int 1])) x2 (.tup [V.int 1, .int 1])) M (.lst [V.ref x1, .ref x2, .ref a0, .ref a1, .ref T, .ref U])) M = _ := upd_same
    generalize upd (upd (upd G8 x1 (.tup [V.int 0, .int 1])) x2 (.tup [V.int 1, .int 1])) M (.lst [V.ref x1, .ref x2, .ref a0, .ref a1, .ref T, .ref U]) = G9 at t9 v1 v2 eM ⊢
    have t89 := t8.trans t9
    have p50 : [q0].foldl plusQ (0, 1) = q0 := plus_0 i0
    have p51 : [q1].foldl prodQ (1, 1) = q1 := prod_1 i1
    have p52 : [q4, q3, q2, q1, q0].foldl prodQ (1, 1) = [q0, q1, q2, q3, q4].foldl prodQ (1, 1) := prod5 i0 i1 i2 i3 i4
    rw [p50] at w3
    rw [p51] at w4
    rw [p52] at w7
    have okL1 : OkD (.list [dq (0, 1), dq (1, 1), dq q0, dq q1, dq ([q0, q1, q2, q3, q4].foldl plusQ (0, 1)), dq ([q0, q1, q2, q3, q4].foldl prodQ (1, 1))]) 16000000 :=
      okD_list (okA_cons (okQ sz01 (by decide) (by decide)) (okA_cons (okQ sz11 (by decide) (by decide)) (okA_cons (okQ z0 (by decide) (by decide)) (okA_cons (okQ z1 (by decide) (by decide)) (okA_cons (okQ zT (by decide) (by decide)) (okQ zU (by decide) (by decide))))))) (by decide) (by decide)
    refine ⟨L, M, _, rfl, .lst (.inl (.inl (t9 _ _ eL8))) (.cons (dpQ (w1.same t9)) (.cons (dpQ (w2.same t9)) (.cons (dpQ (w3.same t9)) (.cons (dpQ (w4.same t9)) (.cons (dpQ (w5.same t9)) (.cons (dpQ (w7.same t9)) .nil)))))), ?_, okL1, true, rfl, iteF ?_⟩
    · exact .lst (.inl (.inl eM)) (.cons (dpQ v1) (.cons (dpQ v2) (.cons (dpQ (g0.same t89)) (.cons (dpQ (g1.same t89)) (.cons (dpQ (hT.same t89)) (.cons (dpQ (hU.same t89)) .nil))))))
    clear w1 w2 w3 w4 w5 w7 u1 u2 u3 u4 u5 h1 h2 h3 h4 h5 h7 v1 v2 eM eL8 t9 t8 nQ upQ nL
    -- minus
    have g09 := g0.same t89
    have g19 := g1.same t89
    have iN : IsQ (-q1.1, q1.2) := ⟨i1.pos, by show Nat.gcd (-q1.1).natAbs q1.2.natAbs = 1; rw [Int.natAbs_neg]; exact i1.cop⟩
    have zN : Sz 150 (-q1.1, q1.2) := ⟨by show (-q1.1).natAbs < _; rw [Int.natAbs_neg]; exact z1.t, z1.b⟩
    have e700 : ∀ {q : Int × Int}, Sz 150 q → Sz 700 q := fun z => z.mono (by decide)
    refine ⟨_, rfl, _, rfl, a1, _, 0, _, rfl, rfl, g19.sq, atI_nat (j := 0) rfl, _, rfl, _, rfl, a1, _, 1, _, rfl, rfl, g19.sq, atI_nat (j := 1) rfl, (by show 2 ≤ sizeLine; decide), fun N hN => ?_⟩
    have sN := same_new (o := .tup [V.int (-q1.1), .int q1.2]) hN
    refine ⟨a0, N, q0, (-q1.1, q1.2), rfl, g09.same sN, upd_same, i0, iN, True.intro, e700 z0, e700 zN, fun m G10 s10 hm => ?_⟩
    have t10 := t89.trans (sN.trans s10)
    rw [← less_minus] at hm
    have il := less_isQ i0 i1
    have zl : Sz 301 (lessQ q0 q1) := cut_sz (Int.mul_ne_zero i0.ne i1.ne) (sub_lt (mul_lt z0.t z1.b) (mul_lt z1.t z0.b)) (lt_pow (mul_lt z0.b z1.b) (by decide))
    refine ⟨_, rfl, _, rfl, a0, a1, q0, q1, rfl, g0.same t10, g1.same t10, i0, i1, True.intro, e700 z0, e700 z1, fun p1 G11 s11 h1 => ?_⟩
    have t11 := t10.trans s11
    refine ⟨_, rfl, _, rfl, a0, a1, q0, q1, rfl, g0.same t11, g1.same t11, i0, i1, True.intro, e700 z0, e700 z1, fun p2 G12 s12 h2 => ?_⟩
    have t12 := t11.trans s12
    have all2 : ∀ {x y : Int × Int}, IsQ x ∧ Sz 700 x → IsQ y ∧ Sz 700 y → ∀ q ∈ [x, y], IsQ q ∧ Sz 700 q := by
      intro x y hx hy q hq
      simp only [List.mem_cons, List.not_mem_nil, or_false] at hq
      rcases hq with e | e <;> subst e <;> assumption
    refine ⟨_, rfl, [p2, a1], [lessQ q0 q1, q1], rfl, qs_cons h2 (qs_cons (g1.same t12) qs_nil), all2 ⟨il, zl.mono (by decide)⟩ (b7 i1 z1), (by show 2 ≤ 6; decide), fun p3 G13 s13 h3 => ?_⟩
    have e3 : [lessQ q0 q1, q1].foldl plusQ (0, 1) = q0 := by
      show plusQ (plusQ (0, 1) (lessQ q0 q1)) q1 = q0
      rw [plus_0 il, less_back i0 i1]
    rw [e3] at h3
    have t13 := t12.trans s13
    refine ⟨_, rfl, _, rfl, a0, a0, q0, q0, rfl, g0.same t13, g0.same t13, i0, i0, True.intro, e700 z0, e700 z0, fun p4 G14 s14 h4 => ?_⟩
    rw [less_self i0] at h4
    have t14 := t13.trans s14
    refine ⟨(by show 3 ≤ sizeLine; decide), fun L2 hL2 => ?_⟩
    have sL2 := same_new (o := .lst [V.ref p1, .ref p3, .ref p4]) hL2
    have eL2 : (upd G14 L2 (.lst [V.ref p1, .ref p3, .ref p4])) L2 = _ := upd_same
    have x1 := h1.same (s12.trans (s13.trans (s14.trans sL2)))
    have x3 := h3.same (s14.trans sL2)
    have x4 := h4.same sL2
    have xm := hm.same (s11.trans (s12.trans (s13.trans (s14.trans sL2))))
    have t15 := t14.trans sL2
    generalize upd G14 L2 (.lst [V.ref p1, .ref p3, .ref p4]) = G15 at eL2 x1 x3 x4 xm t15 ⊢
    refine ⟨_, rfl, _, rfl, (by show 2 ≤ sizeLine; decide), fun y1 hy1 => ⟨(by show 3 ≤ sizeLine; decide), fun M2 hM2 => ?_⟩⟩
    have sy1 := same_new (o := .tup [V.int 0, .int 1]) hy1
    have sM2 := same_new (o := .lst [V.ref m, .ref a0, .ref y1]) hM2
    have vy : QAt _ y1 (0, 1) := QAt.same sM2 (show QAt (upd G15 y1 (.tup [V.int 0, .int 1])) y1 (0, 1) from upd_same)
    have eM2 : (upd (upd G15 y1 (.tup [V.int 0, .int 1])) M2 (.lst [V.ref m, .ref a0, .ref y1])) M2 = _ := upd_same
    have t16 := sy1.trans sM2
    generalize upd (upd G15 y1 (.tup [V.int 0, .int 1])) M2 (.lst [V.ref m, .ref a0, .ref y1]) = G16 at vy eM2 t16 ⊢
    refine ⟨L2, M2, .list [dq (lessQ q0 q1), dq q0, dq (0, 1)], rfl, .lst (.inl (.inl (t16 _ _ eL2))) (.cons (dpQ (x1.same t16)) (.cons (dpQ (x3.same t16)) (.cons (dpQ (x4.same t16)) .nil))),
      .lst (.inl (.inl eM2)) (.cons (dpQ (xm.same t16)) (.cons (dpQ ((g0.same t15).same t16)) (.cons (dpQ vy) .nil))),
      okD_list (okA_cons (okQ zl (by decide) (by decide)) (okA_cons (okQ z0 (by decide) (by decide)) (okQ sz01 (by decide) (by decide)))) (by decide) (by decide), true, rfl, iteF ?_⟩
    have tG := t15.trans t16
    clear x1 x3 x4 xm vy eM2 eL2 t16 h1 h2 h3 h4 hm
    -- over
    refine ⟨fun σ' H' => ∃ y3 y4 y10 : Option V, σ' = [some (.ref d), some (.ref R), y2, y3, y4, some (.ref a0), some (.ref a1), some (.ref a2), some (.ref T), some (.ref U), y10, none, none, none] ∧ Same G H', ?_, ?_⟩
    · refine ⟨_, rfl, a1, _, 0, _, rfl, rfl, (g1.same tG).sq, atI_nat (j := 0) rfl, rfl, _, rfl, ?_⟩
      by_cases n0 : q1.1 = 0
      · rw [decide_eq_true (show V.int q1.1 = V.int 0 by rw [n0])]
        exact iteF ⟨_, _, _, rfl, tG⟩
      · rw [decide_eq_false (show ¬ V.int q1.1 = V.int 0 from fun z => n0 (V.int.inj z))]
        refine iteT ?_
        have h0 := (g0.same tG).sq (K := K)
        have h1 := (g1.same tG).sq (K := K)
        have w1 : CMulW q0.1 q1.2 := wide_mul z0.t z1.b (by decide) (by decide) (by decide)
        have w2 : CMulW q0.2 q1.1 := wide_mul z0.b z1.t (by decide) (by decide) (by decide)
        refine ⟨_, rfl, a0, _, 0, _, rfl, rfl, h0, atI_nat (j := 0) rfl, _, rfl, a1, _, 1, _, rfl, rfl, h1, atI_nat (j := 1) rfl, _, _, rfl, rfl, w1, ?_⟩
        refine ⟨_, rfl, a0, _, 1, _, rfl, rfl, h0, atI_nat (j := 1) rfl, _, rfl, a1, _, 0, _, rfl, rfl, h1, atI_nat (j := 0) rfl, _, _, rfl, rfl, w2, ?_⟩
        refine ⟨_, _, rfl, Int.mul_ne_zero i0.ne n0, lt_pow (mul_lt z0.t z1.b) (by decide), lt_pow (mul_lt z0.b z1.t) (by decide), fun m H1 s1 hm => ?_⟩
        have t1 := tG.trans s1
        have io := over_isQ (r := q0) i0 n0
        have zo : Sz 300 (overQ q0 q1) := cut_sz (Int.mul_ne_zero i0.ne n0) (mul_lt z0.t z1.b) (mul_lt z0.b z1.t)
        refine ⟨_, rfl, _, rfl, a0, a1, q0, q1, rfl, g0.same t1, g1.same t1, i0, i1, n0, e700 z0, e700 z1, fun p1 H2 s2 k1 => ?_⟩
        have t2 := t1.trans s2
        refine ⟨_, rfl, _, rfl, a0, a1, q0, q1, rfl, g0.same t2, g1.same t2, i0, i1, n0, e700 z0, e700 z1, fun p2 H3 s3 k2 => ?_⟩
        have t3 := t2.trans s3
        refine ⟨_, rfl, [p2, a1], [overQ q0 q1, q1], rfl, qs_cons k2 (qs_cons (g1.same t3) qs_nil), all2 ⟨io, zo.mono (by decide)⟩ (b7 i1 z1), (by show 2 ≤ 6; decide), fun p3 H4 s4 k3 => ?_⟩
        have e3 : [overQ q0 q1, q1].foldl prodQ (1, 1) = q0 := by
          show prodQ (prodQ (1, 1) (overQ q0 q1)) q1 = q0
          rw [prod_1 io, over_back i0 i1 n0]
        rw [e3] at k3
        have t4 := t3.trans s4
        refine ⟨_, rfl, _, rfl, a1, a1, q1, q1, rfl, g1.same t4, g1.same t4, i1, i1, n0, e700 z1, e700 z1, fun p4 H5 s5 k4 => ?_⟩
        rw [over_self i1 n0] at k4
        have t5 := t4.trans s5
        refine ⟨(by show 3 ≤ sizeLine; decide), fun L3 hL3 => ?_⟩
        have sL3 := same_new (o := .lst [V.ref p1, .ref p3, .ref p4]) hL3
        have eL3 : (upd H5 L3 (.lst [V.ref p1, .ref p3, .ref p4])) L3 = _ := upd_same
        have x1 := k1.same (s3.trans (s4.trans (s5.trans sL3)))
        have x3 := k3.same (s5.trans sL3)
        have x4 := k4.same sL3
        have xm := hm.same (s2.trans (s3.trans (s4.trans (s5.trans sL3))))
        have t6 := t5.trans sL3
        generalize upd H5 L3 (.lst [V.ref p1, .ref p3, .ref p4]) = H6 at eL3 x1 x3 x4 xm t6 ⊢
        refine ⟨_, rfl, _, rfl, _, rfl, (by show 2 ≤ sizeLine; decide), fun y1 hy1 => ⟨(by show 3 ≤ sizeLine; decide), fun M3 hM3 => ?_⟩⟩
        have sy1 := same_new (o := .tup [V.int 1, .int 1]) hy1
        have sM3 := same_new (o := .lst [V.ref m, .ref a0, .ref y1]) hM3
        have vy : QAt _ y1 (1, 1) := QAt.same sM3 (show QAt (upd H6 y1 (.tup [V.int 1, .int 1])) y1 (1, 1) from upd_same)
        have eM3 : (upd (upd H6 y1 (.tup [V.int 1, .int 1])) M3 (.lst [V.ref m, .ref a0, .ref y1])) M3 = _ := upd_same
        have t7 := sy1.trans sM3
        generalize upd (upd H6 y1 (.tup [V.int 1, .int 1])) M3 (.lst [V.ref m, .ref a0, .ref y1]) = H7 at vy eM3 t7 ⊢
        refine ⟨L3, M3, .list [dq (overQ q0 q1), dq q0, dq (1, 1)], rfl, .lst (.inl (.inl (t7 _ _ eL3))) (.cons (dpQ (x1.same t7)) (.cons (dpQ (x3.same t7)) (.cons (dpQ (x4.same t7)) .nil))),
          .lst (.inl (.inl eM3)) (.cons (dpQ (xm.same t7)) (.cons (dpQ ((g0.same t6).same t7)) (.cons (dpQ vy) .nil))),
          okD_list (okA_cons (okQ zo (by decide) (by decide)) (okA_cons (okQ z0 (by decide) (by decide)) (okQ sz11 (by decide) (by decide)))) (by decide) (by decide), true, rfl, iteF ?_⟩
        exact ⟨_, _, _, rfl, t6.trans t7⟩
    rintro σ' K0 ⟨y3, y4, y10, rfl, sK⟩
    have FK := FG.same sK
    have kK := kG.trans sK.kp
    -- high, low
    refine ⟨_, rfl, d, c, cells, B + 15, 400, rfl, FK, by omega, by decide, by decide, fun r1 K1 hr1 F1 k1 => ⟨_, _, rfl, rfl, ?_⟩⟩
    refine ⟨1, rfl, 12, rfl, _, _, rfl, rfl, ⟨by decide, by decide, by decide⟩, (by show 6 ≤ sizeLine; decide), fun W hW => ?_⟩
    have eW : (upd K1 W (.lst ([1, -1, 6, -12, (10 : Int) ^ (50 : Int).toNat, 35].map V.int))) W = some (.lst ([1, -1, 6, -12, (10 : Int) ^ (50 : Int).toNat, 35].map V.int)) := upd_same
    have FW : FeedAt (upd K1 W (.lst ([1, -1, 6, -12, (10 : Int) ^ (50 : Int).toNat, 35].map V.int))) d c cells (B + 16) := F1.same (same_new hW)
    refine ⟨_, rfl, d, c, cells, B + 16, 6, rfl, FW, by omega, by decide, by decide, fun r2 K2 hr2 F2 k2 => ?_⟩
    have eW2 := k2 W _ (FW.neL eW) eW
    obtain ⟨low, elow, nlow, blow⟩ : ∃ low : Int, [1, -1, 6, -12, (10 : Int) ^ (50 : Int).toNat, 35][r2]? = some low ∧ low ≠ 0 ∧ low.natAbs < 2 ^ 170 := by
      match r2, hr2 with
      | 0, _ => exact ⟨1, rfl, by decide, by decide⟩
      | 1, _ => exact ⟨-1, rfl, by decide, by decide⟩
      | 2, _ => exact ⟨6, rfl, by decide, by decide⟩
      | 3, _ => exact ⟨-12, rfl, by decide, by decide⟩
      | 4, _ => exact ⟨(10 : Int) ^ (50 : Int).toNat, rfl, by decide, by decide⟩
      | 5, _ => exact ⟨35, rfl, by decide, by decide⟩
    refine ⟨W, _, r2, .int low, rfl, rfl, .inl (.inl eW2), atI_nat (j := r2) (by rw [List.getElem?_map, elow]; rfl), .int ((r1 : Int) - 200), .int low, rfl, ?_⟩
    have kk : Kp d H K2 := ((kK.trans k1).trans (same_new hW).kp).trans k2
    generalize hh : (r1 : Int) - 200 = high
    have bh : high.natAbs < 2 ^ 10 := by
      show _ < 1024
      omega
    have ih : IsQ (high, 1) := ⟨by show (0 : Int) < 1; decide, Nat.gcd_one_right _⟩
    have zc : Sz 170 (cut high low) := cut_sz nlow (lt_pow bh (by decide)) blow
    have ic := cut_isQ (a := high) nlow
    -- told
    refine ⟨_, rfl, _, rfl, high, low, rfl, nlow, lt_pow bh (by decide), lt_pow blow (by decide), fun p1 G1 s1 h1 => ?_⟩
    refine ⟨_, rfl, _, rfl, _, _, rfl, rfl, .inl ⟨by omega, by omega⟩, _, rfl, high * low, low, rfl, nlow, lt_pow (mul_lt bh blow) (by decide), lt_pow blow (by decide), fun p2 G2 s2 h2 => ?_⟩
    refine ⟨_, rfl, 0, low, rfl, nlow, by decide, lt_pow blow (by decide), fun p3 G3 s3 h3 => ?_⟩
    refine ⟨_, rfl, _, rfl, high, low, rfl, nlow, lt_pow bh (by decide), lt_pow blow (by decide), fun p4 G4 s4 h4 => ?_⟩
    refine ⟨p4, _, rfl, h4, ic, fun G5 s5 => ⟨(by show 4 ≤ sizeLine; decide), fun L hL => ?_⟩⟩
    rw [cut_is nlow ih (show high * low * 1 = high * low by rw [Int.mul_one])] at h2
    rw [cut_is nlow q01 (show (0 : Int) * 1 = 0 * low by rw [Int.zero_mul, Int.zero_mul])] at h3
    have sL := same_new (o := .lst [V.ref p1, .ref p2, .ref p3, .bl true]) hL
    have eL : (upd G5 L (.lst [V.ref p1, .ref p2, .ref p3, .bl true])) L = _ := upd_same
    have x1 := h1.same (s2.trans (s3.trans (s4.trans (s5.trans sL))))
    have x2 := h2.same (s3.trans (s4.trans (s5.trans sL)))
    have x3 := h3.same (s4.trans (s5.trans sL))
    have t6 := s1.trans (s2.trans (s3.trans (s4.trans (s5.trans sL))))
    generalize upd G5 L (.lst [V.ref p1, .ref p2, .ref p3, .bl true]) = G6 at eL x1 x2 x3 t6 ⊢
    refine ⟨_, rfl, _, rfl, _, rfl, high, low, rfl, nlow, lt_pow bh (by decide), lt_pow blow (by decide), fun p7 G7 s7 h7 => ?_⟩
    refine ⟨_, rfl, (by show 2 ≤ sizeLine; decide), fun y1 hy1 => ⟨(by show 2 ≤ sizeLine; decide), fun y2 hy2 => ⟨(by show 4 ≤ sizeLine; decide), fun M hM => ?_⟩⟩⟩
    have sy1 := same_new (o := .tup [V.int high, .int 1]) hy1
    have sy2 := same_new (o := .tup [V.int 0, .int 1]) hy2
    have sM := same_new (o := .lst [V.ref p7, .ref y1, .ref y2, .bl true]) hM
    have v1 : QAt _ y1 (high, 1) := QAt.same (sy2.trans sM) (show QAt (upd G7 y1 (.tup [V.int high, .int 1])) y1 (high, 1) from upd_same)
    have v2 : QAt _ y2 (0, 1) := QAt.same sM (show QAt (upd (upd G7 y1 (.tup [V.int high, .int 1])) y2 (.tup [V.int 0, .int 1])) y2 (0, 1) from upd_same)
    have eM : (upd (upd (upd G7 y1 (.tup [V.int high, .int 1])) y2 (.tup [V.int 0, .int 1])) M (.lst [V.ref p7, .ref y1, .ref y2, .bl true])) M = _ := upd_same
    have t8 := sy1.trans (sy2.trans sM)
    generalize upd (upd (upd G7 y1 (.tup [V.int high, .int 1])) y2 (.tup [V.int 0, .int 1])) M (.lst [V.ref p7, .ref y1, .ref y2, .bl true]) = G8 at v1 v2 eM t8 ⊢
    have t68 := s7.trans t8
    have zh : Sz 10 (high, 1) := ⟨bh, (by decide : (1:Int).natAbs < 2 ^ 10)⟩
    refine ⟨L, M, .list [dq (cut high low), dq (high, 1), dq (0, 1), .bool true], rfl, .lst (.inl (.inl (t68 _ _ eL))) (.cons (dpQ (x1.same t68)) (.cons (dpQ (x2.same t68)) (.cons (dpQ (x3.same t68)) (.cons (.bl true) .nil)))),
      .lst (.inl (.inl eM)) (.cons (dpQ (h7.same t8)) (.cons (dpQ v1) (.cons (dpQ v2) (.cons (.bl true) .nil)))),
      okD_list (okA_cons (okQ zc (by decide) (by decide)) (okA_cons (okQ zh (by decide) (by decide)) (okA_cons (okQ sz01 (by decide) (by decide)) okA_bool))) (by decide) (by decide), ?_⟩
    exact k _ ((F2.same t6).same t68) (kk.trans (t6.trans t68).kp)
end
end K1

set_option Elab.async false
set_option linter.all false
set_option maxRecDepth 100000
namespace K1
open PySem PySem.Spec PyProof.Rows L2 Gd Qu Nm
section
variable {P : Program} {w : World} {K : PySem.W.Frag} {mg : Str → Option Value} {base : Heap}
def spLaw (K : PySem.W.Frag) : Sp := fun vs H Q _ => ∃ (a : Addr) (ns : List Int), vs = [.ref a] ∧ SqL K H a (ns.map V.int) ∧ ns.length ≤ 63 ∧ ∀ H', Q (.bl true) H'
theorem okG_law {f : Addr} {fd : FuncData} (F : Fun K "law" "law" s_law f fd) (c__law_feed : Cal P w K mg base 1 "_law_feed" (spFeed K)) (c__law_wholes : Cal P w K mg base 3 "_law_wholes" spWholes)
    (c__law_is_whole_right : CalG P w K mg base 5 "_law_is_whole_right" ["_law_whole"] spRight) (c__law_are_quotients_right : CalG P w K mg base 5 "_law_are_quotients_right" ["_law_feed_here"] spQRight) (z_range : mg "range" = none) :
    FnG P w K mg base 6 f fd ["_law_script"] (spLaw K) := by
  refine okG F sc_law (fun vs H Q E h => ?_) (fun cdv A outer s H vs Q E hr hG h => ?_)
  · obtain ⟨a, ns, rfl, _⟩ := h
    rfl
  · obtain ⟨a0, ns0, rfl, ha, hz, k⟩ := h
    have nd := sc_law.nd
    have hu64 := hr.units
    refine ⟨_, (pss_cons (ps_set (i := 1) nd rfl (.inl rfl) (pe_k c__law_feed hr (by decide) (by rfl) (pa_cons (pv 0) pa_nil)))
 (pss_cons (ps_if (pt_cmpR (op_neD hu64) (pe_lc (own := [("_law_whole", 3)]) rfl nd (pi_list (pe_k c__law_wholes hr (by decide) (by rfl) (pa_cons (pv 1) pa_nil))) (blkOk_by (N := N_law) (sc := defScope s_law) (by decide +kernel)) (fun _ _ _ _ _ => pg_name (i := 3) nd rfl (Or.inl rfl)) (fun _ _ _ _ _ => pts_one (pt_not (pt_val (pe_kG c__law_is_whole_right hr hG (by decide) (by rfl) (pa_cons (pv 3) pa_nil))))) (fun _ _ _ _ _ => (pv 3))) (pe_lst pa_nil) (nomark _))
 (pss_one (ps_ret pe_bl))
 pss_nil)
 (pss_cons (ps_for PassesOwn.never rfl (pi_range1 (by rfl) z_range (pa_cons pe_int pa_nil)) (pg_name (i := 2) nd rfl (.inl rfl))
 (pss_one (ps_if (pt_not (pt_val (pe_kG c__law_are_quotients_right hr hG (by decide) (by rfl) (pa_cons (pv 1) pa_nil))))
 (pss_one (ps_ret pe_bl))
 pss_nil)))
 (pss_one (ps_ret pe_bl))))), ?_⟩
    refine ⟨_, rfl, a0, ns0, rfl, ha, hz, fun d c cells H1 F1 s1 => ?_⟩
    refine ⟨_, rfl, d, c, cells, 0, rfl, F1, by omega, fun a ns H2 ok len F2 k2 e2 => ?_⟩
    refine ⟨a, rfl, ⟨_, .inl (.inl e2)⟩, fun L hL => lcF (walk_list (xs := nV ns)) (fun _ => none) hL ?_ (fun H' sm => .inl (.inl (sm _ _ e2))) ?_ ?_⟩
    · rw [nV_len]
      exact small1000 (by omega)
    · intro x H' R S hx sm q1 q2
      unfold nV at hx
      obtain ⟨n, hn, rfl⟩ := List.mem_map.mp hx
      exact ⟨rfl, _, rfl, n, rfl, ok n hn, fun H3 s3 => ⟨true, rfl, q2 rfl H3 s3⟩⟩
    · intro H3 s3 e3
      refine ⟨Nat.zero_le _, fun b hb => ?_⟩
      have s4 := same_new (o := .lst []) hb
      have e3' : H3 L = some (.lst []) := by
        rw [e3]
        congr 2
        exact List.filterMap_eq_nil_iff.mpr fun _ _ => rfl
      refine ⟨.list [], .list [], .lst (.inl (.inl (s4 _ _ e3'))) .nil, .lst (.inl (.inl upd_same)) .nil, rfl, rfl, _, rfl, iteF ?_⟩
      have F4 := (F2.same s3).same s4
      generalize upd H3 b (.lst []) = H4 at F4 ⊢
      refine ⟨6, rfl, by decide, by decide, for_it walk_range (fun i σ H' => ∃ (y2 y3 : Option V), σ = [some (.ref a0), some (.ref d), y2, y3] ∧ FeedAt H' d c cells (0 + 14 + 17 * i))
        ⟨_, _, rfl, F4⟩ (fun _ _ _ _ _ => True.intro) ?_ ?_⟩
      · rintro i x σ H6 H' hi ⟨y2, y3, rfl, F6⟩ ⟨eH, rfl⟩
        obtain rfl := eH.symm
        have hi6 : i < 6 := hi
        refine ⟨_, rfl, d, c, cells, 0 + 14 + 17 * i, rfl, F6, by omega, fun H7 F7 k7 => ?_⟩
        exact ⟨true, rfl, iteF ⟨_, _, rfl, F7⟩⟩
      · rintro σ H6 ⟨y2, y3, rfl, F6⟩
        exact k H6
end
end K1

set_option Elab.async false
set_option linter.all false
set_option maxRecDepth 100000
namespace K1
open PySem PySem.Spec PyProof.Rows L2 Gd Qu Nm
section
variable {w : World} {K : PySem.W.Frag} {h : Heap} {mg : Str → Option Value}
theorem at1 {x a1 : String} {st : Stmt} {f : Addr} {od an : Option Addr} {sl : Array (Option Value)} {oc kV dc pm cd ct : Value} (X : K.In h) (G : h.Ns mainGlobals mg)
    (a : PySem.W.nsIn K mainGlobals x = some (some (.ref f))) (l : K.lookup f = some ⟨oc, od, .func (PySem.W.fnOf x x (defArgs st) (defBody st) (defScope st) .none kV dc pm an cd ct), sl⟩) (c : PySem.W.codeIn K cd x = true) (k : PySem.W.keepIn K (.ref f) = true)
    (hb : ∀ (kV doc pm : Value) (an : Option Addr) (cdv ct u : Value), bindArgs (PySem.W.fnOf x x (defArgs st) (defBody st) (defScope st) .none kV doc pm an cdv ct) ⟨[u], []⟩ = pure [((a1 : Str), u)]) : At K mg x st [(a1 : Str)] :=
  ⟨f, _, PySem.W.mg_of X G a, fun_mk l c k, (fun_mk l c k).binds fun kV doc pm an cdv ct us hl => match us, hl with | [u], _ => hb kV doc pm an cdv ct u⟩
theorem at2 {x a1 a2 : String} {st : Stmt} {f : Addr} {od an : Option Addr} {sl : Array (Option Value)} {oc kV dc pm cd ct : Value} (X : K.In h) (G : h.Ns mainGlobals mg)
    (a : PySem.W.nsIn K mainGlobals x = some (some (.ref f))) (l : K.lookup f = some ⟨oc, od, .func (PySem.W.fnOf x x (defArgs st) (defBody st) (defScope st) .none kV dc pm an cd ct), sl⟩) (c : PySem.W.codeIn K cd x = true) (k : PySem.W.keepIn K (.ref f) = true)
    (hb : ∀ (kV doc pm : Value) (an : Option Addr) (cdv ct u v : Value), bindArgs (PySem.W.fnOf x x (defArgs st) (defBody st) (defScope st) .none kV doc pm an cdv ct) ⟨[u, v], []⟩ = pure [((a1 : Str), u), ((a2 : Str), v)]) : At K mg x st [(a1 : Str), (a2 : Str)] :=
  ⟨f, _, PySem.W.mg_of X G a, fun_mk l c k, (fun_mk l c k).binds fun kV doc pm an cdv ct us hl => match us, hl with | [u, v], _ => hb kV doc pm an cdv ct u v⟩
theorem atS {x pv : String} {st : Stmt} {f : Addr} {od an : Option Addr} {sl : Array (Option Value)} {oc kV dc pm cd ct : Value} (X : K.In h) (G : h.Ns mainGlobals mg)
    (a : PySem.W.nsIn K mainGlobals x = some (some (.ref f))) (l : K.lookup f = some ⟨oc, od, .func (PySem.W.fnOf x x (defArgs st) (defBody st) (defScope st) .none kV dc pm an cd ct), sl⟩) (c : PySem.W.codeIn K cd x = true) (k : PySem.W.keepIn K (.ref f) = true)
    (hb : ∀ (kV doc pm : Value) (an : Option Addr) (cdv ct : Value), bindArgs (PySem.W.fnOf x x (defArgs st) (defBody st) (defScope st) .none kV doc pm an cdv ct) ⟨[], []⟩ = (newTuple [] >>= fun t => pure [((pv : Str), t)]))
    (hb' : ∀ (kV doc pm : Value) (an : Option Addr) (cdv ct u : Value) (us : List Value), bindArgs (PySem.W.fnOf x x (defArgs st) (defBody st) (defScope st) .none kV doc pm an cdv ct) ⟨u :: us, []⟩ = (newTuple (u :: us) >>= fun t => pure [((pv : Str), t)])) : AtS K mg x st pv :=
  ⟨f, _, PySem.W.mg_of X G a, fun_mk l c k, fun rest => match rest with
    | [] => hb kV dc pm an cd ct
    | u :: us => hb' kV dc pm an cd ct u us⟩
variable {P : Program}
theorem all_mk {fa : Addr} (hfa : mg "law" = some (.ref fa)) {tm : Tok} (D_need : At K mg "need" s_need ["fits", "word"]) (D_need_each : At K mg "need_each" s_need_each ["fits", "word"]) (z_enumerate : mg "enumerate" = none) (D_is_integer : At K mg "is_integer" s_is_integer ["thing"]) (z_isinstance : mg "isinstance" = none) (z_int : mg "int" = none) (z_bool : mg "bool" = none) (D_is_size : At K mg "is_size" s_is_size ["thing"]) (D_are_integers : At K mg "are_integers" s_are_integers ["thing"]) (z_tuple : mg "tuple" = none) (z_all : mg "all" = none) (D_is_quotient : At K mg "is_quotient" s_is_quotient ["thing"]) (z_len : mg "len" = none) (m_gcd : mg "gcd" = some (.builtin "math.gcd")) (D_lowest : At K mg "lowest" s_lowest ["top", "bottom"]) (D_sums : AtS K mg "sums" s_sums "quotients") (D_products : AtS K mg "products" s_products "quotients") (D_less : At K mg "less" s_less ["one", "other"]) (D_over : At K mg "over" s_over ["one", "other"]) (D_quotient : At K mg "quotient" s_quotient ["top", "bottom"]) (D_least_prime : At K mg "least_prime" s_least_prime ["number"]) (D_prime_parts : At K mg "prime_parts" s_prime_parts ["number"]) (D_need_number : At K mg "need_number" s_need_number ["number"]) (m_MOST_FACTORED : mg "MOST_FACTORED" = some (.int 10000 tm)) (D_is_prime : At K mg "is_prime" s_is_prime ["thing"]) (D_is_prime_power : At K mg "is_prime_power" s_is_prime_power ["thing"]) (D_primes_in : At K mg "primes_in" s_primes_in ["number"]) (D_primes_of : At K mg "primes_of" s_primes_of ["number"]) (D_divisors_of : At K mg "divisors_of" s_divisors_of ["number"]) (z_range : mg "range" = none) (D_totient_of : At K mg "totient_of" s_totient_of ["number"]) (D_power_parts : At K mg "power_parts" s_power_parts ["number"]) (z_sorted : mg "sorted" = none) (D__law_feed : At K mg "_law_feed" s__law_feed ["_law_script"]) (D__law_draw : At K mg "_law_draw" s__law_draw ["_law_feed_here", "_law_limit"]) (D__law_same : At K mg "_law_same" s__law_same ["_law_told", "_law_due"]) (z_repr : mg "repr" = none) (D__law_gcd : At K mg "_law_gcd" s__law_gcd ["_law_first", "_law_second"]) (z_abs : mg "abs" = none) (D__law_cut : At K mg "_law_cut" s__law_cut ["_law_first", "_law_second"]) (D__law_plus : At K mg "_law_plus" s__law_plus ["_law_one", "_law_other"]) (D__law_any : At K mg "_law_any" s__law_any ["_law_feed_here", "_law_some"]) (D__law_fraction : At K mg "_law_fraction" s__law_fraction ["_law_feed_here"]) (D__law_primes : At K mg "_law_primes" s__law_primes ["_law_whole"]) (D__law_divisors : At K mg "_law_divisors" s__law_divisors ["_law_whole"]) (z_set : mg "set" = none) (D__law_totient : At K mg "_law_totient" s__law_totient ["_law_whole"]) (D__law_powers : At K mg "_law_powers" s__law_powers ["_law_whole"]) (D__law_wholes : At K mg "_law_wholes" s__law_wholes ["_law_feed_here"]) (D__law_is_whole_right : At K mg "_law_is_whole_right" s__law_is_whole_right ["_law_whole"]) (z_list : mg "list" = none) (D__law_are_quotients_right : At K mg "_law_are_quotients_right" s__law_are_quotients_right ["_law_feed_here"]) (D_law : At K mg "law" s_law ["_law_script"]) :
    ∃ fd : FuncData, (∀ (s : Shared) (v : Value), BindsTo s fd ⟨[v], []⟩ [("_law_script", v)]) ∧ ∀ base : Heap, K.In base → base.Ns mainGlobals mg → FnG P w K mg base 6 fa fd ["_law_script"] (spLaw K) := by
  obtain ⟨f, fd, hm, F, _⟩ := D_law.ex
  cases hfa.symm.trans hm
  refine ⟨fd, ?_, fun base _ _ => ?_⟩
  · obtain ⟨oc, od, kV, doc, pm, an, cdv, ct, osl, rfl, lk, hcd⟩ := F.ex
    exact fun s v => .of_eq rfl
  have c_need : Cal P w K mg base 1 "need" spNeed := K1.c_need (P := P) (w := w) (base := base) D_need
  have c_need_each : Cal P w K mg base 1 "need_each" (spNeedEach K) := K1.c_need_each (P := P) (w := w) (base := base) D_need_each z_enumerate
  have c_is_integer : Cal P w K mg base 1 "is_integer" spIsInt := K1.c_is_integer (P := P) (w := w) (base := base) D_is_integer z_isinstance z_int z_bool
  have c_is_size : Cal P w K mg base 2 "is_size" spIsSize := K1.c_is_size (P := P) (w := w) (base := base) D_is_size c_is_integer
  have c_are_integers : Cal P w K mg base 2 "are_integers" (spAreInts K) := K1.c_are_integers (P := P) (w := w) (base := base) D_are_integers c_is_integer z_isinstance z_tuple z_all
  have c_is_quotient : Cal P w K mg base 3 "is_quotient" spIsQ := K1.c_is_quotient (P := P) (w := w) (base := base) D_is_quotient c_are_integers z_len m_gcd
  have c_lowest : Cal P w K mg base 1 "lowest" spLow := K1.c_lowest (P := P) (w := w) (base := base) D_lowest m_gcd
  have c_sums : Cal P w K mg base 4 "sums" (spFoldQ plusQ (0, 1)) := K1.c_sums (P := P) (w := w) (base := base) D_sums c_need_each c_is_quotient c_lowest
  have c_products : Cal P w K mg base 4 "products" (spFoldQ prodQ (1, 1)) := K1.c_products (P := P) (w := w) (base := base) D_products c_need_each c_is_quotient c_lowest
  have c_less : Cal P w K mg base 4 "less" (spTwoQ lessQ fun _ => True) := K1.c_less (P := P) (w := w) (base := base) D_less c_need c_is_quotient c_lowest
  have c_over : Cal P w K mg base 4 "over" (spTwoQ overQ fun y => y.1 ≠ 0) := K1.c_over (P := P) (w := w) (base := base) D_over c_need c_is_quotient c_lowest
  have c_quotient : Cal P w K mg base 2 "quotient" spQuot := K1.c_quotient (P := P) (w := w) (base := base) D_quotient c_need c_is_integer c_lowest
  have c_least_prime : Cal P w K mg base 1 "least_prime" spLeast := K1.c_least_prime (P := P) (w := w) (base := base) D_least_prime
  have c_prime_parts : Cal P w K mg base 2 "prime_parts" spParts := K1.c_prime_parts (P := P) (w := w) (base := base) D_prime_parts c_least_prime z_tuple
  have c_need_number : Cal P w K mg base 3 "need_number" spNum := K1.c_need_number (P := P) (w := w) (base := base) D_need_number c_need c_is_size m_MOST_FACTORED
  have c_is_prime : Cal P w K mg base 2 "is_prime" spIsPrime := K1.c_is_prime (P := P) (w := w) (base := base) D_is_prime c_is_integer c_least_prime m_MOST_FACTORED
  have c_is_prime_power : Cal P w K mg base 3 "is_prime_power" spIsPP := K1.c_is_prime_power (P := P) (w := w) (base := base) D_is_prime_power c_is_integer c_prime_parts z_len m_MOST_FACTORED
  have c_primes_in : Cal P w K mg base 3 "primes_in" spPrimes := K1.c_primes_in (P := P) (w := w) (base := base) D_primes_in c_prime_parts z_tuple
  have c_primes_of : Cal P w K mg base 4 "primes_of" spPrimes := K1.c_primes_of (P := P) (w := w) (base := base) D_primes_of c_need_number c_primes_in
  have c_divisors_of : Cal P w K mg base 4 "divisors_of" spDvs := K1.c_divisors_of (P := P) (w := w) (base := base) D_divisors_of c_need_number z_tuple z_range
  have c_totient_of : Cal P w K mg base 4 "totient_of" spTot := K1.c_totient_of (P := P) (w := w) (base := base) D_totient_of c_need_number c_prime_parts
  have c_power_parts : Cal P w K mg base 4 "power_parts" spPow := K1.c_power_parts (P := P) (w := w) (base := base) D_power_parts c_need_number c_prime_parts z_tuple z_sorted
  have c__law_feed : Cal P w K mg base 1 "_law_feed" (spFeed K) := K1.c__law_feed (P := P) (w := w) (base := base) D__law_feed z_int
  have c__law_draw : Cal P w K mg base 1 "_law_draw" spDraw := K1.c__law_draw (P := P) (w := w) (base := base) D__law_draw z_int z_len
  have c__law_same : CalG P w K mg base 1 "_law_same" ["_law_told", "_law_due"] (spSame K) := K1.c__law_same (P := P) (w := w) (base := base) D__law_same z_repr
  have c__law_gcd : Cal P w K mg base 1 "_law_gcd" spGcd := K1.c__law_gcd (P := P) (w := w) (base := base) D__law_gcd z_abs z_int
  have c__law_cut : Cal P w K mg base 2 "_law_cut" spQuot := K1.c__law_cut (P := P) (w := w) (base := base) D__law_cut c__law_gcd z_abs
  have c__law_plus : Cal P w K mg base 3 "_law_plus" (spTwoQ plusQ fun _ => True) := K1.c__law_plus (P := P) (w := w) (base := base) D__law_plus c__law_cut
  have c__law_any : Cal P w K mg base 2 "_law_any" spAny := K1.c__law_any (P := P) (w := w) (base := base) D__law_any c__law_draw z_len
  have c__law_fraction : Cal P w K mg base 3 "_law_fraction" spFrac := K1.c__law_fraction (P := P) (w := w) (base := base) D__law_fraction c__law_draw c__law_cut
  have c__law_primes : Cal P w K mg base 1 "_law_primes" spFacs := K1.c__law_primes (P := P) (w := w) (base := base) D__law_primes z_int
  have c__law_divisors : Cal P w K mg base 2 "_law_divisors" spDvs := K1.c__law_divisors (P := P) (w := w) (base := base) D__law_divisors c__law_primes z_sorted z_set z_tuple
  have c__law_totient : Cal P w K mg base 2 "_law_totient" spTotF := K1.c__law_totient (P := P) (w := w) (base := base) D__law_totient c__law_primes z_sorted z_set
  have c__law_powers : Cal P w K mg base 2 "_law_powers" spPowF := K1.c__law_powers (P := P) (w := w) (base := base) D__law_powers c__law_primes z_sorted z_set z_tuple
  have c__law_wholes : Cal P w K mg base 3 "_law_wholes" spWholes := K1.c__law_wholes (P := P) (w := w) (base := base) D__law_wholes c__law_draw c__law_any z_range
  have c__law_is_whole_right : CalG P w K mg base 5 "_law_is_whole_right" ["_law_whole"] spRight := K1.c__law_is_whole_right (P := P) (w := w) (base := base) D__law_is_whole_right c__law_primes c_primes_of c_divisors_of c_totient_of c_power_parts c__law_divisors c__law_totient c__law_powers c__law_same c_is_prime c_is_prime_power c__law_gcd z_tuple z_sorted z_set z_len z_list z_range z_int
  have c__law_are_quotients_right : CalG P w K mg base 5 "_law_are_quotients_right" ["_law_feed_here"] spQRight := K1.c__law_are_quotients_right (P := P) (w := w) (base := base) D__law_are_quotients_right c__law_draw c__law_fraction c__law_plus c__law_cut c_sums c_products c_less c_over c_quotient c_is_quotient c__law_same z_range
  exact okG_law F c__law_feed c__law_wholes c__law_is_whole_right c__law_are_quotients_right z_range
end
end K1

set_option Elab.async false
set_option linter.all false
open PySem PySem.W PyProof.Rows
set_option maxRecDepth 100000 in
set_option maxHeartbeats 0 in
theorem PySem.Challenge.cw_silentbeats_k01_whole_numbers_and_quotie_holds : PySem.Challenge.rw_silentbeats_k01_whole_numbers_and_quotie.Holds := by
  w_on; o_law; k_head; (case hw => w_witness2)
  k_fill
  refine Gd.walkG (l := PySem.Challenge.rw_silentbeats_k01_whole_numbers_and_quotie) (n := 63) (k := 6) (x := "_law_script") (sp := K1.spLaw) rfl (by decide) rfl ⟨rfl, by decide, by decide⟩ (fun w h Y => PySem.W.kIn_of Y) ?F (fun _ _ a ns hl _ hS => ⟨a, ns, rfl, hS, hl, fun _ => rfl⟩)
  case F =>
    intro w mg fa h KX G hmg
    refine' K1.all_mk hmg (K1.at2 (x := "need") (st := K1.s_need) KX G ?a1 ?l1 ?c1 ?k1 (fun _ _ _ _ _ _ _ _ => rfl)) (K1.at2 (x := "need_each") (st := K1.s_need_each) KX G ?a2 ?l2 ?c2 ?k2 (fun _ _ _ _ _ _ _ _ => rfl)) (PySem.W.mg_none_of KX G ?z3) (K1.at1 (x := "is_integer") (st := K1.s_is_integer) KX G ?a4 ?l4 ?c4 ?k4 (fun _ _ _ _ _ _ _ => rfl)) (PySem.W.mg_none_of KX G ?z5) (PySem.W.mg_none_of KX G ?z6) (PySem.W.mg_none_of KX G ?z7) (K1.at1 (x := "is_size") (st := K1.s_is_size) KX G ?a8 ?l8 ?c8 ?k8 (fun _ _ _ _ _ _ _ => rfl)) (K1.at1 (x := "are_integers") (st := K1.s_are_integers) KX G ?a9 ?l9 ?c9 ?k9 (fun _ _ _ _ _ _ _ => rfl)) (PySem.W.mg_none_of KX G ?z10) (PySem.W.mg_none_of KX G ?z11) (K1.at1 (x := "is_quotient") (st := K1.s_is_quotient) KX G ?a12 ?l12 ?c12 ?k12 (fun _ _ _ _ _ _ _ => rfl)) (PySem.W.mg_none_of KX G ?z13) (PySem.W.mg_of KX G ?m14) (K1.at2 (x := "lowest") (st := K1.s_lowest) KX G ?a15 ?l15 ?c15 ?k15 (fun _ _ _ _ _ _ _ _ => rfl)) (K1.atS (x := "sums") (st := K1.s_sums) KX G ?a16 ?l16 ?c16 ?k16 (fun _ _ _ _ _ _ => rfl) (fun _ _ _ _ _ _ _ _ => rfl)) (K1.atS (x := "products") (st := K1.s_products) KX G ?a17 ?l17 ?c17 ?k17 (fun _ _ _ _ _ _ => rfl) (fun _ _ _ _ _ _ _ _ => rfl)) (K1.at2 (x := "less") (st := K1.s_less) KX G ?a18 ?l18 ?c18 ?k18 (fun _ _ _ _ _ _ _ _ => rfl)) (K1.at2 (x := "over") (st := K1.s_over) KX G ?a19 ?l19 ?c19 ?k19 (fun _ _ _ _ _ _ _ _ => rfl)) (K1.at2 (x := "quotient") (st := K1.s_quotient) KX G ?a20 ?l20 ?c20 ?k20 (fun _ _ _ _ _ _ _ _ => rfl)) (K1.at1 (x := "least_prime") (st := K1.s_least_prime) KX G ?a21 ?l21 ?c21 ?k21 (fun _ _ _ _ _ _ _ => rfl)) (K1.at1 (x := "prime_parts") (st := K1.s_prime_parts) KX G ?a22 ?l22 ?c22 ?k22 (fun _ _ _ _ _ _ _ => rfl)) (K1.at1 (x := "need_number") (st := K1.s_need_number) KX G ?a23 ?l23 ?c23 ?k23 (fun _ _ _ _ _ _ _ => rfl)) (PySem.W.mg_of KX G ?m24) (K1.at1 (x := "is_prime") (st := K1.s_is_prime) KX G ?a25 ?l25 ?c25 ?k25 (fun _ _ _ _ _ _ _ => rfl)) (K1.at1 (x := "is_prime_power") (st := K1.s_is_prime_power) KX G ?a26 ?l26 ?c26 ?k26 (fun _ _ _ _ _ _ _ => rfl)) (K1.at1 (x := "primes_in") (st := K1.s_primes_in) KX G ?a27 ?l27 ?c27 ?k27 (fun _ _ _ _ _ _ _ => rfl)) (K1.at1 (x := "primes_of") (st := K1.s_primes_of) KX G ?a28 ?l28 ?c28 ?k28 (fun _ _ _ _ _ _ _ => rfl)) (K1.at1 (x := "divisors_of") (st := K1.s_divisors_of) KX G ?a29 ?l29 ?c29 ?k29 (fun _ _ _ _ _ _ _ => rfl)) (PySem.W.mg_none_of KX G ?z30) (K1.at1 (x := "totient_of") (st := K1.s_totient_of) KX G ?a31 ?l31 ?c31 ?k31 (fun _ _ _ _ _ _ _ => rfl)) (K1.at1 (x := "power_parts") (st := K1.s_power_parts) KX G ?a32 ?l32 ?c32 ?k32 (fun _ _ _ _ _ _ _ => rfl)) (PySem.W.mg_none_of KX G ?z33) (K1.at1 (x := "_law_feed") (st := K1.s__law_feed) KX G ?a34 ?l34 ?c34 ?k34 (fun _ _ _ _ _ _ _ => rfl)) (K1.at2 (x := "_law_draw") (st := K1.s__law_draw) KX G ?a35 ?l35 ?c35 ?k35 (fun _ _ _ _ _ _ _ _ => rfl)) (K1.at2 (x := "_law_same") (st := K1.s__law_same) KX G ?a36 ?l36 ?c36 ?k36 (fun _ _ _ _ _ _ _ _ => rfl)) (PySem.W.mg_none_of KX G ?z37) (K1.at2 (x := "_law_gcd") (st := K1.s__law_gcd) KX G ?a38 ?l38 ?c38 ?k38 (fun _ _ _ _ _ _ _ _ => rfl)) (PySem.W.mg_none_of KX G ?z39) (K1.at2 (x := "_law_cut") (st := K1.s__law_cut) KX G ?a40 ?l40 ?c40 ?k40 (fun _ _ _ _ _ _ _ _ => rfl)) (K1.at2 (x := "_law_plus") (st := K1.s__law_plus) KX G ?a41 ?l41 ?c41 ?k41 (fun _ _ _ _ _ _ _ _ => rfl)) (K1.at2 (x := "_law_any") (st := K1.s__law_any) KX G ?a42 ?l42 ?c42 ?k42 (fun _ _ _ _ _ _ _ _ => rfl)) (K1.at1 (x := "_law_fraction") (st := K1.s__law_fraction) KX G ?a43 ?l43 ?c43 ?k43 (fun _ _ _ _ _ _ _ => rfl)) (K1.at1 (x := "_law_primes") (st := K1.s__law_primes) KX G ?a44 ?l44 ?c44 ?k44 (fun _ _ _ _ _ _ _ => rfl)) (K1.at1 (x := "_law_divisors") (st := K1.s__law_divisors) KX G ?a45 ?l45 ?c45 ?k45 (fun _ _ _ _ _ _ _ => rfl)) (PySem.W.mg_none_of KX G ?z46) (K1.at1 (x := "_law_totient") (st := K1.s__law_totient) KX G ?a47 ?l47 ?c47 ?k47 (fun _ _ _ _ _ _ _ => rfl)) (K1.at1 (x := "_law_powers") (st := K1.s__law_powers) KX G ?a48 ?l48 ?c48 ?k48 (fun _ _ _ _ _ _ _ => rfl)) (K1.at1 (x := "_law_wholes") (st := K1.s__law_wholes) KX G ?a49 ?l49 ?c49 ?k49 (fun _ _ _ _ _ _ _ => rfl)) (K1.at1 (x := "_law_is_whole_right") (st := K1.s__law_is_whole_right) KX G ?a50 ?l50 ?c50 ?k50 (fun _ _ _ _ _ _ _ => rfl)) (PySem.W.mg_none_of KX G ?z51) (K1.at1 (x := "_law_are_quotients_right") (st := K1.s__law_are_quotients_right) KX G ?a52 ?l52 ?c52 ?k52 (fun _ _ _ _ _ _ _ => rfl)) (K1.at1 (x := "law") (st := K1.s_law) KX G ?a53 ?l53 ?c53 ?k53 (fun _ _ _ _ _ _ _ => rfl))
    (case a1 => k_is); (case l1 => k_is); (case c1 => k_is); (case k1 => k_is); (case a2 => k_is); (case l2 => k_is); (case c2 => k_is); (case k2 => k_is); (case z3 => k_is); (case a4 => k_is); (case l4 => k_is); (case c4 => k_is); (case k4 => k_is); (case z5 => k_is); (case z6 => k_is); (case z7 => k_is); (case a8 => k_is); (case l8 => k_is); (case c8 => k_is); (case k8 => k_is); (case a9 => k_is); (case l9 => k_is); (case c9 => k_is); (case k9 => k_is); (case z10 => k_is); (case z11 => k_is); (case a12 => k_is); (case l12 => k_is); (case c12 => k_is); (case k12 => k_is); (case z13 => k_is); (case m14 => k_is); (case a15 => k_is); (case l15 => k_is); (case c15 => k_is); (case k15 => k_is); (case a16 => k_is); (case l16 => k_is); (case c16 => k_is); (case k16 => k_is); (case a17 => k_is); (case l17 => k_is); (case c17 => k_is); (case k17 => k_is); (case a18 => k_is); (case l18 => k_is); (case c18 => k_is); (case k18 => k_is); (case a19 => k_is); (case l19 => k_is); (case c19 => k_is); (case k19 => k_is); (case a20 => k_is); (case l20 => k_is); (case c20 => k_is); (case k20 => k_is); (case a21 => k_is); (case l21 => k_is); (case c21 => k_is); (case k21 => k_is); (case a22 => k_is); (case l22 => k_is); (case c22 => k_is); (case k22 => k_is); (case a23 => k_is); (case l23 => k_is); (case c23 => k_is); (case k23 => k_is); (case m24 => k_is); (case a25 => k_is); (case l25 => k_is); (case c25 => k_is); (case k25 => k_is); (case a26 => k_is); (case l26 => k_is); (case c26 => k_is); (case k26 => k_is); (case a27 => k_is); (case l27 => k_is); (case c27 => k_is); (case k27 => k_is); (case a28 => k_is); (case l28 => k_is); (case c28 => k_is); (case k28 => k_is); (case a29 => k_is); (case l29 => k_is); (case c29 => k_is); (case k29 => k_is); (case z30 => k_is); (case a31 => k_is); (case l31 => k_is); (case c31 => k_is); (case k31 => k_is); (case a32 => k_is); (case l32 => k_is); (case c32 => k_is); (case k32 => k_is); (case z33 => k_is); (case a34 => k_is); (case l34 => k_is); (case c34 => k_is); (case k34 => k_is); (case a35 => k_is); (case l35 => k_is); (case c35 => k_is); (case k35 => k_is); (case a36 => k_is); (case l36 => k_is); (case c36 => k_is); (case k36 => k_is); (case z37 => k_is); (case a38 => k_is); (case l38 => k_is); (case c38 => k_is); (case k38 => k_is); (case z39 => k_is); (case a40 => k_is); (case l40 => k_is); (case c40 => k_is); (case k40 => k_is); (case a41 => k_is); (case l41 => k_is); (case c41 => k_is); (case k41 => k_is); (case a42 => k_is); (case l42 => k_is); (case c42 => k_is); (case k42 => k_is); (case a43 => k_is); (case l43 => k_is); (case c43 => k_is); (case k43 => k_is); (case a44 => k_is); (case l44 => k_is); (case c44 => k_is); (case k44 => k_is); (case a45 => k_is); (case l45 => k_is); (case c45 => k_is); (case k45 => k_is); (case z46 => k_is); (case a47 => k_is); (case l47 => k_is); (case c47 => k_is); (case k47 => k_is); (case a48 => k_is); (case l48 => k_is); (case c48 => k_is); (case k48 => k_is); (case a49 => k_is); (case l49 => k_is); (case c49 => k_is); (case k49 => k_is); (case a50 => k_is); (case l50 => k_is); (case c50 => k_is); (case k50 => k_is); (case z51 => k_is); (case a52 => k_is); (case l52 => k_is); (case c52 => k_is); (case k52 => k_is); (case a53 => k_is); (case l53 => k_is); (case c53 => k_is); (case k53 => k_is)
