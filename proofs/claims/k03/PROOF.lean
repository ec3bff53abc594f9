import PyProof.Rows.All
import HandS.ForMost
import HandS.Gcd
import HandS.Wide
import HandS.Star
import HandS.Conv
import HandS.Strs
import HandS.Flow
import HandS.IsInst
import HandS.Codes
import HandS.Walk
import HandS.SortInts
import HandS.SetFor
import HandS.Defaults
import PyProof.ReprRoads
import PyProof.Rows.Digits
import PyProof.ReprLen
import PyProof.FitsInt
import HandS.TupMul
import HandS.Zip
import HandS.TupAny
import PyProof.WalkInts
import PyProof.Rows.SumAny
import KE.GoesEnum
import KE.GoesMore
import PyProof.EnumMake
import PyProof.Rows.StrOr
import PySem.Challenge.RW_silentbeats_k03_whole_voices
import HandS.NoneIn
/-! Quotients in lowest terms, plainly. -/
namespace Qu
def gq (a b : Int) : Int := ((Nat.gcd a.natAbs b.natAbs : Nat) : Int)
def cut (a b : Int) : Int × Int := ((if 0 < b then a else -a) / gq a b, (b.natAbs : Int) / gq a b)
structure IsQ (q : Int × Int) : Prop where
  pos : 0 < q.2
  cop : Nat.gcd q.1.natAbs q.2.natAbs = 1
theorem gq_pos {a b : Int} (h : b ≠ 0) : 0 < gq a b := by
  unfold gq
  have := Nat.gcd_pos_of_pos_right a.natAbs (n := b.natAbs) (by omega)
  omega
theorem gq_l (a b : Int) : gq a b ∣ a := by
  unfold gq
  exact Int.gcd_dvd_left a b
theorem gq_r (a b : Int) : gq a b ∣ b := by
  unfold gq
  exact Int.gcd_dvd_right a b
theorem cut_1 {a b : Int} : (cut a b).1 * gq a b = if 0 < b then a else -a := by
  unfold cut
  refine Int.ediv_mul_cancel ?_
  split
  · exact gq_l a b
  · exact (Int.dvd_neg).mpr (gq_l a b)
theorem cut_2 {a b : Int} : (cut a b).2 * gq a b = (b.natAbs : Int) := by
  unfold cut
  refine Int.ediv_mul_cancel ?_
  exact Int.dvd_natAbs.mpr (gq_r a b)
theorem cut_pos {a b : Int} (h : b ≠ 0) : 0 < (cut a b).2 := by
  have h1 := cut_2 (a := a) (b := b)
  have h2 := gq_pos (a := a) h
  have h3 : 0 < (b.natAbs : Int) := by omega
  rw [← h1] at h3
  exact Int.pos_of_mul_pos_left h3 h2 |> fun z => z
theorem cut_isQ {a b : Int} (h : b ≠ 0) : IsQ (cut a b) := by
  refine ⟨cut_pos h, ?_⟩
  have hg := gq_pos (a := a) h
  have e1 : (cut a b).1.natAbs * (gq a b).natAbs = a.natAbs := by
    rw [← Int.natAbs_mul, cut_1]
    split
    · rfl
    · exact Int.natAbs_neg a
  have e2 : (cut a b).2.natAbs * (gq a b).natAbs = b.natAbs := by
    rw [← Int.natAbs_mul, cut_2, Int.natAbs_natCast]
  have e3 : (gq a b).natAbs = Nat.gcd a.natAbs b.natAbs := by
    unfold gq
    exact Int.natAbs_natCast _
  have e4 : Nat.gcd ((cut a b).1.natAbs * (gq a b).natAbs) ((cut a b).2.natAbs * (gq a b).natAbs) = (gq a b).natAbs := by rw [e1, e2, e3]
  rw [Nat.gcd_mul_right] at e4
  have e5 : 0 < (gq a b).natAbs := by omega
  exact Nat.eq_of_mul_eq_mul_right e5 (by rw [e4, Nat.one_mul])
theorem cut_eq {a b : Int} (h : b ≠ 0) : (cut a b).1 * b = a * (cut a b).2 := by
  have hg := gq_pos (a := a) h
  have e1 := cut_1 (a := a) (b := b)
  have e2 := cut_2 (a := a) (b := b)
  have hne : gq a b ≠ 0 := by omega
  apply Int.eq_of_mul_eq_mul_right hne
  by_cases hb : 0 < b
  · rw [if_pos hb] at e1
    have e3 : (b.natAbs : Int) = b := by omega
    rw [e3] at e2
    grind
  · rw [if_neg hb] at e1
    have e3 : (b.natAbs : Int) = -b := by omega
    rw [e3] at e2
    grind
theorem q_ext {p q : Int × Int} (hp : IsQ p) (hq : IsQ q) (h : p.1 * q.2 = q.1 * p.2) : p = q := by
  have hn : p.1.natAbs * q.2.natAbs = q.1.natAbs * p.2.natAbs := by rw [← Int.natAbs_mul, ← Int.natAbs_mul, h]
  have d1 : q.2.natAbs ∣ p.2.natAbs := by
    have : q.2.natAbs ∣ q.1.natAbs * p.2.natAbs := ⟨p.1.natAbs, by rw [← hn, Nat.mul_comm]⟩
    exact Nat.Coprime.dvd_of_dvd_mul_left (show Nat.Coprime q.2.natAbs q.1.natAbs by rw [Nat.coprime_comm]; exact hq.cop) this
  have d2 : p.2.natAbs ∣ q.2.natAbs := by
    have : p.2.natAbs ∣ p.1.natAbs * q.2.natAbs := ⟨q.1.natAbs, by rw [hn, Nat.mul_comm]⟩
    exact Nat.Coprime.dvd_of_dvd_mul_left (show Nat.Coprime p.2.natAbs p.1.natAbs by rw [Nat.coprime_comm]; exact hp.cop) this
  have e := Nat.dvd_antisymm d1 d2
  have h2 : p.2 = q.2 := by
    have := hp.pos
    have := hq.pos
    omega
  have h1 : p.1 = q.1 := by
    rw [h2] at h
    exact Int.eq_of_mul_eq_mul_right (by have := hq.pos; omega) h
  exact Prod.ext h1 h2
theorem cut_q {q : Int × Int} (hq : IsQ q) : cut q.1 q.2 = q := by
  have hne : q.2 ≠ 0 := by have := hq.pos; omega
  exact q_ext (cut_isQ hne) hq (cut_eq hne)
theorem cut_congr {a b c d : Int} (hb : b ≠ 0) (hd : d ≠ 0) (h : a * d = c * b) : cut a b = cut c d := by
  refine q_ext (cut_isQ hb) (cut_isQ hd) ?_
  have e1 := cut_eq (a := a) hb
  have e2 := cut_eq (a := c) hd
  have hbd : b * d ≠ 0 := Int.mul_ne_zero hb hd
  apply Int.eq_of_mul_eq_mul_right hbd
  grind
/-- where the cross products agree with a quotient's, it is that one -/
theorem cut_is {a b : Int} {q : Int × Int} (hb : b ≠ 0) (hq : IsQ q) (h : a * q.2 = q.1 * b) : cut a b = q := by
  have hne : q.2 ≠ 0 := by have := hq.pos; omega
  rw [cut_congr hb hne h, cut_q hq]
theorem cut_le1 {a b : Int} (h : b ≠ 0) : (cut a b).1.natAbs ≤ a.natAbs := by
  have hg := gq_pos (a := a) h
  have e1 : (cut a b).1.natAbs * (gq a b).natAbs = a.natAbs := by
    rw [← Int.natAbs_mul, cut_1]
    split
    · rfl
    · exact Int.natAbs_neg a
  rw [← e1]
  exact Nat.le_mul_of_pos_right _ (by omega)
theorem cut_le2 {a b : Int} (h : b ≠ 0) : (cut a b).2.natAbs ≤ b.natAbs := by
  have hg := gq_pos (a := a) h
  have e2 : (cut a b).2.natAbs * (gq a b).natAbs = b.natAbs := by
    rw [← Int.natAbs_mul, cut_2, Int.natAbs_natCast]
  rw [← e2]
  exact Nat.le_mul_of_pos_right _ (by omega)
theorem q01 : IsQ (0, 1) := ⟨by decide, by decide⟩
theorem q11 : IsQ (1, 1) := ⟨by decide, by decide⟩
theorem IsQ.ne {q : Int × Int} (h : IsQ q) : q.2 ≠ 0 := by have := h.pos; omega
def plusQ (r q : Int × Int) : Int × Int := cut (r.1 * q.2 + q.1 * r.2) (r.2 * q.2)
def prodQ (r q : Int × Int) : Int × Int := cut (r.1 * q.1) (r.2 * q.2)
def lessQ (r q : Int × Int) : Int × Int := cut (r.1 * q.2 - q.1 * r.2) (r.2 * q.2)
def overQ (r q : Int × Int) : Int × Int := cut (r.1 * q.2) (r.2 * q.1)
theorem plus_isQ {r q : Int × Int} (hr : IsQ r) (hq : IsQ q) : IsQ (plusQ r q) := cut_isQ (Int.mul_ne_zero hr.ne hq.ne)
theorem prod_isQ {r q : Int × Int} (hr : IsQ r) (hq : IsQ q) : IsQ (prodQ r q) := cut_isQ (Int.mul_ne_zero hr.ne hq.ne)
theorem less_isQ {r q : Int × Int} (hr : IsQ r) (hq : IsQ q) : IsQ (lessQ r q) := cut_isQ (Int.mul_ne_zero hr.ne hq.ne)
theorem over_isQ {r q : Int × Int} (hr : IsQ r) (hq : q.1 ≠ 0) : IsQ (overQ r q) := cut_isQ (Int.mul_ne_zero hr.ne hq)
theorem plus_0 {q : Int × Int} (hq : IsQ q) : plusQ (0, 1) q = q := cut_is (Int.mul_ne_zero (by decide) hq.ne) hq (by grind)
theorem prod_1 {q : Int × Int} (hq : IsQ q) : prodQ (1, 1) q = q := cut_is (Int.mul_ne_zero (by decide) hq.ne) hq (by grind)
theorem prod_cut {a b : Int} {q : Int × Int} (hb : b ≠ 0) (hq : IsQ q) : prodQ (cut a b) q = cut (a * q.1) (b * q.2) := by
  have h := cut_isQ (a := a) hb
  have e := cut_eq (a := a) hb
  refine cut_congr (Int.mul_ne_zero h.ne hq.ne) (Int.mul_ne_zero hb hq.ne) ?_
  grind
theorem less_minus {r q : Int × Int} : lessQ r q = plusQ r (-q.1, q.2) := by
  unfold lessQ plusQ
  congr 1
  grind
theorem less_back {r q : Int × Int} (hr : IsQ r) (hq : IsQ q) : plusQ (lessQ r q) q = r := by
  have h := less_isQ hr hq
  have hm := Int.mul_ne_zero hr.ne hq.ne
  have e : (lessQ r q).1 * (r.2 * q.2) = (r.1 * q.2 - q.1 * r.2) * (lessQ r q).2 := cut_eq hm
  refine cut_is (Int.mul_ne_zero h.ne hq.ne) hr ?_
  grind
theorem less_self {r : Int × Int} (hr : IsQ r) : lessQ r r = (0, 1) := cut_is (Int.mul_ne_zero hr.ne hr.ne) q01 (by grind)
theorem over_back {r q : Int × Int} (hr : IsQ r) (hq : IsQ q) (h0 : q.1 ≠ 0) : prodQ (overQ r q) q = r := by
  have h := over_isQ hr h0
  have hm := Int.mul_ne_zero hr.ne h0
  have e : (overQ r q).1 * (r.2 * q.1) = (r.1 * q.2) * (overQ r q).2 := cut_eq hm
  refine cut_is (Int.mul_ne_zero h.ne hq.ne) hr ?_
  grind
theorem over_self {r : Int × Int} (hr : IsQ r) (h0 : r.1 ≠ 0) : overQ r r = (1, 1) := cut_is (Int.mul_ne_zero hr.ne h0) q11 (by grind)
theorem prod5 {a b c d e : Int × Int} (ha : IsQ a) (hb : IsQ b) (hc : IsQ c) (hd : IsQ d) (he : IsQ e) :
    prodQ (prodQ (prodQ (prodQ (prodQ (1, 1) e) d) c) b) a = prodQ (prodQ (prodQ (prodQ (prodQ (1, 1) a) b) c) d) e := by
  have n1 : (1 : Int) ≠ 0 := by decide
  have s : ∀ {p : Int × Int}, IsQ p → prodQ (1, 1) p = cut p.1 p.2 := fun {p} hp => by rw [prod_1 hp, cut_q hp]
  rw [s he, s ha, prod_cut he.ne hd, prod_cut (Int.mul_ne_zero he.ne hd.ne) hc, prod_cut (Int.mul_ne_zero (Int.mul_ne_zero he.ne hd.ne) hc.ne) hb,
    prod_cut (Int.mul_ne_zero (Int.mul_ne_zero (Int.mul_ne_zero he.ne hd.ne) hc.ne) hb.ne) ha, prod_cut ha.ne hb, prod_cut (Int.mul_ne_zero ha.ne hb.ne) hc,
    prod_cut (Int.mul_ne_zero (Int.mul_ne_zero ha.ne hb.ne) hc.ne) hd, prod_cut (Int.mul_ne_zero (Int.mul_ne_zero (Int.mul_ne_zero ha.ne hb.ne) hc.ne) hd.ne) he]
  congr 1 <;> grind
/-- the program's way to it -/
theorem low_pos {a b : Int} (h : 0 < b) : cut a b = (a / gq a b, b / gq a b) := by
  unfold cut
  rw [if_pos h, show (b.natAbs : Int) = b by omega]
theorem low_neg {a b : Int} (h : b < 0) : cut a b = (a.fdiv (-gq a b), b.fdiv (-gq a b)) := by
  have hg := gq_pos (a := a) (b := b) (by omega)
  have e1 := cut_1 (a := a) (b := b)
  have e2 := cut_2 (a := a) (b := b)
  rw [if_neg (by omega)] at e1
  rw [show (b.natAbs : Int) = -b by omega] at e2
  refine Prod.ext ?_ ?_
  · exact (Int.fdiv_eq_of_eq_mul_left (by omega) (by grind)).symm
  · exact (Int.fdiv_eq_of_eq_mul_left (by omega) (by grind)).symm
end Qu

/-! Primes, divisors, parts, plainly. -/
namespace Nm
def Pr (p : Nat) : Prop := 2 ≤ p ∧ ∀ d, d ∣ p → d = 1 ∨ d = p
structure Least (n l : Nat) : Prop where
  two : 2 ≤ l
  dvd : l ∣ n
  least : ∀ d, 2 ≤ d → d ∣ n → l ≤ d
theorem Least.pr {n l : Nat} (h : Least n l) : Pr l := by
  refine ⟨h.two, fun d hd => ?_⟩
  by_cases h1 : 2 ≤ d
  · have a := h.least d h1 (Nat.dvd_trans hd h.dvd)
    have b := Nat.le_of_dvd (by have := h.two; omega) hd
    omega
  · have : d ≠ 0 := fun z => by
      subst z
      have := Nat.eq_zero_of_zero_dvd hd
      have := h.two
      omega
    omega
theorem Least.uniq {n l m : Nat} (h : Least n l) (h' : Least n m) : l = m :=
  Nat.le_antisymm (h.least m h'.two h'.dvd) (h'.least l h.two h.dvd)
theorem least_ex {n : Nat} (h : 2 ≤ n) : ∃ l, Least n l := by
  have key : ∀ k, (∃ d, 2 ≤ d ∧ d ≤ k ∧ d ∣ n) → ∃ l, Least n l := by
    intro k
    induction k with
    | zero => rintro ⟨d, h1, h2, _⟩; omega
    | succ k ih =>
      rintro ⟨d, h1, h2, h3⟩
      by_cases hk : ∃ d, 2 ≤ d ∧ d ≤ k ∧ d ∣ n
      · exact ih hk
      · refine ⟨d, h1, h3, fun e he1 he2 => ?_⟩
        by_cases hlt : d ≤ e
        · exact hlt
        · exact absurd ⟨e, he1, by omega, he2⟩ hk
  exact key n ⟨n, h, Nat.le_refl _, Nat.dvd_refl _⟩
/-- trial division that has found none below t, t squared above n -/
theorem least_self {n t : Nat} (hn : 2 ≤ n) (h : ∀ d, 2 ≤ d → d < t → ¬ d ∣ n) (ht : n < t * t) : Least n n := by
  refine ⟨hn, Nat.dvd_refl _, fun d h1 h2 => ?_⟩
  obtain ⟨e, he⟩ := h2
  by_cases hd : d < t
  · exact absurd ⟨e, he⟩ (h d h1 hd)
  · by_cases he1 : e = 1
    · subst he1
      omega
    · have he0 : e ≠ 0 := fun z => by subst z; omega
      have het : e < t := by
        refine Nat.lt_of_not_le fun z => ?_
        have := Nat.mul_le_mul (Nat.le_of_not_lt hd) z
        omega
      exact absurd ⟨d, by rw [he, Nat.mul_comm]⟩ (h e (by omega) het)
theorem least_at {n t : Nat} (ht : 2 ≤ t) (h : ∀ d, 2 ≤ d → d < t → ¬ d ∣ n) (hd : t ∣ n) : Least n t :=
  ⟨ht, hd, fun d h1 h2 => Nat.le_of_not_lt fun z => h d h1 z h2⟩

theorem Pr.pos {p : Nat} (h : Pr p) : 0 < p := by have := h.1; omega
theorem Pr.cop {p a : Nat} (h : Pr p) (ha : ¬ p ∣ a) : Nat.Coprime p a := by
  rcases h.2 _ (Nat.gcd_dvd_left p a) with e | e
  · exact e
  · exact absurd (e ▸ Nat.gcd_dvd_right p a) ha
theorem Pr.mul {p a b : Nat} (h : Pr p) (hd : p ∣ a * b) : p ∣ a ∨ p ∣ b := by
  by_cases ha : p ∣ a
  · exact .inl ha
  · exact .inr (Nat.Coprime.dvd_of_dvd_mul_left (h.cop ha) hd)
theorem Pr.not1 {p : Nat} (h : Pr p) : ¬ p ∣ 1 := fun z => by
  have := Nat.le_of_dvd (by decide) z
  have := h.1
  omega
theorem Pr.pow {p a : Nat} (h : Pr p) : ∀ {e : Nat}, p ∣ a ^ e → p ∣ a
  | 0, hd => absurd (by rw [Nat.pow_zero] at hd; exact hd) h.not1
  | e + 1, hd => by
    rw [Nat.pow_succ] at hd
    rcases h.mul hd with z | z
    · exact h.pow z
    · exact z
theorem Pr.eq {p q : Nat} (h : Pr p) (h' : Pr q) (hd : p ∣ q) : p = q := by
  rcases h'.2 p hd with e | e
  · have := h.1
    omega
  · exact e

def prodN (l : List Nat) : Nat := l.foldr (· * ·) 1
theorem prodN_cons (a : Nat) (l : List Nat) : prodN (a :: l) = a * prodN l := rfl
theorem prodN_append (l m : List Nat) : prodN (l ++ m) = prodN l * prodN m := by
  induction l with
  | nil => show prodN m = 1 * prodN m; rw [Nat.one_mul]
  | cons a l ih => rw [List.cons_append, prodN_cons, prodN_cons, ih, Nat.mul_assoc]
theorem Pr.prod {p : Nat} (h : Pr p) : ∀ {l : List Nat}, p ∣ prodN l → ∃ a ∈ l, p ∣ a
  | [], hd => absurd hd h.not1
  | a :: l, hd => by
    rcases h.mul hd with z | z
    · exact ⟨a, List.mem_cons_self, z⟩
    · obtain ⟨b, hb, hz⟩ := h.prod (l := l) z
      exact ⟨b, List.mem_cons_of_mem _ hb, hz⟩
theorem dvd_prod {a : Nat} : ∀ {l : List Nat}, a ∈ l → a ∣ prodN l
  | b :: l, h => by
    rcases List.mem_cons.mp h with e | h
    · subst e
      exact ⟨prodN l, rfl⟩
    · exact Nat.dvd_trans (dvd_prod h) ⟨b, by rw [prodN_cons, Nat.mul_comm]⟩
theorem prod_pos : ∀ {l : List Nat}, (∀ a ∈ l, 0 < a) → 0 < prodN l
  | [], _ => by decide
  | a :: l, h => Nat.mul_pos (h a List.mem_cons_self) (prod_pos fun b hb => h b (List.mem_cons_of_mem _ hb))

/-- the prime factors, ascending, each as often as it divides -/
structure Facs (n : Nat) (fs : List Nat) : Prop where
  pr : ∀ p ∈ fs, Pr p
  asc : fs.Pairwise (· ≤ ·)
  prod : prodN fs = n
theorem Facs.mem {n : Nat} {fs : List Nat} (h : Facs n fs) (p : Nat) : p ∈ fs ↔ Pr p ∧ p ∣ n := by
  constructor
  · intro hp
    exact ⟨h.pr p hp, h.prod ▸ dvd_prod hp⟩
  · rintro ⟨hp, hd⟩
    rw [← h.prod] at hd
    obtain ⟨a, ha, hz⟩ := hp.prod hd
    rw [hp.eq (h.pr a ha) hz]
    exact ha

/-- the primes with the greatest powers that divide -/
structure Parts (n : Nat) (ps : List (Nat × Nat)) : Prop where
  prod : prodN (ps.map (·.2)) = n
  asc : (ps.map (·.1)).Pairwise (· < ·)
  pw : ∀ x ∈ ps, Pr x.1 ∧ ∃ e, 1 ≤ e ∧ x.2 = x.1 ^ e
theorem Parts.mem {n : Nat} {ps : List (Nat × Nat)} (h : Parts n ps) (p : Nat) : p ∈ ps.map (·.1) ↔ Pr p ∧ p ∣ n := by
  constructor
  · intro hp
    obtain ⟨x, hx, rfl⟩ := List.mem_map.mp hp
    obtain ⟨h1, e, he, h2⟩ := h.pw x hx
    refine ⟨h1, ?_⟩
    rw [← h.prod]
    refine Nat.dvd_trans ?_ (dvd_prod (List.mem_map.mpr ⟨x, hx, rfl⟩))
    rw [h2]
    obtain ⟨k, rfl⟩ : ∃ k, e = k + 1 := ⟨e - 1, by omega⟩
    exact ⟨x.1 ^ k, by rw [Nat.pow_succ, Nat.mul_comm]⟩
  · rintro ⟨hp, hd⟩
    rw [← h.prod] at hd
    obtain ⟨a, ha, hz⟩ := hp.prod hd
    obtain ⟨x, hx, rfl⟩ := List.mem_map.mp ha
    obtain ⟨h1, e, he, h2⟩ := h.pw x hx
    rw [h2] at hz
    rw [hp.eq h1 (hp.pow hz)]
    exact List.mem_map.mpr ⟨x, hx, rfl⟩
/-- two strictly ascending lists with the same members are one -/
theorem asc_ext {α : Type} {r : α → α → Prop} (ir : ∀ a, ¬ r a a) (tr : ∀ a b c, r a b → r b c → r a c) : ∀ {l m : List α}, l.Pairwise r → m.Pairwise r → (∀ a, a ∈ l ↔ a ∈ m) → l = m
  | [], [], _, _, _ => rfl
  | [], b :: m, _, _, h => absurd ((h b).mpr List.mem_cons_self) List.not_mem_nil
  | a :: l, [], _, _, h => absurd ((h a).mp List.mem_cons_self) List.not_mem_nil
  | a :: l, b :: m, h1, h2, h => by
    obtain ⟨a1, a2⟩ := List.pairwise_cons.mp h1
    obtain ⟨b1, b2⟩ := List.pairwise_cons.mp h2
    have e : a = b := by
      rcases List.mem_cons.mp ((h a).mp List.mem_cons_self) with e | e
      · exact e
      · rcases List.mem_cons.mp ((h b).mpr List.mem_cons_self) with e' | e'
        · exact e'.symm
        · exact absurd (tr _ _ _ (b1 a e) (a1 b e')) (ir b)
    subst e
    have hm : ∀ c, c ∈ l ↔ c ∈ m := fun c => by
      constructor
      · intro hc
        rcases List.mem_cons.mp ((h c).mp (List.mem_cons_of_mem _ hc)) with z | z
        · subst z
          exact absurd (a1 c hc) (ir c)
        · exact z
      · intro hc
        rcases List.mem_cons.mp ((h c).mpr (List.mem_cons_of_mem _ hc)) with z | z
        · subst z
          exact absurd (b1 c hc) (ir c)
        · exact z
    rw [asc_ext ir tr a2 b2 hm]
theorem asc_nat {l m : List Nat} (h1 : l.Pairwise (· < ·)) (h2 : m.Pairwise (· < ·)) (h : ∀ a, a ∈ l ↔ a ∈ m) : l = m :=
  asc_ext (fun a => Nat.lt_irrefl a) (fun _ _ _ => Nat.lt_trans) h1 h2 h

/-- how often a prime goes into a number is one number -/
theorem val_uniq {p a b : Nat} (hp : Pr p) (ha : ¬ p ∣ a) (hb : ¬ p ∣ b) : ∀ {e c : Nat}, p ^ e * a = p ^ c * b → e = c
  | 0, 0, _ => rfl
  | 0, c + 1, h => by
    refine absurd ?_ ha
    rw [Nat.pow_zero, Nat.one_mul] at h
    exact ⟨p ^ c * b, by rw [h, Nat.pow_succ]; ac_rfl⟩
  | e + 1, 0, h => by
    refine absurd ?_ hb
    rw [Nat.pow_zero, Nat.one_mul] at h
    exact ⟨p ^ e * a, by rw [← h, Nat.pow_succ]; ac_rfl⟩
  | e + 1, c + 1, h => by
    refine congrArg (· + 1) (val_uniq hp ha hb ?_)
    refine Nat.eq_of_mul_eq_mul_left hp.pos ?_
    rw [Nat.pow_succ, Nat.pow_succ] at h
    calc p * (p ^ e * a) = p ^ e * p * a := by ac_rfl
      _ = p ^ c * p * b := h
      _ = p * (p ^ c * b) := by ac_rfl
theorem facs_split {p : Nat} (hp : Pr p) : ∀ {fs : List Nat}, (∀ q ∈ fs, Pr q) → ∃ b, ¬ p ∣ b ∧ prodN fs = p ^ (fs.count p) * b
  | [], _ => ⟨1, fun z => by
      have := Nat.le_of_dvd (by decide) z
      have := hp.1
      omega, rfl⟩
  | q :: fs, h => by
    obtain ⟨b, h1, h2⟩ := facs_split hp (fs := fs) fun r hr => h r (List.mem_cons_of_mem _ hr)
    by_cases e : q = p
    · subst e
      refine ⟨b, h1, ?_⟩
      rw [prodN_cons, h2, List.count_cons_self, Nat.pow_succ]
      ac_rfl
    · refine ⟨q * b, fun z => ?_, ?_⟩
      · rcases hp.mul z with z | z
        · exact e (hp.eq (h q List.mem_cons_self) z).symm
        · exact h1 z
      · rw [prodN_cons, h2, List.count_cons_of_ne e]
        ac_rfl
theorem parts_split {ps : List (Nat × Nat)} (hpw : ∀ x ∈ ps, Pr x.1 ∧ ∃ e, 1 ≤ e ∧ x.2 = x.1 ^ e) : ∀ {p : Nat}, Pr p → p ∉ ps.map (·.1) → ¬ p ∣ prodN (ps.map (·.2)) := by
  intro p hp hn hd
  obtain ⟨a, ha, hz⟩ := hp.prod hd
  obtain ⟨x, hx, rfl⟩ := List.mem_map.mp ha
  obtain ⟨h1, e, he, h2⟩ := hpw x hx
  rw [h2] at hz
  exact hn (List.mem_map.mpr ⟨x, hx, (hp.eq h1 (hp.pow hz)).symm⟩)
theorem parts_at {ps : List (Nat × Nat)} (hpw : ∀ x ∈ ps, Pr x.1 ∧ ∃ e, 1 ≤ e ∧ x.2 = x.1 ^ e) (hasc : (ps.map (·.1)).Pairwise (· < ·)) : ∀ x ∈ ps, ∃ b, ¬ x.1 ∣ b ∧ prodN (ps.map (·.2)) = x.2 * b := by
  induction ps with
  | nil => intro x hx; exact absurd hx List.not_mem_nil
  | cons y ps ih =>
    intro x hx
    obtain ⟨a1, a2⟩ := List.pairwise_cons.mp hasc
    have hpw' : ∀ x ∈ ps, Pr x.1 ∧ ∃ e, 1 ≤ e ∧ x.2 = x.1 ^ e := fun z hz => hpw z (List.mem_cons_of_mem _ hz)
    rcases List.mem_cons.mp hx with e | hx
    · subst e
      refine ⟨_, parts_split hpw' (hpw x List.mem_cons_self).1 fun z => ?_, rfl⟩
      exact absurd (a1 _ z) (Nat.lt_irrefl _)
    · obtain ⟨b, h1, h2⟩ := ih hpw' a2 x hx
      have hp := (hpw' x hx).1
      refine ⟨y.2 * b, fun z => ?_, ?_⟩
      · rcases hp.mul z with z | z
        · obtain ⟨h3, e, _, h4⟩ := hpw y List.mem_cons_self
          rw [h4] at z
          have e1 := hp.eq h3 (hp.pow z)
          have e2 : y.1 < x.1 := a1 x.1 (List.mem_map.mpr ⟨x, hx, rfl⟩)
          omega
        · exact h1 z
      · show y.2 * prodN (ps.map (·.2)) = _
        rw [h2]
        ac_rfl
/-- each part's power, from the factors -/
theorem Parts.power {n : Nat} {ps : List (Nat × Nat)} {fs : List Nat} (h : Parts n ps) (g : Facs n fs) : ∀ x ∈ ps, x.2 = x.1 ^ (fs.count x.1) := by
  intro x hx
  obtain ⟨h1, e, he, h2⟩ := h.pw x hx
  obtain ⟨b, hb1, hb2⟩ := parts_at h.pw h.asc x hx
  obtain ⟨c, hc1, hc2⟩ := facs_split h1 g.pr
  rw [h2]
  congr 1
  refine val_uniq h1 hb1 hc1 ?_
  rw [← h2, ← hb2, h.prod, ← hc2, g.prod]
theorem Parts.uniq {n : Nat} {ps qs : List (Nat × Nat)} (h : Parts n ps) (g : Parts n qs) : ps = qs := by
  have e1 : ps.map (·.1) = qs.map (·.1) := asc_nat h.asc g.asc fun a => (h.mem a).trans (g.mem a).symm
  have e2 : ∀ x ∈ ps, ∀ y ∈ qs, x.1 = y.1 → x.2 = y.2 := by
    intro x hx y hy e
    obtain ⟨h1, i, hi, h2⟩ := h.pw x hx
    obtain ⟨k1, j, hj, k2⟩ := g.pw y hy
    obtain ⟨b, hb1, hb2⟩ := parts_at h.pw h.asc x hx
    obtain ⟨c, hc1, hc2⟩ := parts_at g.pw g.asc y hy
    rw [h2, k2, ← e]
    congr 1
    refine val_uniq h1 hb1 (e ▸ hc1) ?_
    rw [← h2, ← hb2, h.prod, ← g.prod, hc2, k2, e]
  clear h g
  induction ps generalizing qs with
  | nil =>
    cases qs with
    | nil => rfl
    | cons y qs => cases e1
  | cons x ps ih =>
    cases qs with
    | nil => cases e1
    | cons y qs =>
      injection e1 with a1 a2
      have a3 := e2 x List.mem_cons_self y List.mem_cons_self a1
      rw [show x = y from Prod.ext a1 a3, ih a2 fun u hu v hv => e2 u (List.mem_cons_of_mem _ hu) v (List.mem_cons_of_mem _ hv)]

/-! ### totients -/
def totP (ps : List (Nat × Nat)) : Nat := ps.foldl (fun m x => m * (x.2 - x.2 / x.1)) 1
def totF (n : Nat) (l : List Nat) : Nat := l.foldl (fun m p => m / p * (p - 1)) n
theorem totP_go (ps : List (Nat × Nat)) (m : Nat) : ps.foldl (fun m x => m * (x.2 - x.2 / x.1)) m = m * totP ps := by
  unfold totP
  induction ps generalizing m with
  | nil => show m = m * 1; rw [Nat.mul_one]
  | cons x ps ih =>
    show ps.foldl _ (m * (x.2 - x.2 / x.1)) = m * ps.foldl _ (1 * (x.2 - x.2 / x.1))
    rw [ih, ih (1 * (x.2 - x.2 / x.1)), Nat.one_mul, Nat.mul_assoc]
theorem tot_go (ps : List (Nat × Nat)) (hpw : ∀ x ∈ ps, Pr x.1 ∧ ∃ e, 1 ≤ e ∧ x.2 = x.1 ^ e) (m : Nat) : totF (m * prodN (ps.map (·.2))) (ps.map (·.1)) = m * totP ps := by
  induction ps generalizing m with
  | nil => rfl
  | cons x ps ih =>
    obtain ⟨h1, e, he, h2⟩ := hpw x List.mem_cons_self
    have hp := h1.pos
    obtain ⟨k, rfl⟩ : ∃ k, e = k + 1 := ⟨e - 1, by omega⟩
    rw [Nat.pow_succ] at h2
    have e1 : x.2 / x.1 = x.1 ^ k := by rw [h2]; exact Nat.mul_div_cancel _ hp
    have e2 : x.2 - x.2 / x.1 = x.1 ^ k * (x.1 - 1) := by
      rw [e1, h2, Nat.mul_sub, Nat.mul_one]
    have e3 : m * (x.2 * prodN (ps.map (·.2))) / x.1 * (x.1 - 1) = m * (x.2 - x.2 / x.1) * prodN (ps.map (·.2)) := by
      have : m * (x.2 * prodN (ps.map (·.2))) = m * x.1 ^ k * prodN (ps.map (·.2)) * x.1 := by
        rw [h2]
        ac_rfl
      rw [this, Nat.mul_div_cancel _ hp, e2]
      ac_rfl
    have e4 : totP (x :: ps) = (x.2 - x.2 / x.1) * totP ps := by
      show ps.foldl _ (1 * (x.2 - x.2 / x.1)) = _
      rw [totP_go, Nat.one_mul]
    show totF (m * (x.2 * prodN (ps.map (·.2))) / x.1 * (x.1 - 1)) (ps.map (·.1)) = _
    rw [e3, ih (fun z hz => hpw z (List.mem_cons_of_mem _ hz)), e4, Nat.mul_assoc]
theorem Parts.tot {n : Nat} {ps : List (Nat × Nat)} (h : Parts n ps) : totF n (ps.map (·.1)) = totP ps := by
  have e := tot_go ps h.pw 1
  rw [Nat.one_mul, Nat.one_mul, h.prod] at e
  exact e

/-! ### divisors -/
theorem dvd_step {m p d : Nat} (hp : Pr p) (hm : 0 < m) : d ∣ m * p ↔ d ∣ m ∨ ∃ e, e ∣ m ∧ d = p * e := by
  constructor
  · intro h
    by_cases hd : p ∣ d
    · obtain ⟨e, rfl⟩ := hd
      refine .inr ⟨e, ?_, rfl⟩
      rw [Nat.mul_comm m p] at h
      exact Nat.dvd_of_mul_dvd_mul_left hp.pos h
    · refine .inl (Nat.Coprime.dvd_of_dvd_mul_left (show Nat.Coprime d p from ?_) (show d ∣ p * m by rw [Nat.mul_comm]; exact h))
      rw [Nat.coprime_comm]
      exact hp.cop hd
  · rintro (h | ⟨e, h, rfl⟩)
    · exact Nat.dvd_trans h ⟨p, rfl⟩
    · rw [Nat.mul_comm m p]
      exact Nat.mul_dvd_mul_left p h

/-! ### one prime, one part -/
theorem Facs.one {n l : Nat} {fs : List Nat} (g : Facs n fs) (h : Least n l) : (l = n ↔ fs.length = 1) := by
  constructor
  · intro e
    subst e
    have hp := h.pr
    match fs, g with
    | [], g =>
      have : (1 : Nat) = l := g.prod
      have := h.two
      omega
    | [a], _ => rfl
    | a :: b :: r, g =>
      have ha := g.pr a List.mem_cons_self
      have hb := g.pr b (List.mem_cons_of_mem _ List.mem_cons_self)
      have hd : a ∣ l := g.prod ▸ dvd_prod List.mem_cons_self
      have e := ha.eq hp hd
      have e2 : a * (b * prodN r) = l := g.prod
      have hr : 0 < prodN r := prod_pos fun c hc => (g.pr c (List.mem_cons_of_mem _ (List.mem_cons_of_mem _ hc))).pos
      have : 2 * 1 ≤ b * prodN r := Nat.mul_le_mul hb.1 hr
      have h3 : a * 2 ≤ a * (b * prodN r) := Nat.mul_le_mul_left a (by omega)
      have := ha.1
      omega
  · intro e
    match fs, g, e with
    | [a], g, _ =>
      have e1 : a * 1 = n := g.prod
      have ha := g.pr a List.mem_cons_self
      rw [Nat.mul_one] at e1
      subst e1
      exact (h.pr).eq ha h.dvd
theorem Parts.one {n : Nat} {ps : List (Nat × Nat)} {fs : List Nat} (h : Parts n ps) (g : Facs n fs) : (ps.length = 1 ↔ fs ≠ [] ∧ fs[0]? = fs[fs.length - 1]?) := by
  have hm : ∀ p, p ∈ ps.map (·.1) ↔ p ∈ fs := fun p => (h.mem p).trans (g.mem p).symm
  constructor
  · intro e
    match ps, e, hm with
    | [x], _, hm =>
      have all : ∀ p ∈ fs, p = x.1 := fun p hp => List.mem_singleton.mp ((hm p).mpr hp)
      have hx : x.1 ∈ fs := (hm x.1).mp List.mem_cons_self
      have hl : 0 < fs.length := List.length_pos_of_mem hx
      refine ⟨List.ne_nil_of_mem hx, ?_⟩
      rw [List.getElem?_eq_getElem hl, List.getElem?_eq_getElem (show fs.length - 1 < fs.length by omega), all _ (List.getElem_mem _), all _ (List.getElem_mem _)]
  · rintro ⟨hne, e⟩
    have hl : 0 < fs.length := List.length_pos_iff.mpr hne
    rw [List.getElem?_eq_getElem hl, List.getElem?_eq_getElem (show fs.length - 1 < fs.length by omega)] at e
    have e := Option.some.inj e
    have asc := List.pairwise_iff_getElem.mp g.asc
    have all : ∀ p ∈ fs, p = fs[0] := fun p hp => by
      obtain ⟨i, hi, rfl⟩ := List.mem_iff_getElem.mp hp
      have a : fs[0] ≤ fs[i] := by
        by_cases h0 : i = 0
        · subst h0; exact Nat.le_refl _
        · exact asc 0 i hl hi (by omega)
      have b : fs[i] ≤ fs[fs.length - 1] := by
        by_cases h0 : i = fs.length - 1
        · subst h0; exact Nat.le_refl _
        · exact asc i (fs.length - 1) hi (by omega) (by omega)
      omega
    have h1 : ps.map (·.1) = [fs[0]] := asc_nat h.asc (List.pairwise_singleton _ _) fun a => by
      rw [hm a, List.mem_singleton]
      constructor
      · exact all a
      · intro z
        rw [z]
        exact List.getElem_mem _
    have := congrArg List.length h1
    rw [List.length_map] at this
    exact this
theorem facs_one : Facs 1 [] := ⟨fun _ h => absurd h List.not_mem_nil, List.Pairwise.nil, rfl⟩
end Nm

/-! How many divisors there are at most. -/
namespace Nm
theorem asc_len : ∀ {l : List Nat} {a k : Nat}, l.Pairwise (· < ·) → (∀ x ∈ l, a < x ∧ x ≤ k) → l.length ≤ k - a
  | [], _, _, _, _ => Nat.zero_le _
  | x :: l, a, k, h, b => by
    obtain ⟨h1, h2⟩ := List.pairwise_cons.mp h
    obtain ⟨b1, b2⟩ := b x List.mem_cons_self
    have := asc_len (a := x) (k := k) h2 fun y hy => ⟨h1 y hy, (b y (List.mem_cons_of_mem _ hy)).2⟩
    rw [List.length_cons]
    omega
theorem split_len (l : List Nat) (p : Nat → Bool) : l.length = (l.filter p).length + (l.filter fun x => !p x).length := by
  induction l with
  | nil => rfl
  | cons x l ih =>
    cases h : p x with
    | true =>
      rw [List.filter_cons_of_pos h, List.filter_cons_of_neg (by rw [h]; decide), List.length_cons, List.length_cons, ih]
      omega
    | false =>
      rw [List.filter_cons_of_neg (by rw [h]; decide), List.filter_cons_of_pos (by rw [h]; decide), List.length_cons, List.length_cons, ih]
      omega
theorem dv_len {m : Nat} {l : List Nat} (hm : 1 ≤ m) (hm2 : m ≤ 10000) (h : l.Pairwise (· < ·)) (hd : ∀ d ∈ l, d ∣ m) : l.length ≤ 200 := by
  have e1 : (l.filter fun x => decide (x ≤ 100)).length ≤ 100 := by
    refine asc_len (a := 0) (k := 100) (h.filter _) fun x hx => ?_
    obtain ⟨q1, q2⟩ := List.mem_filter.mp hx
    exact ⟨Nat.pos_of_dvd_of_pos (hd x q1) hm, of_decide_eq_true q2⟩
  have e2 : (((l.filter fun x => !decide (x ≤ 100)).map fun d => m / d).reverse).length ≤ 100 := by
    refine asc_len (a := 0) (k := 100) ?_ fun y hy => ?_
    · rw [List.pairwise_reverse, List.pairwise_map]
      refine List.Pairwise.imp_of_mem ?_ (h.filter _)
      intro a b ha hb hab
      have da := hd a (List.mem_filter.mp ha).1
      have db := hd b (List.mem_filter.mp hb).1
      obtain ⟨x, hx⟩ := da
      obtain ⟨y, hy⟩ := db
      have pa : 0 < a := Nat.pos_of_dvd_of_pos ⟨x, hx⟩ hm
      have pb : 0 < b := Nat.pos_of_dvd_of_pos ⟨y, hy⟩ hm
      have ex : m / a = x := by rw [hx]; exact Nat.mul_div_cancel_left _ pa
      have ey : m / b = y := by rw [hy]; exact Nat.mul_div_cancel_left _ pb
      show m / b < m / a
      rw [ex, ey]
      refine Nat.lt_of_not_le fun z => ?_
      have y0 : 0 < y := by
        rcases Nat.eq_zero_or_pos y with q | q
        · rw [q, Nat.mul_zero] at hy
          omega
        · exact q
      have h1 : a * x ≤ a * y := Nat.mul_le_mul_left a z
      have h2 : a * y < b * y := Nat.mul_lt_mul_of_pos_right hab y0
      omega
    · rw [List.mem_reverse] at hy
      obtain ⟨d, hd', rfl⟩ := List.mem_map.mp hy
      obtain ⟨q1, q2⟩ := List.mem_filter.mp hd'
      have q3 : ¬ d ≤ 100 := by
        intro z
        rw [decide_eq_true z] at q2
        cases q2
      have hle := Nat.le_of_dvd hm (hd d q1)
      constructor
      · exact Nat.div_pos hle (by omega)
      · refine Nat.le_of_lt_succ (Nat.div_lt_of_lt_mul ?_)
        omega
  rw [List.length_reverse, List.length_map] at e2
  have e3 := split_len l fun x => decide (x ≤ 100)
  omega
end Nm

/-! Totients of small numbers by counting. -/
namespace Nm
def prB (p : Nat) : Bool := decide (2 ≤ p) && (List.range p).all fun d => decide (d < 2) || decide (p % d ≠ 0)
theorem prB_pr {p : Nat} (h : prB p = true) : Pr p := by
  unfold prB at h
  rw [Bool.and_eq_true, decide_eq_true_eq, List.all_eq_true] at h
  refine ⟨h.1, fun d hd => ?_⟩
  have hle := Nat.le_of_dvd (by omega) hd
  by_cases e : d = p
  · exact .inr e
  · have h2 := h.2 d (List.mem_range.mpr (by omega))
    rw [Bool.or_eq_true, decide_eq_true_eq, decide_eq_true_eq] at h2
    rcases h2 with z | z
    · have : d ≠ 0 := fun q => by
        subst q
        have := Nat.eq_zero_of_zero_dvd hd
        omega
      omega
    · exact absurd (Nat.mod_eq_zero_of_dvd hd) z
def val (p : Nat) : Nat → Nat → Nat
  | 0, _ => 0
  | f + 1, n => if n % p = 0 then val p f (n / p) + 1 else 0
def tf (n : Nat) : List (Nat × Nat) := (List.range (n + 1)).filterMap fun p => if decide (2 ≤ p) && decide (n % p = 0) && prB p then some (p, val p 8 n) else none
def pf (n : Nat) : List (Nat × Nat) := (tf n).map fun x => (x.1, x.1 ^ x.2)
def cnt (n : Nat) : Nat := (((List.range n).map (1 + ·)).filter fun k => decide (Nat.gcd k n = 1)).length
def ascB : List Nat → Bool
  | a :: b :: l => decide (a < b) && ascB (b :: l)
  | _ => true
theorem ascB_asc : ∀ {l : List Nat}, ascB l = true → l.Pairwise (· < ·)
  | [], _ => List.Pairwise.nil
  | [a], _ => List.pairwise_singleton _ _
  | a :: b :: l, h => by
    unfold ascB at h
    rw [Bool.and_eq_true, decide_eq_true_eq] at h
    have ih := ascB_asc (l := b :: l) h.2
    refine List.pairwise_cons.mpr ⟨fun c hc => ?_, ih⟩
    rcases List.mem_cons.mp hc with e | e
    · rw [e]; exact h.1
    · exact Nat.lt_trans h.1 ((List.pairwise_cons.mp ih).1 c e)
def chk (n : Nat) : Bool := decide (prodN ((pf n).map (·.2)) = n) && ascB ((pf n).map (·.1)) && ((tf n).all fun x => prB x.1 && decide (1 ≤ x.2)) && decide (totP (pf n) = cnt n)
theorem chk_all : ((List.range 150).all fun i => chk (i + 1)) = true := by decide +kernel
theorem tot_cnt {n : Nat} {ps : List (Nat × Nat)} (h1 : 1 ≤ n) (h2 : n ≤ 150) (h : Parts n ps) : totP ps = cnt n := by
  have e := List.all_eq_true.mp chk_all (n - 1) (List.mem_range.mpr (by omega))
  rw [show n - 1 + 1 = n by omega] at e
  unfold chk at e
  rw [Bool.and_eq_true, Bool.and_eq_true, Bool.and_eq_true, decide_eq_true_eq, decide_eq_true_eq, List.all_eq_true] at e
  obtain ⟨⟨⟨e1, e2⟩, e3⟩, e4⟩ := e
  have hp : Parts n (pf n) := by
    refine ⟨e1, ascB_asc e2, fun x hx => ?_⟩
    unfold pf at hx
    obtain ⟨y, hy, rfl⟩ := List.mem_map.mp hx
    have h3 := e3 y hy
    rw [Bool.and_eq_true, decide_eq_true_eq] at h3
    exact ⟨prB_pr h3.1, y.2, h3.2, rfl⟩
  rw [h.uniq hp]
  exact e4
end Nm

/-! Sums over a window of whole numbers, lists as periodic functions, products on a clock. Pure mathematics. -/
namespace Pv
def S : Nat → (Int → Int) → Int
  | 0, _ => 0
  | n + 1, F => S n F + F n
theorem S_congr {n : Nat} {F G : Int → Int} (h : ∀ j : Nat, j < n → F j = G j) : S n F = S n G := by
  induction n with
  | zero => rfl
  | succ n ih =>
    show S n F + F n = S n G + G n
    rw [ih fun j hj => h j (Nat.lt_succ_of_lt hj), h n (Nat.lt_succ_self n)]
theorem S_add (n : Nat) (F G : Int → Int) : S n (fun j => F j + G j) = S n F + S n G := by
  induction n with
  | zero => rfl
  | succ n ih =>
    show S n (fun j => F j + G j) + (F n + G n) = S n F + F n + (S n G + G n)
    rw [ih]
    omega
theorem S_zero (n : Nat) : S n (fun _ => 0) = 0 := by
  induction n with
  | zero => rfl
  | succ n ih =>
    show S n (fun _ => 0) + 0 = 0
    rw [ih]
    rfl
theorem S_mulL (n : Nat) (c : Int) (F : Int → Int) : S n (fun j => c * F j) = c * S n F := by
  induction n with
  | zero => exact (Int.mul_zero c).symm
  | succ n ih =>
    show S n (fun j => c * F j) + c * F n = c * (S n F + F n)
    rw [ih, Int.mul_add]
theorem S_mulR (n : Nat) (c : Int) (F : Int → Int) : S n (fun j => F j * c) = S n F * c := by
  induction n with
  | zero => exact (Int.zero_mul c).symm
  | succ n ih =>
    show S n (fun j => F j * c) + F n * c = (S n F + F n) * c
    rw [ih, Int.add_mul]
theorem S_swap (m n : Nat) (F : Int → Int → Int) : S m (fun i => S n (fun j => F i j)) = S n (fun j => S m (fun i => F i j)) := by
  induction m with
  | zero => exact (S_zero n).symm
  | succ m ih =>
    show S m (fun i => S n (fun j => F i j)) + S n (fun j => F m j) = S n (fun j => S m (fun i => F i j) + F m j)
    rw [ih, S_add]
theorem S_front (n : Nat) (F : Int → Int) : S (n + 1) F = F 0 + S n (fun j => F (j + 1)) := by
  induction n with
  | zero =>
    show 0 + F 0 = F 0 + 0
    omega
  | succ n ih =>
    show S (n + 1) F + F ((n + 1 : Nat) : Int) = F 0 + (S n (fun j => F (j + 1)) + F ((n : Int) + 1))
    rw [ih, Int.natCast_add]
    show F 0 + S n (fun j => F (j + 1)) + F ((n : Int) + 1) = _
    omega
def Per (n : Nat) (F : Int → Int) : Prop := ∀ i : Int, F (i + n) = F i
theorem S_shift1 {n : Nat} {F : Int → Int} (h : Per n F) : S n (fun j => F (j + 1)) = S n F := by
  have h1 := S_front n F
  have h2 : S (n + 1) F = S n F + F n := rfl
  have h3 := h 0
  rw [Int.zero_add] at h3
  omega
theorem Per.shift {n : Nat} {F : Int → Int} (h : Per n F) (c : Int) : Per n (fun j => F (j + c)) := fun i => by
  show F (i + n + c) = F (i + c)
  rw [show i + n + c = i + c + n by omega]
  exact h _
theorem Per.neg {n : Nat} {F : Int → Int} (h : Per n F) : Per n (fun j => F (-j)) := fun i => by
  show F (-(i + n)) = F (-i)
  rw [← h (-(i + n))]
  congr 1
  omega
theorem Per.mul {n : Nat} {F G : Int → Int} (h : Per n F) (g : Per n G) : Per n (fun j => F j * G j) := fun i => by
  show F (i + n) * G (i + n) = F i * G i
  rw [h i, g i]
theorem Per.add {n : Nat} {F G : Int → Int} (h : Per n F) (g : Per n G) : Per n (fun j => F j + G j) := fun i => by
  show F (i + n) + G (i + n) = F i + G i
  rw [h i, g i]
theorem Per.sub {n : Nat} {F : Int → Int} (h : Per n F) (b : Int) : Per n (fun j => F (b - j)) := by
  have := (h.shift b).neg
  intro i
  have e := this i
  show F (b - (i + n)) = F (b - i)
  rw [show b - (i + (n : Int)) = -(i + n) + b by omega, show b - i = -i + b by omega]
  exact e
theorem S_shiftN {n : Nat} {F : Int → Int} (h : Per n F) (c : Nat) : S n (fun j => F (j + c)) = S n F := by
  induction c with
  | zero => exact S_congr fun j _ => congrArg F (Int.add_zero _)
  | succ c ih =>
    rw [← ih, ← S_shift1 (h.shift c)]
    refine S_congr fun j _ => congrArg F ?_
    omega
theorem S_shift {n : Nat} {F : Int → Int} (h : Per n F) (c : Int) : S n (fun j => F (j + c)) = S n F := by
  rcases Int.le_total 0 c with hc | hc
  · have e := S_shiftN h c.toNat
    rw [Int.toNat_of_nonneg hc] at e
    exact e
  · have e := S_shiftN (h.shift c) (-c).toNat
    rw [Int.toNat_of_nonneg (by omega)] at e
    rw [← e]
    refine S_congr fun j _ => congrArg F ?_
    omega
theorem S_rev (n : Nat) (F : Int → Int) : S n (fun j => F ((n : Int) - 1 - j)) = S n F := by
  induction n generalizing F with
  | zero => rfl
  | succ n ih =>
    rw [S_front]
    have e : S n (fun j => F (((n + 1 : Nat) : Int) - 1 - (j + 1))) = S n F := by
      rw [← ih F]
      refine S_congr fun j _ => congrArg F ?_
      omega
    rw [e]
    show F _ + S n F = S n F + F n
    rw [show (((n + 1 : Nat) : Int) - 1 - 0) = (n : Int) by omega]
    omega
theorem S_neg {n : Nat} {F : Int → Int} (h : Per n F) : S n (fun j => F (-j)) = S n F := by
  rw [← S_rev n F, ← S_shift h.neg (-((n : Int) - 1))]
  refine S_congr fun j _ => congrArg F ?_
  omega
/-- the sum runs backwards from b -/
theorem S_back {n : Nat} {F : Int → Int} (h : Per n F) (b : Int) : S n (fun j => F (b - j)) = S n F := by
  rw [← S_shift h b, ← S_neg (h.shift b)]
  refine S_congr fun j _ => congrArg F ?_
  omega
/-! ### the product on a clock -/
def conv (n : Nat) (F G : Int → Int) : Int → Int := fun b => S n fun j => F j * G (b - j)
theorem per_conv {n : Nat} {F G : Int → Int} (g : Per n G) : Per n (conv n F G) := fun i => by
  refine S_congr fun j _ => ?_
  rw [show i + (n : Int) - (j : Int) = i - j + n by omega, g]
theorem conv_congr {n : Nat} {F F' G G' : Int → Int} (h : ∀ i, F i = F' i) (g : ∀ i, G i = G' i) (b : Int) : conv n F G b = conv n F' G' b :=
  S_congr fun j _ => by rw [h, g]
theorem conv_comm {n : Nat} {F G : Int → Int} (h : Per n F) (g : Per n G) (b : Int) : conv n F G b = conv n G F b := by
  have hp : Per n fun j => F j * G (b - j) := h.mul (g.sub b)
  unfold conv
  rw [← S_back hp b]
  refine S_congr fun j _ => ?_
  rw [show b - (b - (j : Int)) = j by omega, Int.mul_comm]
theorem conv_assoc {n : Nat} {F G H : Int → Int} (g : Per n G) (h : Per n H) (b : Int) : conv n (conv n F G) H b = conv n F (conv n G H) b := by
  unfold conv
  have e1 : S n (fun j => S n (fun i => F i * G (j - i)) * H (b - j)) = S n (fun j => S n (fun i => F i * G (j - i) * H (b - j))) :=
    S_congr fun j _ => (S_mulR n _ _).symm
  rw [e1, S_swap n n fun j i => F i * G (j - i) * H (b - j)]
  refine S_congr fun i _ => ?_
  have hp : Per n fun j => G (j - i) * H (b - j) := by
    have := (g.shift (-(i : Int))).mul (h.sub b)
    intro k
    have e := this k
    show G (k + n - i) * H (b - (k + n)) = G (k - i) * H (b - k)
    rw [show k + (n : Int) - (i : Int) = k + n + -i by omega, show k - (i : Int) = k + -i by omega]
    exact e
  have e2 : S n (fun j => F i * G (j - i) * H (b - j)) = F i * S n (fun j => G (j - i) * H (b - j)) := by
    rw [← S_mulL]
    exact S_congr fun j _ => Int.mul_assoc _ _ _
  rw [e2, ← S_shift hp i]
  congr 1
  refine S_congr fun j _ => ?_
  rw [show (j : Int) + i - i = j by omega, show b - ((j : Int) + i) = b - i - j by omega]
theorem conv_add {n : Nat} {F G H : Int → Int} (b : Int) : conv n F (fun i => G i + H i) b = conv n F G b + conv n F H b := by
  unfold conv
  rw [← S_add]
  exact S_congr fun j _ => Int.mul_add _ _ _
theorem conv_turn {n : Nat} {F G : Int → Int} (h : Per n F) (g : Per n G) (k b : Int) : conv n (fun i => F (i - k)) G b = conv n F G (b - k) := by
  have hp : Per n fun j => F (j - k) * G (b - j) := by
    have := (h.shift (-k)).mul (g.sub b)
    intro i
    have e := this i
    show F (i + n - k) * G (b - (i + n)) = F (i - k) * G (b - i)
    rw [show i + (n : Int) - k = i + n + -k by omega, show i - k = i + -k by omega]
    exact e
  unfold conv
  rw [← S_shift hp k]
  refine S_congr fun j _ => ?_
  rw [show (j : Int) + k - k = j by omega, show b - ((j : Int) + k) = b - k - j by omega]
theorem conv_mirror {n : Nat} {F G : Int → Int} (h : Per n F) (g : Per n G) (b : Int) : conv n (fun i => F (-i)) (fun i => G (-i)) b = conv n F G (-b) := by
  unfold conv
  have hp : Per n fun j => F j * G (-b - j) := h.mul (g.sub (-b))
  rw [← S_neg hp]
  refine S_congr fun j _ => ?_
  show F (-(j : Int)) * G (-(b - j)) = F (-(j : Int)) * G (-b - -(j : Int))
  rw [show -(b - (j : Int)) = -b - -j by omega]
theorem conv_total {n : Nat} {F G : Int → Int} (g : Per n G) : S n (conv n F G) = S n F * S n G := by
  unfold conv
  rw [S_swap n n fun b j => F j * G (b - j), ← S_mulR]
  refine S_congr fun j _ => ?_
  rw [S_mulL, ← S_shift g (-(j : Int))]
  congr 1
theorem S_one {n : Nat} {s : Nat} (f : Int → Int) (hs : s < n) : S n (fun j => (if j = (s : Int) then 1 else 0) * f j) = f s := by
  induction n with
  | zero => omega
  | succ n ih =>
    show S n (fun j => (if j = (s : Int) then 1 else 0) * f j) + (if (n : Int) = (s : Int) then 1 else 0) * f n = f s
    by_cases e : s = n
    · subst e
      rw [if_pos rfl, Int.one_mul]
      have : S s (fun j => (if j = (s : Int) then 1 else 0) * f j) = 0 := by
        refine (S_congr fun j hj => ?_).trans (S_zero s)
        show (if (j : Int) = (s : Int) then 1 else 0) * f j = 0
        rw [if_neg (by omega), Int.zero_mul]
      rw [this, Int.zero_add]
    · rw [if_neg (by omega), Int.zero_mul, Int.add_zero]
      exact ih (by omega)
theorem conv_one {n : Nat} {F : Int → Int} (s : Nat) (hs : s < n) (h : Per n F) {D : Int → Int} (hD : ∀ j : Nat, j < n → D j = if j = s then 1 else 0) (d : Per n D) (b : Int) : conv n F D b = F (b - s) := by
  rw [conv_comm h d]
  unfold conv
  rw [← S_one (fun j => F (b - j)) hs]
  refine S_congr fun j hj => ?_
  rw [hD j hj]
  by_cases e : j = s
  · rw [if_pos e, if_pos (by omega)]
  · rw [if_neg e, if_neg (by omega)]
theorem conv_ones {n : Nat} {F : Int → Int} (b : Int) : conv n F (fun _ => 1) b = S n F := S_congr fun _ _ => Int.mul_one _
/-! ### lists -/
def per (xs : List Int) : Int → Int := fun i => xs.getD (i % (xs.length : Int)).toNat 0
def of (n : Nat) (F : Int → Int) : List Int := (List.range n).map fun j => F (j : Nat)
theorem of_len (n : Nat) (F : Int → Int) : (of n F).length = n := by unfold of; rw [List.length_map, List.length_range]
theorem of_get {n : Nat} {F : Int → Int} {j : Nat} (h : j < n) : (of n F)[j]? = some (F j) := by
  unfold of
  rw [List.getElem?_map, List.getElem?_range h]
  rfl
theorem of_congr {n : Nat} {F G : Int → Int} (h : ∀ j : Nat, j < n → F j = G j) : of n F = of n G := by
  unfold of
  exact List.map_congr_left fun j hj => h j (List.mem_range.mp hj)
theorem per_per (xs : List Int) : Per xs.length (per xs) := fun i => by
  unfold per
  rw [Int.add_emod_right]
theorem per_get {xs : List Int} {j : Nat} (h : j < xs.length) : per xs j = xs[j] := by
  unfold per
  rw [Int.emod_eq_of_lt (by omega) (by omega), Int.toNat_natCast, List.getD_eq_getElem?_getD, List.getElem?_eq_getElem h]
  rfl
theorem of_per (xs : List Int) : of xs.length (per xs) = xs := by
  refine List.ext_getElem (of_len _ _) fun j h1 h2 => ?_
  have e := of_get (F := per xs) h2
  rw [List.getElem?_eq_getElem h1] at e
  rw [Option.some.inj e, per_get h2]
theorem Per.mod {n : Nat} {F : Int → Int} (h : Per n F) (hn : 0 < n) (i : Int) : F (i % n) = F i := by
  have up : ∀ (k : Nat) (i : Int), F (i + n * k) = F i := by
    intro k
    induction k with
    | zero =>
      intro i
      rw [show i + (n : Int) * ((0 : Nat) : Int) = i by simp]
    | succ k ih =>
      intro i
      rw [show i + (n : Int) * ((k + 1 : Nat) : Int) = i + n * k + n by rw [Int.natCast_add, Int.mul_add]; simp; omega, h, ih]
  have e := Int.emod_add_mul_ediv i n
  rcases Int.le_total 0 (i / n) with hc | hc
  · have := up (i / n).toNat (i % n)
    rw [Int.toNat_of_nonneg hc, e] at this
    exact this.symm
  · have := up (-(i / n)).toNat i
    rw [Int.toNat_of_nonneg (by omega)] at this
    rw [← this]
    congr 1
    rw [Int.mul_neg]
    omega
theorem per_of {n : Nat} {F : Int → Int} (h : Per n F) (hn : 0 < n) (i : Int) : per (of n F) i = F i := by
  unfold per
  rw [of_len]
  have h1 := Int.emod_nonneg i (show (n : Int) ≠ 0 by omega)
  have h2 := Int.emod_lt_of_pos i (show (0 : Int) < n by omega)
  rw [List.getD_eq_getElem?_getD, of_get (show (i % (n : Int)).toNat < n by omega), Int.toNat_of_nonneg h1]
  exact h.mod hn i
theorem of_eq {n : Nat} {F : Int → Int} {xs : List Int} (hl : xs.length = n) (h : ∀ j : Nat, j < n → per xs j = F j) : xs = of n F := by
  subst hl
  rw [← of_congr h, of_per]
/-! ### sizes -/
theorem S_abs {n : Nat} {F : Int → Int} {B : Nat} (h : ∀ j : Nat, j < n → (F j).natAbs ≤ B) : (S n F).natAbs ≤ n * B := by
  induction n with
  | zero => simp [S]
  | succ n ih =>
    have h1 := ih fun j hj => h j (Nat.lt_succ_of_lt hj)
    have h2 := h n (Nat.lt_succ_self n)
    show (S n F + F n).natAbs ≤ (n + 1) * B
    have h3 := Int.natAbs_add_le (S n F) (F n)
    rw [Nat.succ_mul]
    omega
theorem conv_abs {n : Nat} {F G : Int → Int} {B C : Nat} (h : ∀ i, (F i).natAbs ≤ B) (g : ∀ i, (G i).natAbs ≤ C) (b : Int) : (conv n F G b).natAbs ≤ n * (B * C) :=
  S_abs fun j _ => by
    rw [Int.natAbs_mul]
    exact Nat.mul_le_mul (h _) (g _)
theorem per_abs {xs : List Int} {B : Nat} (h : ∀ x ∈ xs, x.natAbs ≤ B) (i : Int) : (per xs i).natAbs ≤ B := by
  unfold per
  rw [List.getD_eq_getElem?_getD]
  cases e : xs[(i % (xs.length : Int)).toNat]? with
  | none => exact Nat.zero_le _
  | some x => exact h x (List.mem_of_getElem? e)
/-! ### adding up step by step: the beat at which k stands, j further -/
theorem beat_iff {n j k b : Nat} (hj : j < n) (hk : k < n) (hb : b < n) : ((b : Int) - j) % n = k ↔ b = (j + k) % n := by
  constructor
  · intro h
    have e := Int.emod_add_mul_ediv ((b : Int) - j) n
    rw [h] at e
    have e2 : ((j + k : Nat) : Int) = b + n * (-(((b : Int) - j) / n)) := by rw [Int.mul_neg]; omega
    have e3 : ((j + k : Nat) : Int) % n = b := by
      rw [e2, Int.add_mul_emod_self_left, Int.emod_eq_of_lt (by omega) (by omega)]
    have : (((j + k) % n : Nat) : Int) = b := by rw [Int.natCast_emod]; exact e3
    omega
  · intro h
    have h1 : ((j + k : Nat) : Int) % n = b := by rw [← Int.natCast_emod, h]
    have e := Int.emod_add_mul_ediv ((j + k : Nat) : Int) n
    rw [h1] at e
    have e2 : (b : Int) - j = k + n * (-(((j + k : Nat) : Int) / n)) := by rw [Int.mul_neg]; omega
    rw [e2, Int.add_mul_emod_self_left, Int.emod_eq_of_lt (by omega) (by omega)]
end Pv

/-! What the products of lists as periodic functions are. -/
namespace Pv
section
variable {n : Nat} {F G H : Int → Int}
theorem Per.mir (h : Per n F) : Per n (fun b => F (-b)) := h.neg
theorem Per.turn (h : Per n F) (k : Int) : Per n (fun b => F (b - k)) := h.shift (-k)
theorem cvL (f : Per n F) (hn : 0 < n) : of n (conv n (per (of n F)) G) = of n (conv n F G) := of_congr fun _ _ => conv_congr (fun i => per_of f hn i) (fun _ => rfl) _
theorem cvR (g : Per n G) (hn : 0 < n) : of n (conv n F (per (of n G))) = of n (conv n F G) := of_congr fun _ _ => conv_congr (fun _ => rfl) (fun i => per_of g hn i) _
theorem t_comm (f : Per n F) (g : Per n G) : of n (conv n F G) = of n (conv n G F) := of_congr fun _ _ => conv_comm f g _
theorem t_assL (g : Per n G) (hn : 0 < n) : of n (conv n (per (of n (conv n F G))) H) = of n (conv n (conv n F G) H) := cvL (per_conv g) hn
theorem t_assR (g : Per n G) (h : Per n H) (hn : 0 < n) : of n (conv n F (per (of n (conv n G H)))) = of n (conv n (conv n F G) H) := by
  rw [cvR (per_conv h) hn]
  exact of_congr fun _ _ => (conv_assoc g h _).symm
theorem t_total (g : Per n G) (hn : 0 < n) : S (of n (conv n F G)).length (per (of n (conv n F G))) = S n F * S n G := by
  rw [of_len, ← conv_total g]
  exact S_congr fun j _ => per_of (per_conv g) hn j
theorem t_mirL (f : Per n F) (g : Per n G) (hn : 0 < n) : of n (conv n (per (of n fun b => F (-b))) (per (of n fun b => G (-b)))) = of n (fun b => conv n F G (-b)) := by
  rw [cvL f.mir hn, cvR g.mir hn]
  exact of_congr fun _ _ => conv_mirror f g _
theorem t_mirR (g : Per n G) (hn : 0 < n) : of n (fun b => per (of n (conv n F G)) (-b)) = of n (fun b => conv n F G (-b)) := of_congr fun _ _ => per_of (per_conv g) hn _
theorem t_disL (g : Per n G) (h : Per n H) (hn : 0 < n) : of n (conv n F (per (of n fun i => G i + H i))) = of n (fun b => conv n F G b + conv n F H b) := by
  rw [cvR (g.add h) hn]
  exact of_congr fun _ _ => conv_add _
theorem t_disR (g : Per n G) (h : Per n H) (hn : 0 < n) : of n (fun b => per (of n (conv n F G)) b + per (of n (conv n F H)) b) = of n (fun b => conv n F G b + conv n F H b) := of_congr fun _ _ => by
  rw [per_of (per_conv g) hn, per_of (per_conv h) hn]
theorem t_spot {D : Int → Int} {s : Nat} (hs : s < n) (f : Per n F) (hD : ∀ j : Nat, j < n → D j = if j = s then 1 else 0) (d : Per n D) (hn : 0 < n) : of n (conv n F (per (of n D))) = of n (fun b => F (b - s)) := by
  rw [cvR d hn]
  exact of_congr fun _ _ => conv_one s hs f hD d _
theorem of_const (n : Nat) (c : Int) : of n (fun _ => c) = List.replicate n c := by
  unfold of
  exact (List.map_eq_replicate_iff.mpr (fun _ _ => rfl)).trans (by rw [List.length_range])
theorem per_const (n : Nat) (c : Int) : Per n (fun _ => c) := fun _ => rfl
theorem t_ones (hn : 0 < n) : of n (conv n F (per (of n fun _ => 1))) = List.replicate n (S n F) := by
  rw [cvR (per_const n 1) hn, ← of_const]
  exact of_congr fun _ _ => conv_ones _
theorem t_turnL (f : Per n F) (g : Per n G) (k : Int) (hn : 0 < n) : of n (conv n (per (of n fun b => F (b - k))) G) = of n (fun b => conv n F G (b - k)) := by
  rw [cvL (f.turn k) hn]
  exact of_congr fun _ _ => conv_turn f g k _
theorem t_turnR (g : Per n G) (k : Int) (hn : 0 < n) : of n (fun b => per (of n (conv n F G)) (b - k)) = of n (fun b => conv n F G (b - k)) := of_congr fun _ _ => per_of (per_conv g) hn _
end
end Pv

set_option Elab.async false
set_option linter.all false
set_option maxRecDepth 100000
/-! Defs that run where no repr is under way; repr of data. -/
namespace Gd
open PySem PySem.Spec PyProof.Rows L2

/-- a def's promise, given that no guard stands around the call -/
structure FnG (P : Program) (w : World) (K : PySem.W.Frag) (mg : Str → Option Value) (base : Heap) (k : Nat) (f : Addr) (fd : FuncData) (ps : List Str) (sp : Sp) : Prop where
  len : ∀ vs H Q E, sp vs H Q E → vs.length = ps.length
  go : ∀ {A : Around} {outer : List Env} {s : Shared} {H : Hp} {args : Args} {us : List Value} {vs : List V} {Q : VK} {E : XK},
    Room k A → A.guards = some [] → Env0 P w K mg base A outer s H → BindsTo s fd args (ps.zip us) → Vals vs us → sp vs H Q E →
    codeAny (model P w) A (.call (.ref f) args) (CR CX0 outer P w H s Q E) s

section
variable {P : Program} {w : World} {K : PySem.W.Frag} {mg : Str → Option Value} {base : Heap}

theorem FnG.of {k : Nat} {f : Addr} {fd : FuncData} {ps : List Str} {sp : Sp} (F : FnOk P w K mg base CX0 k f fd ps sp) : FnG P w K mg base k f fd ps sp :=
  ⟨F.len, fun hr _ e b v q => F.run _ _ _ _ _ _ _ _ _ hr e b v q⟩
theorem FnG.mono {j k : Nat} {f : Addr} {fd : FuncData} {ps : List Str} {sp : Sp} (F : FnG P w K mg base j f fd ps sp) (h : j ≤ k) : FnG P w K mg base k f fd ps sp :=
  ⟨F.len, fun hr g e b v q => F.go (hr.mono h) g e b v q⟩

/-- the rule for such a def, by its body -/
theorem okG {x qual : Str} {st : Stmt} {f : Addr} {fd : FuncData} {N ps : List Str} {k : Nat} {sp : Sp} (F : Fun K x qual st f fd) (S : FnScope N ps (defScope st))
    (len : ∀ vs H Q E, sp vs H Q E → vs.length = ps.length)
    (body : ∀ (cdv : Value) (A : Around) (outer : List Env) (s : Shared) (H : Hp) (vs : List V) (Q : VK) (E : XK),
      Room k (A.deeper (envOfC qual (defScope st) s.heap.objs.size f cdv)) → (A.deeper (envOfC qual (defScope st) s.heap.objs.size f cdv)).guards = some [] → sp vs H Q E →
      ∃ t, PSs (cxOf CX0 P w K mg base N qual (defScope st) f cdv A outer s H E).nox (defBody st) t ∧ t { nx := fun _ H' => Q .non H', rt := Q } (start N vs) H) :
    FnG P w K mg base (k + 1) f fd ps sp := by
  obtain ⟨oc, od, kV, doc, pm, an, cdv, ct, osl, rfl, lk, hcd⟩ := F.ex
  refine ⟨len, ?_⟩
  intro A outer s H args us vs Q E hr hg e0 hb r hsp
  have hlen := len _ _ _ _ hsp
  have keep : ∀ b o, base.get? b = some o → s.heap.get? b = some o := fun b o e => (e0.bs b o e).1
  have kin := e0.mod.kin.keeps keep
  have nolim := e0.mod.nolimit.keeps keep
  refine codeAny_call_function hr.depth (kin _ _ lk) rfl S.co S.gen rfl (PySem.W.codeRec_of kin hcd) (hb _ _ _ _ ?_)
  refine wpAny_newFunctionEnv_cells S.kind (fun y hy => ?kinds) (fun env he s1 x => ?run)
  case kinds =>
    have hp := List.of_mem_zip (a := y.1) (b := y.2) hy
    exact (S.par y.1 hp.1).imp id fun q => ⟨q, PySem.W.cellsFrom_some _ _ _ (.inl q)⟩
  case run =>
    cases he
    refine ⟨nolim.keeps x.toInCall.keep, codeAny_func ?_⟩
    obtain ⟨t, ht, hq⟩ := body cdv A outer s H vs Q E (hr.deeper _) hg hsp
    have I := inv_start (CX := CX0) (P := P) (w := w) (mg := mg) (E := E) S hr.hd e0 hlen r x
    have fin : ∀ {σ' : L2.St} {H' : Hp} {s' : Shared} {v : V} {u : Value}, Inv (cxOf CX0 P w K mg base N qual (defScope st) f cdv A outer s H E) [] σ' H' s' → RelV v u → Q v H' → CE outer P w H s Q u s' :=
      fun J rv q => ⟨_, _, J.os, J.bare, J.base, J.hok, rv, q⟩
    refine wpAny_mono (ht.nox.run [] s1 (start N vs) H _ I hq) (fun fl s' hs => ?_) (fun _ _ hs => hs)
    match fl, hs with
    | .ret u, ⟨_, _, _, J, rv, q⟩ => exact fin J rv q
    | .next, ⟨_, _, J, q⟩ => exact fin (v := V.non) (u := Value.none) J rfl q
    | .brk, ⟨_, _, _, q⟩ => exact q.elim
    | .cont, ⟨_, _, _, q⟩ => exact q.elim
end

section
variable {X : Cx} {k : Nat} {f : Addr} {fd : FuncData} {ps : List Str} {sp : Sp} {dvs : List V} {ds : List Value} {E : XK} {x : Str} {p pos : Pos} {e : Expr} {es : List Expr} {t : TA}

theorem runG {pins : List (Addr × Obj)} {σ : L2.St} {H : Hp} {s : Shared} {Q : VK} {us : List Value} {vs : List V} (F : FnG X.prog X.w X.K X.mg X.base k f fd ps sp) (hr : Room k X.A) (hG : X.A.guards = some []) (hb : Binds X.K fd ps [])
    (I : Inv X pins σ H s) (r : Vals vs us) (h : sp vs H Q E) : wpAny (model X.prog X.w) X.A (call (.ref f) us) (EP X pins σ Q) X.xe s := by
  have hl : (us ++ ([] : List Value)).length = ps.length := by
    rw [List.append_nil, ← r.length]
    exact F.len _ _ _ _ h
  have bt := hb s us I.kIn hl
  rw [List.append_nil] at bt
  refine wpAny_call (codeAny_mono (F.go hr hG I.env0 bt r h) fun res s' hq => ?_)
  match res, hq with
  | .ok (.ret _), hq => exact I.after hq
  | .ok .next, hq => exact hq.elim
  | .ok .brk, hq => exact hq.elim
  | .ok .cont, hq => exact hq.elim
  | .error _, hq => exact hq.elim

/-- f(e, ..) of such a def -/
theorem pe_callG (F : FnG X.prog X.w X.K X.mg X.base k f fd ps sp) (hr : Room k X.A) (hG : X.A.guards = some []) (hg : Gl X x) (hm : X.mg x = some (.ref f)) (hk : PySem.W.keepIn X.K (.ref f) = true) (hb : Binds X.K fd ps [])
    (ha : PA X (e :: es) t) (hdb : (x == ("__debug__" : Str)) = false := by decide) (he : starEach (e :: es) X.env = (false, eval e X.env) :: starEach es X.env := by rfl)
    (hpl : (backTo pos (starEach es X.env)).any (·.1) = false := by rfl) :
    PE X (.Call (.Name x p) (e :: es) [] pos) (fun σ H Q => t σ H fun vs H1 => sp vs H1 Q E0) := by
  constructor
  intro pins s σ H Q I h
  refine wpAny_Call_Name_kw (ld_glob I hg hm ?_ hdb)
  refine PySem.W.callWith_K (h₀ := X.base) I.ok.mod.kin hk ?_ he hpl
  refine thn (ha.run pos pins s σ H _ I h) ?_
  rintro us s1 ⟨vs, H1, I1, r, q⟩
  exact ⟨I1.kIn, runG F hr hG hb I1 r q⟩

/-- repr of data -/
def rRepr (K : PySem.W.Frag) : List V → Hp → VK → Prop := fun xs H Q => ∃ (a : Addr) (d : PyData), xs = [.ref a] ∧ Dp K H (.ref a) d ∧ d.showable = true ∧ d.hasDict = false ∧ d.depth ≤ 20 ∧ d.shown.length ≤ sizeLine ∧ Q (.str d.shown) H
theorem call_repr (hr : Room k X.A) (hG : X.A.guards = some []) : CallR X (.builtin "repr") (rRepr X.K) := by
  intro pins s σ H xs us Q I r h
  obtain ⟨a, d, rfl, hd, hs, hn, hdep, hz, q⟩ := h
  obtain ⟨u, rfl, ru⟩ := vals1 r
  cases ru
  obtain ⟨as, hrd⟩ := Dp.reads I d (.ref a) (.ref a) hd rfl
  refine repr_of_reads' hrd hs (PyData.noDict_hsm hn) hG ?_ (fun _ _ e => e) (fun h' u tk hk => ?_) hz
  · have := hr.units
    omega
  · exact ⟨.str d.shown, H, I.kept hk, ⟨u, rfl⟩, q⟩
end
end Gd

set_option Elab.async false
set_option linter.all false
set_option maxRecDepth 100000
namespace Gd
open PySem PySem.Spec PyProof.Rows L2

/-- the law's end from such a promise: what an abstract heap that tracks at most the script gives -/
theorem endG {P : Program} {w : World} {K : PySem.W.Frag} {mg mb : Str → Option Value} {k : Nat} {fa a : Addr} {fd : FuncData} {x : Str} {sp : Sp} {s1 : Shared} {vs : List Value} {H : Hp}
    (kin : K.In s1.heap) (glob : s1.heap.Ns mainGlobals mg) (bn : s1.heap.Ns builtinsNs mb) (bb : ∀ x : Str, x ≠ "__name__" → mb x = bootBuiltins x) (lim : s1.heap.NoLimit) (gens : s1.gens = #[])
    (hat : s1.heap.get? a = some { cls := .type "list", data := .seq vs.toArray }) (hr : Room k callerA)
    (F : ∀ base : Heap, K.In base → base.Ns mainGlobals mg → FnG P w K mg base k fa fd [x] sp) (bind : ∀ (s : Shared) (u : Value), BindsTo s fd ⟨[u], []⟩ [(x, u)])
    (sps : sp [.ref a] H (fun v _ => v = .bl true) fun _ _ _ => False) (only : Only H) (ok : HOk P w H s1.heap) (isA : ∀ b, H b ≠ none → b = a) (noK : H a ≠ none → K.lookup a = none) :
    codeAny (model P w) callerA (.call (.ref fa) ⟨[.ref a], []⟩) (fun r s' => r = .ok (.ret (.bool true)) ∧ OldK s1.heap s'.heap ∧ s'.os = s1.os ∧ AllBare s'.gens) s1 := by
  have none_of : ∀ {b : Addr}, b ≠ a → H b = none := fun {b} hb => by
    cases q : H b with
    | none => rfl
    | some u => exact absurd (isA b (by rw [q]; exact Option.some_ne_none u)) hb
  have none_dict : ∀ {b : Addr} {o : Obj} {es : Array DictEntry} {n : Nat}, s1.heap.get? b = some o → o.data = .dict es n → H b = none := by
    intro b o es n e d
    refine none_of fun z => ?_
    subst z
    cases hat.symm.trans e
    cases d
  have ns_of : ∀ {b : Addr} {m : Str → Option Value}, s1.heap.Ns b m → (hidT s1.heap H).Ns b m := by
    rintro b m ⟨o, es, n, e, d, more⟩
    exact ⟨o, es, n, hidT_get e (none_dict e d), d, more⟩
  have kinB : K.In (hidT s1.heap H) := by
    intro b o e
    refine hidT_get (kin b o e) ?_
    by_cases hb : b = a
    · subst hb
      cases q : H b with
      | none => rfl
      | some u =>
        have z := noK (by rw [q]; exact Option.some_ne_none u)
        rw [z] at e
        cases e
    · exact none_of hb
  have md : Mod K mg (hidT s1.heap H) := ⟨kinB, ns_of glob, ⟨mb, ns_of bn, bb⟩, let ⟨mc, c1, c2⟩ := lim; ⟨mc, ns_of c1, c2⟩⟩
  have e0 : Env0 P w K mg (hidT s1.heap H) callerA [] s1 H :=
    { frames := rfl, mod := md, bs := fun b o e => of_hidT e, bsz := Nat.le_of_eq (hidT_size _ _), funs := trivial, frf := fun _ z => (List.not_mem_nil z).elim, hok := ok, bare := .of_eq gens }
  refine codeAny_mono ((F _ kinB (ns_of glob)).go (us := [.ref a]) (vs := [.ref a]) hr rfl e0 (bind s1 (.ref a)) (.cons rfl .nil) sps) fun r s' h => ?_
  match r, h with
  | .error _, h => exact h.elim
  | .ok .next, h => exact h.elim
  | .ok .brk, h => exact h.elim
  | .ok .cont, h => exact h.elim
  | .ok (.ret u), ⟨v, H', os, bare, un, ok', rv, (hv : v = .bl true)⟩ =>
    subst hv
    obtain rfl : u = Value.bool true := rv
    refine ⟨rfl, OldK.of_keep fun b o e => ?_, os, bare⟩
    rcases only b with z | ⟨ob, xs, z⟩
    · exact un.keep b o e z List.not_mem_nil List.not_mem_nil
    · have e1 := (ok b _ z).1
      have e2 := (ok' b _ (un.frzs b ob _ z)).1
      exact e2.trans (e1.symm.trans e)

theorem walkG {l : PySem.W.OpenLaw} {n k : Nat} {q : Program} {loose : List Str} {XP : (Str → Option Value) → Heap → Prop} {YP : World → Heap → Prop} {d : DefRec} {K : Params → PySem.W.Frag} {sp : PySem.W.Frag → Sp} {x : Str}
    (hn : l.most = some n) (hn2 : n ≤ sizeLine) (hdf : d.params.defaults = []) (hr : Room k callerA)
    (hY : ∀ (w : World) (h : Heap), YP w h → (K w.params).In h)
    (F : ∀ (w : World) (mg : Str → Option Value) (fa : Addr) (h : Heap), (K w.params).In h → h.Ns mainGlobals mg → mg d.name = some (.ref fa) →
      ∃ fd : FuncData, (∀ (s : Shared) (u : Value), BindsTo s fd ⟨[u], []⟩ [(x, u)]) ∧
        ∀ base : Heap, (K w.params).In base → base.Ns mainGlobals mg → FnG l.prog w (K w.params) mg base k fa fd [x] (sp (K w.params)))
    (hsp : ∀ (K : PySem.W.Frag) (H : Hp) (a : Addr) (ns : List Int), ns.length ≤ n → Only H → SqL K H a (ns.map V.int) → sp K [.ref a] H (fun v _ => v = .bl true) fun _ _ _ => False) :
    PySem.W.WalkO q loose XP YP l.row.toRowW d [] (fun f vs => PySem.call f vs) := by
  refine Att.attach_call hn hdf fun w s0 s1 mg mb fa o pm cd doc a vs ns G Y ho hd hcd hmg hobj hints hlen hg => ?_
  have kin := hY w _ Y
  obtain ⟨fd, hb, hF⟩ := F w mg fa _ kin G.T.g hmg
  have rv := vals_ints hints
  have hz : ns.length ≤ sizeLine := Nat.le_trans hlen hn2
  cases hk : (K w.params).lookup a with
  | some ob =>
    have e := (kin a ob hk).symm.trans hobj
    cases e
    refine endG (H := fun _ => none) kin G.T.g G.T.b G.T.builtins G.T.nolimit hg hobj hr hF hb (hsp _ _ a ns hlen (fun _ => .inl rfl) (.inr ⟨_, vs.toArray, _, hk, rfl, rfl, rfl, ?_, rv⟩)) (fun _ => .inl rfl) (fun b u z => nomatch z) (fun b z => (z rfl).elim) (fun z => (z rfl).elim)
    rw [List.size_toArray, hints.length]
    exact hz
  | none =>
    have at_a : ∀ b, b = a → (if b = a then some (HO.frz { cls := .type "list", data := .seq vs.toArray } (.lst (ns.map V.int))) else none) = some (HO.frz { cls := .type "list", data := .seq vs.toArray } (.lst (ns.map V.int))) := fun b hb => if_pos hb
    refine endG (H := fun b => if b = a then some (.frz { cls := .type "list", data := .seq vs.toArray } (.lst (ns.map V.int))) else none) kin G.T.g G.T.b G.T.builtins G.T.nolimit hg hobj hr hF hb
      (hsp _ _ a ns hlen ?only (.inl (.inr ⟨_, if_pos rfl⟩))) ?only (fun b u z => ?_) (fun b z => ?_) (fun _ => hk)
    case only =>
      intro b
      by_cases hb : b = a
      · exact .inr ⟨_, _, if_pos hb⟩
      · exact .inl (if_neg hb)
    · by_cases hb : b = a
      · subst hb
        cases (if_pos rfl).symm.trans z
        refine ⟨hobj, ?_, vs, _, rv, hobj⟩
        rw [List.length_map]
        exact hz
      · cases (if_neg hb).symm.trans z
    · exact Classical.byContradiction fun hb => z (if_neg hb)
end Gd

set_option Elab.async false
set_option linter.all false
set_option maxRecDepth 100000
namespace Gd
open PySem PySem.Spec PyProof.Rows L2

/-- the law's end from such a promise: what an abstract heap that tracks at most the script gives -/
theorem endGD {P : Program} {w : World} {K : PySem.W.Frag} {mg mb : Str → Option Value} {k : Nat} {fa a : Addr} {fd : FuncData} {x : Str} {sp : Sp} {s1 : Shared} {vs : List Value} {H : Hp}
    (kin : K.In s1.heap) (glob : s1.heap.Ns mainGlobals mg) (bn : s1.heap.Ns builtinsNs mb) (bb : ∀ x : Str, x ≠ "__name__" → mb x = bootBuiltins x) (lim : s1.heap.NoLimit) (dig : s1.heap.NoDigits) (gens : s1.gens = #[])
    (hat : s1.heap.get? a = some { cls := .type "list", data := .seq vs.toArray }) (hr : Room k callerA)
    (F : ∀ base : Heap, K.In base → base.Ns mainGlobals mg → base.NoDigits → FnG P w K mg base k fa fd [x] sp) (bind : ∀ (s : Shared) (u : Value), BindsTo s fd ⟨[u], []⟩ [(x, u)])
    (sps : sp [.ref a] H (fun v _ => v = .bl true) fun _ _ _ => False) (only : Only H) (ok : HOk P w H s1.heap) (isA : ∀ b, H b ≠ none → b = a) (noK : H a ≠ none → K.lookup a = none) :
    codeAny (model P w) callerA (.call (.ref fa) ⟨[.ref a], []⟩) (fun r s' => r = .ok (.ret (.bool true)) ∧ OldK s1.heap s'.heap ∧ s'.os = s1.os ∧ AllBare s'.gens) s1 := by
  have none_of : ∀ {b : Addr}, b ≠ a → H b = none := fun {b} hb => by
    cases q : H b with
    | none => rfl
    | some u => exact absurd (isA b (by rw [q]; exact Option.some_ne_none u)) hb
  have none_dict : ∀ {b : Addr} {o : Obj} {es : Array DictEntry} {n : Nat}, s1.heap.get? b = some o → o.data = .dict es n → H b = none := by
    intro b o es n e d
    refine none_of fun z => ?_
    subst z
    cases hat.symm.trans e
    cases d
  have ns_of : ∀ {b : Addr} {m : Str → Option Value}, s1.heap.Ns b m → (hidT s1.heap H).Ns b m := by
    rintro b m ⟨o, es, n, e, d, more⟩
    exact ⟨o, es, n, hidT_get e (none_dict e d), d, more⟩
  have kinB : K.In (hidT s1.heap H) := by
    intro b o e
    refine hidT_get (kin b o e) ?_
    by_cases hb : b = a
    · subst hb
      cases q : H b with
      | none => rfl
      | some u =>
        have z := noK (by rw [q]; exact Option.some_ne_none u)
        rw [z] at e
        cases e
    · exact none_of hb
  have md : Mod K mg (hidT s1.heap H) := ⟨kinB, ns_of glob, ⟨mb, ns_of bn, bb⟩, let ⟨mc, c1, c2⟩ := lim; ⟨mc, ns_of c1, c2⟩⟩
  have e0 : Env0 P w K mg (hidT s1.heap H) callerA [] s1 H :=
    { frames := rfl, mod := md, bs := fun b o e => of_hidT e, bsz := Nat.le_of_eq (hidT_size _ _), funs := trivial, frf := fun _ z => (List.not_mem_nil z).elim, hok := ok, bare := .of_eq gens }
  refine codeAny_mono ((F _ kinB (ns_of glob) (let ⟨mc, c1, c2⟩ := dig; ⟨mc, ns_of c1, c2⟩)).go (us := [.ref a]) (vs := [.ref a]) hr rfl e0 (bind s1 (.ref a)) (.cons rfl .nil) sps) fun r s' h => ?_
  match r, h with
  | .error _, h => exact h.elim
  | .ok .next, h => exact h.elim
  | .ok .brk, h => exact h.elim
  | .ok .cont, h => exact h.elim
  | .ok (.ret u), ⟨v, H', os, bare, un, ok', rv, (hv : v = .bl true)⟩ =>
    subst hv
    obtain rfl : u = Value.bool true := rv
    refine ⟨rfl, OldK.of_keep fun b o e => ?_, os, bare⟩
    rcases only b with z | ⟨ob, xs, z⟩
    · exact un.keep b o e z List.not_mem_nil List.not_mem_nil
    · have e1 := (ok b _ z).1
      have e2 := (ok' b _ (un.frzs b ob _ z)).1
      exact e2.trans (e1.symm.trans e)

theorem walkGD {l : PySem.W.OpenLaw} {n k : Nat} {q : Program} {loose : List Str} {XP : (Str → Option Value) → Heap → Prop} {YP : World → Heap → Prop} {d : DefRec} {K : Params → PySem.W.Frag} {sp : PySem.W.Frag → Sp} {x : Str}
    (hn : l.most = some n) (hn2 : n ≤ sizeLine) (hdf : d.params.defaults = []) (hr : Room k callerA)
    (hY : ∀ (w : World) (h : Heap), YP w h → (K w.params).In h)
    (F : ∀ (w : World) (mg : Str → Option Value) (fa : Addr) (h : Heap), (K w.params).In h → h.Ns mainGlobals mg → mg d.name = some (.ref fa) →
      ∃ fd : FuncData, (∀ (s : Shared) (u : Value), BindsTo s fd ⟨[u], []⟩ [(x, u)]) ∧
        ∀ base : Heap, (K w.params).In base → base.Ns mainGlobals mg → base.NoDigits → FnG l.prog w (K w.params) mg base k fa fd [x] (sp (K w.params)))
    (hsp : ∀ (K : PySem.W.Frag) (H : Hp) (a : Addr) (ns : List Int), ns.length ≤ n → Only H → SqL K H a (ns.map V.int) → sp K [.ref a] H (fun v _ => v = .bl true) fun _ _ _ => False) :
    PySem.W.WalkO q loose XP YP l.row.toRowW d [] (fun f vs => PySem.call f vs) := by
  refine Att.attach_call hn hdf fun w s0 s1 mg mb fa o pm cd doc a vs ns G Y ho hd hcd hmg hobj hints hlen hg => ?_
  have kin := hY w _ Y
  obtain ⟨fd, hb, hF⟩ := F w mg fa _ kin G.T.g hmg
  have rv := vals_ints hints
  have hz : ns.length ≤ sizeLine := Nat.le_trans hlen hn2
  cases hk : (K w.params).lookup a with
  | some ob =>
    have e := (kin a ob hk).symm.trans hobj
    cases e
    refine endGD (H := fun _ => none) kin G.T.g G.T.b G.T.builtins G.T.nolimit G.T.nodigits hg hobj hr hF hb (hsp _ _ a ns hlen (fun _ => .inl rfl) (.inr ⟨_, vs.toArray, _, hk, rfl, rfl, rfl, ?_, rv⟩)) (fun _ => .inl rfl) (fun b u z => nomatch z) (fun b z => (z rfl).elim) (fun z => (z rfl).elim)
    rw [List.size_toArray, hints.length]
    exact hz
  | none =>
    have at_a : ∀ b, b = a → (if b = a then some (HO.frz { cls := .type "list", data := .seq vs.toArray } (.lst (ns.map V.int))) else none) = some (HO.frz { cls := .type "list", data := .seq vs.toArray } (.lst (ns.map V.int))) := fun b hb => if_pos hb
    refine endGD (H := fun b => if b = a then some (.frz { cls := .type "list", data := .seq vs.toArray } (.lst (ns.map V.int))) else none) kin G.T.g G.T.b G.T.builtins G.T.nolimit G.T.nodigits hg hobj hr hF hb
      (hsp _ _ a ns hlen ?only (.inl (.inr ⟨_, if_pos rfl⟩))) ?only (fun b u z => ?_) (fun b z => ?_) (fun _ => hk)
    case only =>
      intro b
      by_cases hb : b = a
      · exact .inr ⟨_, _, if_pos hb⟩
      · exact .inl (if_neg hb)
    · by_cases hb : b = a
      · subst hb
        cases (if_pos rfl).symm.trans z
        refine ⟨hobj, ?_, vs, _, rv, hobj⟩
        rw [List.length_map]
        exact hz
      · cases (if_neg hb).symm.trans z
    · exact Classical.byContradiction fun hb => z (if_neg hb)
end Gd

set_option Elab.async false
set_option linter.all false
set_option maxRecDepth 100000
/-! What a name of the module promises, without guards (Cal) and where no repr is under way (CalG). -/
namespace Gd
open PySem PySem.Spec PyProof.Rows L2

structure Cal (P : Program) (w : World) (K : PySem.W.Frag) (mg : Str → Option Value) (base : Heap) (k : Nat) (x : Str) (sp : Sp) : Prop where
  ex : ∃ f, mg x = some (.ref f) ∧ PySem.W.keepIn K (.ref f) = true ∧ FnR P w K mg base CX0 k f sp
structure CalG (P : Program) (w : World) (K : PySem.W.Frag) (mg : Str → Option Value) (base : Heap) (k : Nat) (x : Str) (ps : List Str) (sp : Sp) : Prop where
  ex : ∃ f fd, mg x = some (.ref f) ∧ PySem.W.keepIn K (.ref f) = true ∧ Binds K fd ps [] ∧ FnG P w K mg base k f fd ps sp

section
variable {P : Program} {w : World} {K : PySem.W.Frag} {mg : Str → Option Value} {base : Heap}
/-- a def of the text as the name x holds it -/
structure At (K : PySem.W.Frag) (mg : Str → Option Value) (x : String) (st : Stmt) (ps : List Str) : Prop where
  ex : ∃ f fd, mg x = some (.ref f) ∧ Fun K x x st f fd ∧ Binds K fd ps []

theorem okC {x : String} {st : Stmt} {N ps : List Str} {k : Nat} {sp : Sp} (D : At K mg x st ps) (S : FnScope N ps (defScope st)) (len : ∀ vs H Q E, sp vs H Q E → vs.length = ps.length)
    (body : ∀ (f : Addr) (cdv : Value) (A : Around) (outer : List Env) (s : Shared) (H : Hp) (vs : List V) (Q : VK) (E : XK), Room k (A.deeper (envOfC x (defScope st) s.heap.objs.size f cdv)) → sp vs H Q E →
      ∃ t, PSs (cxOf CX0 P w K mg base N x (defScope st) f cdv A outer s H E).nox (defBody st) t ∧ t { nx := fun _ H' => Q .non H', rt := Q } (start N vs) H) : Cal P w K mg base (k + 1) x sp := by
  obtain ⟨f, fd, hm, F, hb⟩ := D.ex
  have G : FnOk P w K mg base CX0 (k + 1) f fd ps sp := F.ok S len (fun cdv A outer s H vs Q E hr h => body f cdv A outer s H vs Q E hr h)
  refine ⟨f, hm, F.kp, fun A outer s H us vs Q E hr e0 r h => ?_⟩
  have kin : K.In s.heap := e0.mod.kin.keeps fun b o e => (e0.bs b o e).1
  have hl : (us ++ ([] : List Value)).length = ps.length := by
    rw [List.append_nil, ← r.length]
    exact len _ _ _ _ h
  have bt := hb s us kin hl
  rw [List.append_nil] at bt
  exact G.run A outer s H _ us vs Q E hr e0 bt r h

theorem okCG {x : String} {st : Stmt} {N ps : List Str} {k : Nat} {sp : Sp} (D : At K mg x st ps) (S : FnScope N ps (defScope st)) (len : ∀ vs H Q E, sp vs H Q E → vs.length = ps.length)
    (body : ∀ (f : Addr) (cdv : Value) (A : Around) (outer : List Env) (s : Shared) (H : Hp) (vs : List V) (Q : VK) (E : XK), Room k (A.deeper (envOfC x (defScope st) s.heap.objs.size f cdv)) →
      (A.deeper (envOfC x (defScope st) s.heap.objs.size f cdv)).guards = some [] → sp vs H Q E →
      ∃ t, PSs (cxOf CX0 P w K mg base N x (defScope st) f cdv A outer s H E).nox (defBody st) t ∧ t { nx := fun _ H' => Q .non H', rt := Q } (start N vs) H) : CalG P w K mg base (k + 1) x ps sp := by
  obtain ⟨f, fd, hm, F, hb⟩ := D.ex
  exact ⟨f, fd, hm, F.kp, hb, okG F S len fun cdv A outer s H vs Q E hr hg h => body f cdv A outer s H vs Q E hr hg h⟩
end

section
variable {X : Cx} {j k : Nat} {ps : List Str} {sp : Sp} {x : Str} {p pos : Pos} {e : Expr} {es : List Expr} {t : TA}
theorem runC {pins : List (Addr × Obj)} {σ : L2.St} {H : Hp} {s : Shared} {Q : VK} {us : List Value} {vs : List V} {f : Addr} (F : FnR X.prog X.w X.K X.mg X.base CX0 k f sp) (hr : Room k X.A)
    (I : Inv X pins σ H s) (r : Vals vs us) (h : sp vs H Q E0) : wpAny (model X.prog X.w) X.A (call (.ref f) us) (EP X pins σ Q) X.xe s := by
  refine wpAny_call (codeAny_mono (F X.A X.stack s H us vs Q E0 hr I.env0 r h) fun res s' hq => ?_)
  match res, hq with
  | .ok (.ret _), hq => exact I.after hq
  | .ok .next, hq => exact hq.elim
  | .ok .brk, hq => exact hq.elim
  | .ok .cont, hq => exact hq.elim
  | .error _, hq => exact hq.elim
def tCal (sp : Sp) (t : TA) : TE := fun σ H Q => t σ H fun vs H1 => sp vs H1 Q E0
theorem pe_k (c : Cal X.prog X.w X.K X.mg X.base k x sp) (hr : Room j X.A) (hk : k ≤ j) (hg : Gl X x) (ha : PA X (e :: es) t) (hdb : (x == ("__debug__" : Str)) = false := by decide)
    (he : starEach (e :: es) X.env = (false, eval e X.env) :: starEach es X.env := by rfl) (hpl : (backTo pos (starEach es X.env)).any (·.1) = false := by rfl) :
    PE X (.Call (.Name x p) (e :: es) [] pos) (tCal sp t) := by
  obtain ⟨f, hm, hkp, F⟩ := c.ex
  constructor
  intro pins s σ H Q I h
  refine wpAny_Call_Name_kw (ld_glob I hg hm ?_ hdb)
  refine PySem.W.callWith_K (h₀ := X.base) I.ok.mod.kin hkp ?_ he hpl
  refine thn (ha.run pos pins s σ H _ I h) ?_
  rintro us s1 ⟨vs, H1, I1, r, q⟩
  exact ⟨I1.kIn, runC F (hr.mono hk) I1 r q⟩
theorem pe_k0 (c : Cal X.prog X.w X.K X.mg X.base k x sp) (hr : Room j X.A) (hk : k ≤ j) (hg : Gl X x) (hdb : (x == ("__debug__" : Str)) = false := by decide) :
    PE X (.Call (.Name x p) [] [] pos) (tCal sp tNil) := by
  obtain ⟨f, hm, hkp, F⟩ := c.ex
  constructor
  intro pins s σ H Q I h
  refine wpAny_Call_Name_kw (ld_glob I hg hm ?_ hdb)
  exact PySem.W.callWith_K0 I.kIn hkp (runC (us := []) F (hr.mono hk) I .nil h)
theorem pe_kG (c : CalG X.prog X.w X.K X.mg X.base k x ps sp) (hr : Room j X.A) (hG : X.A.guards = some []) (hk : k ≤ j) (hg : Gl X x) (ha : PA X (e :: es) t) (hdb : (x == ("__debug__" : Str)) = false := by decide)
    (he : starEach (e :: es) X.env = (false, eval e X.env) :: starEach es X.env := by rfl) (hpl : (backTo pos (starEach es X.env)).any (·.1) = false := by rfl) :
    PE X (.Call (.Name x p) (e :: es) [] pos) (tCal sp t) := by
  obtain ⟨f, fd, hm, hkp, hb, F⟩ := c.ex
  exact pe_callG F (hr.mono hk) hG hg hm hkp hb ha hdb he hpl
end

/-! ### heaps -/
/-- all that was tracked, but for what stands at d, is as it was -/
def Kp (d : Addr) (H H' : Hp) : Prop := ∀ b o, b ≠ d → H b = some o → H' b = some o
theorem Kp.refl (d : Addr) (H : Hp) : Kp d H H := fun _ _ _ h => h
theorem Kp.trans {d : Addr} {H H1 H2 : Hp} (a : Kp d H H1) (b : Kp d H1 H2) : Kp d H H2 := fun c o n h => b c o n (a c o n h)
theorem _root_.L2.Same.kp {d : Addr} {H H' : Hp} (a : Same H H') : Kp d H H' := fun b o _ h => a b o h
theorem Kp.upd_d {d : Addr} {H : Hp} {o : HO} : Kp d H (upd H d o) := fun b u n h => by
  rw [upd_ne n]
  exact h
theorem same_new {H : Hp} {p : Addr} {o : HO} (h : H p = none) : Same H (upd H p o) := fun b u e => by
  rw [upd_ne (ne_of_none e h)]
  exact e
/-- behind new objects and a store to one of them -/
theorem same_own {H H1 : Hp} {p : Addr} {o : HO} (a : Same H H1) (h : H p = none) : Same H (upd H1 p o) := fun b u e => by
  rw [upd_ne (ne_of_none e h)]
  exact a b u e
end Gd

set_option Elab.async false
set_option linter.all false
set_option maxRecDepth 100000
namespace Gd
open PySem PySem.Spec PyProof.Rows L2
/-- a comprehension that makes no change to what was there: what it makes of each item, or that it leaves it out -/
theorem lcF {J : It} {xs : List V} {G : Hp → Prop} (w : Walk J xs.length G (YAt xs)) {g : TG} {tt : TT} {te : TE} {vs : List Nat} {σ : L2.St} {H1 : Hp} {D : Addr} {Qd : Hp → Prop} (f : V → Option V)
    (hD : H1 D = none) (hz : xs.length < sizeLine) (hG : ∀ H', Same H1 H' → G H')
    (hs : ∀ (x : V) (H' : Hp) (R : V → Hp → Prop) (S : Hp → Prop), x ∈ xs → Same H1 H' → (∀ y, f x = some y → ∀ H4, Same H' H4 → R y H4) → (f x = none → ∀ H3, Same H' H3 → S H3) →
      g x (wipe σ vs) H' fun σ2 H2 => wipe σ2 vs = wipe σ vs ∧ tt σ2 H2 fun b H3 => if b = true then te σ2 H3 R else S H3)
    (hd : ∀ H', Same H1 H' → H' D = some (.lst (xs.filterMap f)) → Qd H') :
    ∃ W : Nat → Nat → Hp → Prop, (∃ m, W 0 m (upd H1 D (.lst []))) ∧ ∀ i m H, W i m H →
      (J.stop i H ∧ Qd H) ∨ (J.go i H ∧ ∃ Nx : Hp → Prop, (∀ H', Nx H' → ∃ m', m' < m ∧ W (i + 1) m' H') ∧ ∀ x H', J.yld i H x H' → g x (wipe σ vs) H' fun σ2 H2 => wipe σ2 vs = wipe σ vs ∧ tt σ2 H2 fun b H3 =>
        if b = true then te σ2 H3 fun y H4 => ∃ acc, H4 D = some (.lst acc) ∧ acc.length < sizeLine ∧ Nx (upd H4 D (.lst (acc ++ [y]))) else Nx H3) := by
  have step : ∀ i x, xs[i]? = some x → (xs.take (i + 1)).filterMap f = (xs.take i).filterMap f ++ (f x).toList := by
    intro i x hx
    rw [List.take_add_one, List.filterMap_append, hx]
    show _ ++ List.filterMap f [x] = _
    cases e : f x with
    | none => rw [List.filterMap_cons_none e]; rfl
    | some y => rw [List.filterMap_cons_some e]; rfl
  refine lc_it w (fun i H => Same H1 H ∧ H D = some (.lst ((xs.take i).filterMap f))) ⟨same_new hD, upd_same⟩ (fun i H _ p => hG H p.1) ?_ ?_
  · rintro i x H H' hi ⟨sm, hd'⟩ ⟨rfl, hx⟩
    refine hs x _ _ _ (List.mem_of_getElem? hx) sm (fun y hy H4 s4 => ?_) (fun hn H3 s3 => ?_)
    · refine ⟨_, s4 _ _ hd', ?_, same_own (sm.trans s4) hD, ?_⟩
      · have a1 := List.length_filterMap_le f (xs.take i)
        have a2 := List.length_take_le i xs
        rw [List.length_take] at a1
        omega
      · rw [upd_same, step i x hx, hy]
        rfl
    · refine ⟨sm.trans s3, ?_⟩
      rw [s3 _ _ hd', step i x hx, hn, Option.toList, List.append_nil]
  · rintro H ⟨sm, h⟩
    rw [List.take_length] at h
    exact hd H sm h
/-- the same without a test, what it makes of each item being said -/
theorem lcM {J : It} {xs : List V} {G : Hp → Prop} (w : Walk J xs.length G (YAt xs)) {g : TG} {te : TE} {vs : List Nat} {σ : L2.St} {H1 : Hp} {D : Addr} {Qd : Hp → Prop} (f : V → V)
    (hD : H1 D = none) (hz : xs.length < sizeLine) (hG : ∀ H', Same H1 H' → G H')
    (hs : ∀ (x : V) (H' : Hp) (R : V → Hp → Prop), x ∈ xs → Same H1 H' → (∀ H4, Same H' H4 → R (f x) H4) → g x (wipe σ vs) H' fun σ2 H2 => wipe σ2 vs = wipe σ vs ∧ te σ2 H2 R)
    (hd : ∀ H', Same H1 H' → H' D = some (.lst (xs.map f)) → Qd H') :
    ∃ W : Nat → Nat → Hp → Prop, (∃ m, W 0 m (upd H1 D (.lst []))) ∧ ∀ i m H, W i m H →
      (J.stop i H ∧ Qd H) ∨ (J.go i H ∧ ∃ Nx : Hp → Prop, (∀ H', Nx H' → ∃ m', m' < m ∧ W (i + 1) m' H') ∧ ∀ x H', J.yld i H x H' → g x (wipe σ vs) H' fun σ2 H2 => wipe σ2 vs = wipe σ vs ∧ tYes σ2 H2 fun b H3 =>
        if b = true then te σ2 H3 fun y H4 => ∃ acc, H4 D = some (.lst acc) ∧ acc.length < sizeLine ∧ Nx (upd H4 D (.lst (acc ++ [y]))) else Nx H3) := by
  refine lcF w (fun x => some (f x)) hD hz hG (fun x H' R S hx sm h1 _ => ?_) (fun H' sm h => hd H' sm ?_)
  · exact hs x H' R hx sm (h1 (f x) rfl)
  · rw [h, ← List.filterMap_eq_map]
    rfl
/-- a range as a walk over what it gives -/
def rgG (lo : Int) (n : Nat) : List V := (List.range n).map fun i => V.int (lo + (i : Nat))
theorem rgG_len (lo : Int) (n : Nat) : (rgG lo n).length = n := by
  unfold rgG
  rw [List.length_map, List.length_range]
theorem walk_rg {lo : Int} {n : Nat} : Walk (Itr lo n) (rgG lo n).length (fun _ => True) (YAt (rgG lo n)) := by
  rw [rgG_len]
  refine walk_range.mono (fun _ h => h) (fun i H x H' hi _ y => ⟨y.1, ?_⟩)
  unfold rgG
  rw [List.getElem?_map, List.getElem?_range hi, y.2]
  rfl
end Gd

set_option Elab.async false
set_option linter.all false
set_option maxRecDepth 100000
/-! set(a list of ints), sorted(a set of ints) of any size. -/
namespace Gd
open PySem PySem.Spec PyProof.Rows L2
section
variable {P : Program} {w : World} {A : Around} {E : Value → Shared → Prop} {s : Shared}
theorem sortedSetN {a : Addr} {S : Int → Bool} {m : Nat} {Q : Value → Shared → Prop} (R : SetR w s.heap a S m) (hh : A.handled = none) (hm : m ≤ sizeLine)
    (hQ : ∀ (s' : Shared) (p : Addr) (zs : Array Value) (c : Nat) (ks : List Int), (∀ b o, s.heap.get? b = some o → s'.heap.get? b = some o) → s'.gens = s.gens ∧ s'.os = s.os → s.heap.objs.size ≤ p →
      s'.heap.get? p = some (seqObj "list" zs c) → IntsAre zs.toList ks → ks.Pairwise (· < ·) → (∀ k, k ∈ ks ↔ S k = true) → ks.length = m → Q (.ref p) s') :
    wpAny (model P w) A (call (.builtin "sorted") [.ref a]) Q E s := by
  obtain ⟨o, es, ep, t, at_a, ex, dat, good, nodup, mems, bnd, fits, size, ris, led⟩ := R
  refine Calls.call_function_entry kind_sorted plain_sorted entry_sorted (args_sorted1 _) ?_
  unfold Builtin.«sorted»
  refine wpAny_bind (m := checkCount "sorted" 1 1 _) (wpAny_pure ?_)
  refine wpAny_bind (collect_set (A := A.in1) hh ⟨o, at_a, ex.1, dat⟩ fits bnd ris led ?_)
  intro s1 vs keep grown gens os perm
  have len : vs.length = m := by
    rw [perm.length_eq, List.length_map, Array.length_toList]
    exact size
  have vints : IntsAre vs (vs.map Builtin.Re.reRawOf) := by
    refine ints_of vs fun v hv => ?_
    obtain ⟨e, he, q⟩ := List.mem_map.mp (perm.mem_iff.mp hv)
    obtain ⟨k, tk, g1, _⟩ := good e he
    exact ⟨k, tk, q ▸ g1⟩
  have permK : (vs.map Builtin.Re.reRawOf).Perm (es.toList.map keyOf) := by
    have q := perm.map Builtin.Re.reRawOf
    rwa [List.map_map] at q
  have lenL : vs.length ≤ sizeLine := by
    rw [len]
    exact hm
  refine wpAny_bind (wpAny_newList ?_ lenL)
  have atL : (s1.heap.push (seqObj "list" vs.toArray 0)).get? s1.heap.objs.size = some (seqObj "list" vs.toArray 0) :=
    Heap.get?_push_size _ rfl
  refine wpAny_bind (wpAny_holding (wpAny_call_entry slot_list_sort ⟨_, atL, rfl⟩ entry_list_sort ?_ (args_list_sort _)))
  refine SrtO.list_sort_ord SrtO.swo_int atL lenL (fun h2 => SrtO.ints_sortable vints h2) fun out srt stb => ⟨_, rfl, wpAny_pure ⟨_, rfl, ?_⟩⟩
  obtain ⟨i1, i2, i3⟩ := SrtO.ints_out vints srt stb
  obtain ⟨c, hc⟩ := sortedHeap_at (out := out.toArray) atL
  have permS := i2.trans permK
  refine hQ _ s1.heap.objs.size out.toArray c (out.map SrtO.iv) (fun b u e => ?_) ⟨gens, os⟩ grown hc i1 (lt_of_le_nodup _ i3 (permS.nodup_iff.mpr nodup)) (fun k => ?_) ?_
  · have e1 := keep b u e
    have lt := Heap.lt_size e1
    have lt2 : b < (s1.heap.push (seqObj "list" vs.toArray 0)).objs.size := by
      rw [size_push']
      exact Nat.lt_succ_of_lt lt
    have old := sortedHeap_old (h := s1.heap.push (seqObj "list" vs.toArray 0)) (vs := vs) (out := out.toArray) (Nat.ne_of_lt lt) lt2
    show (sortedHeap (s1.heap.push (seqObj "list" vs.toArray 0)) s1.heap.objs.size vs out.toArray).get? b = some u
    rw [old]
    exact Heap.get?_push_of_some _ e1
  · rw [permS.mem_iff]
    exact (mems k).symm
  · rw [permS.length_eq, List.length_map, Array.length_toList]
    exact size

abbrev setO0 (w : World) : Obj := { cls := .type "set", dict := none, data := .set #[] 0 (.fresh 0 0 (!w.params.followText "set-order")) }
set_option maxHeartbeats 3200000 in
theorem callSetL {l : Addr} {its : Array Value} (ns : List Int) {Q : Value → Shared → Prop} (hh : A.handled = none) (hl : s.heap.IsList l its) (hi : IntsAre its.toList ns) (hb : ns.length + 1 < scanBound)
    (h : ∀ (h' : Heap) (tk m : Nat), SetR w h' s.heap.objs.size (fun j => decide (j ∈ ns)) m → m ≤ ns.length → (∀ b o, s.heap.get? b = some o → h'.get? b = some o) → Q (.ref s.heap.objs.size) { s with heap := h', toks := tk }) :
    wpAny (model P w) A (call (.type "set") [.ref l]) Q E s := by
  have size : its.size = ns.length := by
    rw [← Array.length_toList]
    exact hi.length
  have ⟨c, tl, mro⟩ := F.called_set.mro
  have made := F.called_set.made
  have sub := F.called_set.sub
  have typ := F.called_set.notType
  have can := F.called_set.canCreate
  have tcall := F.typeCall_set_1 (.ref l)
  refine wpAny_call (codeAny_of_tree ?_)
  show wpAny _ _ (callAny (.type "set") _) _ _ _
  refine wpAny_pure ⟨Code.quiet_builtin _ (by decide +kernel), codeAny_builtin F.entry_type_call ?_⟩
  rw [Around.under_plain (weight_type_call_type "set" [.ref l] []) rfl]
  repeat any_goals first | assumption | wp_step
  refine codeAny_mono (code_set_led1 (.ref l) (E := E) (Q₁ := fun obj s₁ => obj = .ref s.heap.objs.size ∧ s₁ = { s with heap := s.heap.push (setO0 w) }) ⟨rfl, rfl⟩) fun r s₁ hr => ?_
  match r, hr with
  | .error _, hr => exact hr
  | .ok .next, hr => exact hr.elim
  | .ok .brk, hr => exact hr.elim
  | .ok .cont, hr => exact hr.elim
  | .ok (.ret obj), ⟨eo, es⟩ =>
    subst eo
    subst es
    have atS : (s.heap.push (setO0 w)).get? s.heap.objs.size = some (setO0 w) := Heap.get?_push_size _ rfl
    have typS : Shared.TypeIs { s with heap := s.heap.push (setO0 w) } (.ref s.heap.objs.size) "set" := ⟨_, atS, rfl⟩
    have ilook := F.called_set.init.lookup
    have ibind := F.called_set.init.bind (.ref s.heap.objs.size)
    repeat any_goals first | assumption | wp_step
    refine codeAny_mono (codeAny_call_builtin (R := wants (fun r s₂ => r = .none ∧ ∃ h' tk m, s₂ = { s with heap := h', toks := tk } ∧ SetR w h' s.heap.objs.size (fun j => decide (j ∈ ns)) m ∧ m ≤ ns.length ∧
        ∀ b o, s.heap.get? b = some o → h'.get? b = some o) E) F.called_set.init.plain F.entry_set_init (check_set_init_1 typS ?_)) fun r₂ s₂ hr₂ => ?_
    · obtain ⟨ol, hol, hcl, nl, hdl⟩ := hl
      obtain ⟨ocls, odict, odata, oslots⟩ := ol
      simp only at hcl hdl
      subst hcl
      subst hdl
      have hol' : (s.heap.push (setO0 w)).get? l = some { cls := .type "list", dict := odict, data := .seq its nl, slots := oslots } := Heap.get?_push_of_some _ hol
      have s1 := F.sub_list_set
      have s2 := F.sub_list_frozenset
      have s3 : (Value.type "list" == Value.type "dict") = false := by decide
      have isL : (s.heap.push (setO0 w)).IsList l its := ⟨_, hol', rfl, nl, rfl⟩
      unfold Builtin.«set.__init__» noKeywords Builtin.Frozenset.updateFrom
      generalize hPI : pyIter = PI
      wp_walk
      subst hPI
      refine wpAny_pyIter_list isL (wpAny_bind (wpAny_runValue ?_))
      have ltl : l < s.heap.objs.size := Heap.lt_size hol
      have sz1 : (s.heap.push (setO0 w)).objs.size = s.heap.objs.size + 1 := Heap.size_push ..
      have h3 : A.in1.in1.in1.handled = none := hh
      have neI : l ≠ (s.heap.push (setO0 w)).objs.size := Nat.ne_of_lt (by rw [sz1]; exact Nat.lt_succ_of_lt ltl)
      have nof : s.heap.objs.size ∉ [(s.heap.push (setO0 w)).objs.size, l] := by
        intro z
        rcases List.mem_cons.mp z with z | z
        · exact absurd z (Nat.ne_of_lt (by rw [sz1]; exact Nat.lt_succ_self _))
        · exact absurd (List.mem_singleton.mp z) (Nat.ne_of_gt ltl)
      have vals : ∀ (i : Nat) (v : Value), its[i]? = some v → ∃ k t, ns[i]? = some k ∧ v = .int k t := by
        intro i v hv
        have lt : i < ns.length := size ▸ (Array.getElem?_eq_some_iff.mp hv).1
        obtain ⟨t, e⟩ := IntsAre.int_at hi i v (by rw [Array.getElem?_toList]; exact hv)
        refine ⟨ns[i], t, List.getElem?_eq_getElem lt, e.trans ?_⟩
        rw [List.getD_eq_getElem?_getD, List.getElem?_eq_getElem lt, Option.getD_some]
      refine set_update_ints ((Walks.list h3 _ l neI its).toS) s.heap.objs.size nof ns size hb vals (its.size - 0) 0 _ (by omega) (Nat.zero_le _) ⟨⟨_, Heap.get?_push_size _ rfl, rfl, rfl⟩, isL.push _⟩
        ⟨0, Nat.le_refl 0, setR_new_at (Heap.get?_push_of_some _ atS)⟩ ?_
      rintro ⟨h', g2, d', tk', os'⟩ m moved hm hS
      obtain rfl : g2 = s.gens := moved.gens
      obtain rfl : d' = s.drawn := moved.drawn
      obtain rfl : os' = s.os := moved.os
      show wpAny _ _ _ _ _ _
      refine wpAny_pure ?_
      show wpAny _ _ (ret Value.none) _ _ _
      refine wpAny_pure ⟨rfl, h', tk', m, rfl, hS, size ▸ hm, fun b o e => moved.heap b o (fun z => ?_) (Heap.get?_push_of_some _ (Heap.get?_push_of_some _ e))⟩
      have lt := Heap.lt_size e
      rcases List.mem_cons.mp z with z | z
      · exact absurd z (Nat.ne_of_lt lt)
      · exact absurd (List.mem_singleton.mp z) (Nat.ne_of_lt (by rw [sz1]; exact Nat.lt_succ_of_lt lt))
    · match r₂, hr₂ with
      | .error _, hr₂ => exact hr₂
      | .ok .next, hr₂ => exact hr₂.elim
      | .ok .brk, hr₂ => exact hr₂.elim
      | .ok .cont, hr₂ => exact hr₂.elim
      | .ok (.ret r), ⟨e1, h', tk, m, e2, hS, hm, kp⟩ =>
        subst e1
        subst e2
        repeat any_goals first | assumption | wp_step
        exact h _ _ _ hS hm kp
end
section
variable {X : Cx}
/-- set(xs), ints -/
def rSetL (K : PySem.W.Frag) (w : World) : List V → Hp → VK → Prop := fun vs H Q => ∃ (a : Addr) (ns : List Int), vs = [V.ref a] ∧ SqL K H a (ns.map V.int) ∧ ns.length ≤ 1000 ∧
  ∀ (p : Addr) (m : Nat), H p = none → m ≤ ns.length → Q (.ref p) (upd H p (SetO w p (fun j => decide (j ∈ ns)) m))
theorem cr_setL (hc : X.calm = true) : CallR X (.type "set") (rSetL X.K X.w) := by
  intro pins s σ H vs us Q I r h
  obtain ⟨a, ns, rfl, ha, hz, q⟩ := h
  obtain ⟨its, rv, pl, _⟩ := I.list ha
  rw [Vals.ref1 r]
  refine callSetL ns (I.ok.hd hc) pl.isList rv.ints (by unfold scanBound; omega) fun h' tk m R hm kp => ?_
  exact ⟨.ref s.heap.objs.size, _, I.laid kp (Nat.le_refl _) (setO_new R), rfl, q _ m I.fresh hm⟩
/-- sorted(xs), a set of ints -/
def rSortSet (w : World) : List V → Hp → VK → Prop := fun vs H Q => ∃ (a : Addr) (S : Int → Bool) (m : Nat), vs = [V.ref a] ∧ H a = some (SetO w a S m) ∧ m ≤ 1000 ∧
  ∀ (ks : List Int) (p : Addr), ks.Pairwise (· < ·) → (∀ k : Int, k ∈ ks ↔ S k = true) → H p = none → Q (.ref p) (upd H p (.lst (ks.map V.int)))
theorem cr_sortSet (hc : X.calm = true) : CallR X (.builtin "sorted") (rSortSet X.w) := by
  intro pins s σ H vs us Q I r h
  obtain ⟨a, S, m, rfl, ha, hm, q⟩ := h
  rw [Vals.ref1 r]
  refine sortedSetN (setO_get I ha) (I.ok.hd hc) (Nat.le_of_lt (small1000 hm)) fun s' p zs c ks kp go lp hp hi asc mem len => ?_
  have fr : H p = none := I.hok.fresh lp
  have hlen : (ks.map V.int).length ≤ sizeLine := by
    rw [List.length_map, len]
    exact Nat.le_of_lt (small1000 hm)
  have J : Inv X pins σ (upd H p (.lst (ks.map V.int))) { s with heap := s'.heap, gens := s'.gens, drawn := s'.drawn, toks := s'.toks } :=
    I.call (ch := []) (Un.laid kp lp fr) (I.hok.laid kp lp ⟨hlen, zs.toList, c, vals_of_ints hi, hp⟩) (by rw [go.1]; exact I.bare) (fun _ z => nomatch z)
  have e : s' = { s with heap := s'.heap, gens := s'.gens, drawn := s'.drawn, toks := s'.toks } := by
    obtain ⟨_, o⟩ := go
    cases s'
    cases s
    cases o
    rfl
  rw [e]
  exact ⟨.ref p, _, J, rfl, q ks p asc mem fr⟩
end
end Gd

set_option Elab.async false
set_option linter.all false
set_option maxRecDepth 100000
/-! Data that repr shows within the line. -/
namespace Gd
open PySem PySem.Spec PyProof.Rows L2
mutual
def cost : PyData → Nat
  | .none => 4
  | .bool _ => 5
  | .int _ => 1921
  | .str x => (reprText x).length
  | .list xs => costAll xs + 3
  | .tuple xs => costAll xs + 3
  | .dict _ => 0
def costAll : List PyData → Nat
  | [] => 0
  | x :: xs => cost x + 2 + costAll xs
end
theorem lensAll : ∀ xs : List PyData, (PyData.shownAll xs).length = xs.length
  | [] => by simp [PyData.shownAll]
  | x :: xs => by simp [PyData.shownAll, lensAll xs]
mutual
theorem shown_cost : ∀ d : PyData, d.showable = true → d.hasDict = false → d.shown.length ≤ cost d
  | .none, _, _ => by simp only [PyData.shown, cost]; decide +kernel
  | .bool b, _, _ => by
    simp only [PyData.shown, cost]
    cases b <;> decide +kernel
  | .int i, h, _ => by
    have h1 : i.natAbs.log2 < 1920 := by simpa [PyData.showable] using h
    simp only [PyData.shown, cost]
    have h2 := int_text_length_le (a := i) (by decide) h1
    show (Str.ofString (toString i)).length ≤ 1921
    rw [PySem.ofString_length]
    exact h2
  | .str x, _, _ => by simp only [PyData.shown, cost]; exact Nat.le_refl _
  | .list xs, h, g => by
    have e := shownAll_cost xs (by simpa [PyData.showable] using h) (by simpa [PyData.hasDict] using g)
    have e2 := listText_len_le (PyData.shownAll xs)
    rw [lensAll] at e2
    simp only [PyData.shown, cost]
    omega
  | .tuple xs, h, g => by
    have e := shownAll_cost xs (by simpa [PyData.showable] using h) (by simpa [PyData.hasDict] using g)
    have e2 := tupleText_len_le (PyData.shownAll xs)
    rw [lensAll] at e2
    simp only [PyData.shown, cost]
    omega
  | .dict _, _, g => by simp [PyData.hasDict] at g
theorem shownAll_cost : ∀ xs : List PyData, PyData.showableAll xs = true → PyData.hasDictAll xs = false → ((PyData.shownAll xs).map (·.length)).sum + 2 * xs.length ≤ costAll xs
  | [], _, _ => by simp [PyData.shownAll, costAll]
  | x :: xs, h, g => by
    have h' : x.showable = true ∧ PyData.showableAll xs = true := by simpa [PyData.showableAll] using h
    have g' : x.hasDict = false ∧ PyData.hasDictAll xs = false := by simpa [PyData.hasDictAll] using g
    have e1 := shown_cost x h'.1 g'.1
    have e2 := shownAll_cost xs h'.2 g'.2
    simp only [PyData.shownAll, costAll, List.map_cons, List.sum_cons, List.length_cons]
    omega
end
/-- what repr takes -/
structure OkD (d : PyData) (n : Nat) : Prop where
  sh : d.showable = true
  nd : d.hasDict = false
  dp : d.depth ≤ 20
  co : cost d ≤ n
theorem OkD.len {d : PyData} {n : Nat} (h : OkD d n) (hn : n ≤ sizeLine) : d.shown.length ≤ sizeLine := Nat.le_trans (shown_cost d h.sh h.nd) (Nat.le_trans h.co hn)
/-- items of depth k at most, n in all -/
structure OkA (ds : List PyData) (k n : Nat) : Prop where
  sh : PyData.showableAll ds = true
  nd : PyData.hasDictAll ds = false
  dp : PyData.depthAll ds ≤ k
  co : costAll ds ≤ n
theorem okA_nil (k : Nat) : OkA [] k 0 := ⟨by simp [PyData.showableAll], by simp [PyData.hasDictAll], by simp [PyData.depthAll], by simp [costAll]⟩
theorem okA_cons {d : PyData} {ds : List PyData} {k n m : Nat} (h : OkA [d] k n) (t : OkA ds k m) : OkA (d :: ds) k (n + m) := by
  have h1 : d.showable = true := by simpa [PyData.showableAll] using h.sh
  have h2 : d.hasDict = false := by simpa [PyData.hasDictAll] using h.nd
  have h3 : d.depth ≤ k := by simpa [PyData.depthAll] using h.dp
  have h4 : cost d + 2 ≤ n := by simpa [costAll] using h.co
  have t3 := t.dp
  have t4 := t.co
  refine ⟨by simp [PyData.showableAll, h1, t.sh], by simp [PyData.hasDictAll, h2, t.nd], ?_, ?_⟩
  · simp only [PyData.depthAll]
    omega
  · simp only [costAll]
    omega
theorem okA_int {i : Int} {k b : Nat} (h : i.natAbs < 2 ^ b) (h0 : 0 < b) (hb : b ≤ 1920) : OkA [.int i] k 1923 := by
  have h1 : i.natAbs.log2 < 1920 := Nat.lt_of_lt_of_le (PySem.Flt.log2_lt_of h0 h) hb
  refine ⟨?_, by simp [PyData.hasDictAll, PyData.hasDict], by simp [PyData.depthAll, PyData.depth], by simp [costAll, cost]⟩
  simp only [PyData.showableAll, PyData.showable, Bool.and_true]
  exact decide_eq_true h1
theorem okA_bool {b : Bool} {k : Nat} : OkA [.bool b] k 7 := ⟨by simp [PyData.showableAll, PyData.showable], by simp [PyData.hasDictAll, PyData.hasDict], by simp [PyData.depthAll, PyData.depth], by simp [costAll, cost]⟩
theorem okA_tup {ds : List PyData} {k n : Nat} (h : OkA ds k n) : OkA [.tuple ds] (k + 1) (n + 5) := by
  have h3 := h.dp
  have h4 := h.co
  refine ⟨by simp [PyData.showableAll, PyData.showable, h.sh], by simp [PyData.hasDictAll, PyData.hasDict, h.nd], ?_, ?_⟩
  · simp only [PyData.depthAll, PyData.depth]
    omega
  · simp only [costAll, cost]
    omega
theorem okD_list {ds : List PyData} {k n m : Nat} (h : OkA ds k n) (hk : k ≤ 19) (hm : n + 3 ≤ m) : OkD (.list ds) m := by
  have h3 := h.dp
  have h4 := h.co
  refine ⟨by simp [PyData.showable, h.sh], by simp [PyData.hasDict, h.nd], ?_, ?_⟩
  · simp only [PyData.depth]
    omega
  · simp only [cost]
    omega
theorem OkA.mono {ds : List PyData} {k n k' n' : Nat} (h : OkA ds k n) (hk : k ≤ k') (hn : n ≤ n') : OkA ds k' n' := ⟨h.sh, h.nd, Nat.le_trans h.dp hk, Nat.le_trans h.co hn⟩
theorem okA_ints {b : Nat} (h0 : 0 < b) (hb : b ≤ 1920) : ∀ {ns : List Int}, (∀ i ∈ ns, i.natAbs < 2 ^ b) → OkA (ns.map PyData.int) 0 (1923 * ns.length)
  | [], _ => okA_nil 0
  | i :: ns, h => by
    have e := okA_cons (okA_int (k := 0) (h i List.mem_cons_self) h0 hb) (okA_ints h0 hb fun j hj => h j (List.mem_cons_of_mem _ hj))
    refine e.mono (Nat.le_refl _) ?_
    rw [List.length_cons]
    omega
end Gd

set_option Elab.async false
set_option linter.all false
set_option maxRecDepth 100000
set_option maxHeartbeats 4000000
/-! Words that lacked: the sum of a tuple, a tuple once, the list of a range with a step. -/
namespace Gd
open PySem PySem.Spec PyProof.Rows L2
section
variable {prog : Program} {w : World} {A : Around} {E : Value → Shared → Prop} {s : Shared} {l : Addr} {xs : Array (Int × Tok)}
theorem sum_tupG {Q : Value → Shared → Prop} (hh : A.handled = none) (hl : s.heap.IsTuple l (intItems xs)) (hlt : l < s.heap.objs.size)
    (h : ∀ h' tk t', (∀ b o, s.heap.get? b = some o → h'.get? b = some o) → Q (.int (preSum (numAt xs) xs.size) t') { s with heap := h', toks := tk }) :
    wpAny (model prog w) A (call (.builtin "sum") [.ref l]) Q E s := by
  refine call_sum_walkG (wpAny_pyIter_tuple hl ?_)
  refine ⟨_, [_, l], [_], _, _, _, numAt xs, rfl, Walks.tuple (A := A.in1) hh _ l (Nat.ne_of_lt hlt) (intItems xs), ⟨⟨_, Heap.get?_push_size _ rfl, rfl, rfl⟩, hl.push _⟩, fun c hc => ?_, (fun _ _ => intItems_at), fun h' tk t' hk => ?_⟩
  · show c < (s.heap.push _).objs.size
    rw [Heap.size_push]
    rcases List.mem_cons.mp hc with rfl | hc
    · exact Nat.lt_succ_self _
    · rcases List.mem_cons.mp hc with rfl | hc
      · exact Nat.lt_succ_of_lt hlt
      · cases hc
  · have hold : ∀ c o, s.heap.get? c = some o → h'.get? c = some o := fun c o e => by
      refine hk c o (fun hm => ?_) (Heap.get?_push_of_some _ e)
      rcases List.mem_cons.mp hm with e1 | hm
      · have := Heap.lt_size e; rw [e1] at this; exact Nat.lt_irrefl _ this
      · cases hm
    have := h h' tk t' hold
    simpa [intItems] using this
end
section
variable {X : Cx}
/-- sum(xs) of a tuple of ints -/
def rSumT (K : PySem.W.Frag) : List V → Hp → VK → Prop := fun vs H Q => ∃ (a : Addr) (ns : List Int), vs = [V.ref a] ∧ SqT K H a (ns.map V.int) ∧ Q (.int ns.sum) H
theorem cr_sumT (hc : X.calm = true) : CallR X (.builtin "sum") (rSumT X.K) := by
  intro pins s σ H vs us Q I r h
  obtain ⟨a, ns, rfl, hs, q⟩ := h
  obtain ⟨its, rv, hl, _⟩ := I.tuple hs
  rw [Vals.ref1 r]
  have hi := rv.ints
  obtain ⟨xs, e⟩ := hi.allInts.items
  have hn : numsOf (intItems xs).toList = ns := by rw [← e]; exact hi.numsOf
  rw [nums_intItems] at hn
  have hlt : a < s.heap.objs.size := by
    obtain ⟨o, ho, _⟩ := hl
    exact Heap.lt_size ho
  rw [e] at hl
  refine sum_tupG (I.ok.hd hc) hl hlt fun h' tk t' hk => ?_
  rw [preSum_eq, List.take_of_length_le (by simp), hn]
  exact ⟨.int _, H, I.kept hk, ⟨_, rfl⟩, q⟩
theorem tuple_mul1 (l : Addr) (items : Array Value) (n : Nat) (dd : Option Addr) (sl : Array (Option Value)) (u : Tok) :
    Meets (Builtin.«tuple.__mul__» ⟨[.ref l, .int 1 u], []⟩) (fun _ R s => s.heap.get? l = some { cls := .type "tuple", dict := dd, data := .seq items n, slots := sl } ∧
      R (.ok (.ret (Value.ref l))) s) :=
  .of_wp fun prog w A R s h => by
    obtain ⟨hp, g, d, tk, os⟩ := s
    obtain ⟨hl, h⟩ := h
    have f1 := AutoSeq1.idx_int
    have c0 : (decide ((1 : Int) < -(2 ^ 63)) || decide ((1 : Int) ≥ 2 ^ 63)) = false := by decide
    have c1 : (items.isEmpty || (1 : Int) == 1) = true := by rw [Bool.or_comm]; rfl
    wp_walk using wpAny_loadPart' hl
    repeat (first
      | (refine wpAny_ite_false (decide_eq_false (by rw [c0]; exact Bool.false_ne_true)) ?_; wp_walk using wpAny_loadPart' hl)
      | (refine wpAny_ite_true (decide_eq_true (by rw [c1])) ?_; wp_walk using wpAny_loadPart' hl))
    exact ⟨_, rfl, h⟩
/-- tuple * k, k at least 1, of a tuple that is followed -/
def rRepP : R2 := fun x y H Q => ∃ l k xs, x = .ref l ∧ y = .int k ∧ H l = some (.tup xs) ∧ xs ≠ [] ∧ 1 ≤ k ∧ k ≤ 1000 ∧ xs.length ≤ 1000 ∧ ∀ p H', Same H H' → H' p = some (.tup (List.replicate k.toNat xs).flatten) → Q (.ref p) H'
theorem op_repP : OpR X (binaryOp .Mult) rRepP := by
  intro pins s σ H x y v u Q I rx ry h
  obtain ⟨l, k, xs, rfl, rfl, hT, hne, h1, h2, hz, q⟩ := h
  by_cases hk : k = 1
  · subst hk
    cases rx
    obtain ⟨t, rfl⟩ := ry
    obtain ⟨its, r, ⟨⟨cls, dd, data, sl⟩, ho, hc, n, hd⟩, hs⟩ := I.tuple (.inl (.inl hT))
    simp only at hc hd
    subst hc hd
    refine wpAny_binaryOp_repeat_ref (T := "tuple") (U := "int") (by decide) ⟨_, ho, rfl⟩ (fun s' => typeIs_int s' 1 t) noFill_tuple_mul F.fills_int_mul F.slot_int_rmul repeat_tuple F.slot_int_index.lookup
      (call_meets F.slot_int_rmul (typeIs_int s 1 t) F.entry_int_rmul (F.args_int_rmul_2 _ _) (int_rmul_tuple 1 t l its.toArray n dd sl)
        ⟨ho, rfl, ⟨_, ho, rfl⟩, call_meets F.slot_tuple_mul ⟨_, ho, rfl⟩ F.entry_tuple_mul (F.args_tuple_mul_2 _ _) (tuple_mul1 l its.toArray n dd sl t) ⟨ho, ?_⟩⟩)
    refine ⟨.ref l, H, I, rfl, q _ _ (Same.refl _) ?_⟩
    rw [hT]
    show _ = some (HO.tup (List.replicate 1 xs).flatten)
    rw [List.replicate_one, List.flatten_singleton]
  · exact op_repT pins s σ H _ _ v u Q I rx ry ⟨l, k, xs, rfl, rfl, .inl (.inl hT), hne, by omega, h2, hz, fun p hp => q p _ (same_new hp) upd_same⟩
/-- list(range(a, b, c)) -/
def tLstRg3 (ta : TA) : TE := fun σ H Q => ta σ H fun vs H1 => ∃ (i j c : Int) (n : Nat), vs = [.int i, .int j, .int c] ∧ RgC i j c n ∧ n ≤ 16777216 ∧ ∀ q, H1 q = none → Q (.ref q) (upd H1 q (.lst ((List.range n).map fun k => V.int (i + (k : Nat) * c))))
theorem vals_rg3 {a c : Int} {n : Nat} {acc : Array Value} (h : ItemsOf (fun i v => ∃ t, v = .int (a + i * c) t) acc n) : Vals ((List.range n).map fun k => V.int (a + (k : Nat) * c)) acc.toList := by
  have e : acc.toList.length = n := by rw [Array.length_toList]; exact h.1
  rw [← e]
  refine vals_of_get acc.toList _ fun j u hj => ?_
  obtain ⟨t, rfl⟩ := h.2 j u (by rw [← hj, Array.getElem?_toList])
  exact ⟨t, rfl⟩
theorem pe_listRg3 {a b c : Expr} {ta : TA} {p pos p2 pos2 : Pos} (hc : X.calm = true) (hg : Gl X "list") (hm : X.mg "list" = none) (hg2 : Gl X "range") (hm2 : X.mg "range" = none) (ha : PA X [a, b, c] ta)
    (hs : starEach [a, b, c] X.env = (false, eval a X.env) :: starEach [b, c] X.env := by rfl) (hpl : (backTo pos2 (starEach [b, c] X.env)).any (·.1) = false := by rfl)
    (na : starEach [Expr.Call (.Name "range" p2) [a, b, c] [] pos2] X.env = (false, eval (Expr.Call (.Name "range" p2) [a, b, c] [] pos2) X.env) :: starEach [] X.env := by rfl) :
    PE X (.Call (.Name "list" p) [.Call (.Name "range" p2) [a, b, c] [] pos2] [] pos) (tLstRg3 ta) := by
  refine ⟨fun pins s σ H Q I h => ?_⟩
  refine Call_ (ld_blt I hg hm boot_list (PyProof.Rows.callWith_type1 (args_cons (Call_ (ld_blt I hg2 hm2 boot_range (PyProof.Rows.callWith_type1 (thn (ha.run pos2 pins s σ H _ I h) fun us s1 ⟨vs, H1, I1, r1, q1⟩ => ?_) hs hpl))) na) na))
  obtain ⟨i, j, k, n, e, ⟨c0, c1, c2, c3⟩, hn, q⟩ := q1
  subst e
  cases r1 with
  | cons r rr =>
    cases rr with
    | cons r' rr =>
      cases rr with
      | cons r'' rr =>
        cases rr
        obtain ⟨t, rfl⟩ := r
        obtain ⟨t', rfl⟩ := r'
        obtain ⟨t'', rfl⟩ := r''
        refine call_range_3 c0 ?_ (.inl (PyProof.noPylong_small c1))
        refine args_nil ?_
        have I2 : Inv X pins σ H1 { s1 with heap := s1.heap.push { cls := .type "range", data := .fields #[.int i t, .int j t', .int k t''] } } := I1.kept (t' := s1.toks) fun b o e => Heap.get?_push_of_some _ e
        refine call_list_range (n := n) (I2.ok.hd hc) (IsRange.new _ _ _ _ _ _ _) c2 c3 (by omega) fun h' tk acc c' hk e' hi => ?_
        refine ⟨.ref _, upd H1 _ (.lst ((List.range n).map fun m => V.int (i + (m : Nat) * k))), I2.laid hk (Nat.le_refl _) (show ObjOk X.prog X.w _ _ _ (.lst _) from ⟨?_, acc.toList, c', vals_rg3 hi, ?_⟩), rfl, q _ (I2.hok.fresh (Nat.le_refl _))⟩
        · rw [List.length_map, List.length_range, sizeLine_eq]; omega
        · rw [Array.toArray_toList]; exact e'
end
end Gd

set_option Elab.async false
set_option linter.all false
set_option maxRecDepth 100000
set_option maxHeartbeats 4000000
/-! enumerate of a tuple. -/
namespace Gd
open PySem PySem.Spec PyProof.Rows L2
/-- the object that enumerate makes over the tuple's iterator at i -/
def enO (i : Addr) : Obj := { cls := .type "enumerate", data := .fields #[.none, .bool false, .ref i, rawInt 0, .none, .none] }
def tiO (l : Addr) : Obj := { cls := .type "tuple_iterator", data := .fields #[.ref l, .int 0 0] }
theorem meets_enT (l : Addr) (its : Array Value) :
    Meets (Builtin.«enumerate.__new__» ⟨[.type "enumerate", .ref l], []⟩) (fun _ R s => s.heap.IsTuple l its ∧
      R (.ok (.ret (.ref (s.heap.push (tiO l)).objs.size))) { s with heap := (s.heap.push (tiO l)).push (enO s.heap.objs.size) }) :=
  .of_wp fun prog w A R s h => by
    obtain ⟨hp, g, d, tk, os⟩ := s
    obtain ⟨hT, h⟩ := h
    have hsub := sub_enumerate
    obtain ⟨o, ho, hc, nd⟩ := hT
    have hT : Heap.IsTuple (Shared.heap ⟨hp, g, d, tk, os⟩) l its := ⟨o, ho, hc, nd⟩
    obtain ⟨c0, d0, t0, s0⟩ := o
    simp only at hc
    subst hc
    wp_walk using wpAny_loadPart' ho
    refine wpAny_stack_any fun z => wpAny_pure ?_
    split
    · rename_i y _ _ _ _ _
      cases (y == Value.type "enumerate") <;> (wp_walk using wpAny_loadPart' ho, wpAny_pyIter_tuple hT; exact ⟨_, rfl, h⟩)
    · wp_walk using wpAny_loadPart' ho, wpAny_pyIter_tuple hT
      exact ⟨_, rfl, h⟩
section
variable {prog : Program} {w : World} {A : Around} {E : Value → Shared → Prop} {s : Shared}
theorem call_enT {l : Addr} {its : Array Value} {Q : Value → Shared → Prop} (hT : s.heap.IsTuple l its)
    (h : IsEnum ((s.heap.push (tiO l)).push (enO s.heap.objs.size)) (s.heap.objs.size + 1) s.heap.objs.size 0 .none → Q (.ref (s.heap.objs.size + 1)) { s with heap := (s.heap.push (tiO l)).push (enO s.heap.objs.size) }) :
    wpAny (model prog w) A (call (.type "enumerate") [.ref l]) Q E s := by
  refine callType_new F.called_enumerate (by decide) (F.typeCall_enumerate_1 _) (F.newCall_enumerate_1 _) (fun z => F.args_object_init_2 z _) F.entry_enumerate_new (meets_enT l its) ⟨hT, ?_⟩
  have hz : (s.heap.push (tiO l)).objs.size = s.heap.objs.size + 1 := Heap.size_push ..
  show _ ∧ _
  rw [hz]
  have e : IsEnum ((s.heap.push (tiO l)).push (enO s.heap.objs.size)) (s.heap.objs.size + 1) s.heap.objs.size 0 .none := by
    have q := Heap.get?_push_size (s.heap.push (tiO l)) (o := enO s.heap.objs.size) rfl
    rw [hz] at q
    exact q
  exact ⟨⟨_, e, rfl⟩, h e⟩
end
/-- the tuple at a, each item with its number in a new pair -/
def IteT (K : PySem.W.Frag) (a : Addr) : It where
  go i H := ∃ xs : List V, SqT K H a xs ∧ i < xs.length
  yld i H v H' := ∃ T x, v = .ref T ∧ H T = none ∧ H' = upd H T (.tup [.int (i : Nat), x]) ∧ ∀ xs, SqT K H a xs → xs[i]? = some x
  stop i H := ∃ xs : List V, SqT K H a xs ∧ xs.length = i
/-- how it stands ahead of the turn i -/
structure EnT (a e j : Addr) (i : Nat) (h : Heap) : Prop where
  en : ∃ old, IsEnum h e j ((i : Nat) : Int) old
  it : h.IsTupleIter j a i
  ne : e ≠ j
  na : a ≠ j
theorem turn_enT {P : Program} {w : World} {K : PySem.W.Frag} {es : List Expr} {n : Nat} {pos : Pos} (a e j : Addr) : Turn P w K (.Tuple es n pos) (IteT K a) [e, j] e (EnT a e j) where
  mem := List.mem_cons_self
  obj i h st b hb := by
    obtain ⟨⟨old, he⟩, ⟨o, ho, hc, hd⟩, _⟩ := st
    rcases List.mem_cons.mp hb with z | z
    · subst z
      exact ⟨_, he, fun v q => nomatch q⟩
    · rw [List.mem_singleton.mp z]
      exact ⟨o, ho, fun v q => by rw [hd] at q; cases q⟩
  keep i h h' st k := by
    obtain ⟨⟨old, he⟩, hi, n1, n2⟩ := st
    exact ⟨⟨old, k e List.mem_cons_self _ he⟩, hi.at fun o q => k j (List.mem_cons_of_mem _ List.mem_cons_self) o q, n1, n2⟩
  item := by
    intro X hP hw hK hc i pins s σ H E I hf st hg
    subst hP hw hK
    obtain ⟨⟨old, he⟩, hit, n1, n2⟩ := st
    obtain ⟨xs, hq, hx⟩ := hg
    obtain ⟨its, rv, p, hz⟩ := I.tuple hq
    have hl := rv.length
    have nea : e ≠ a := fun z => by
      obtain ⟨o, ho, hco, _⟩ := p
      rw [← z, he] at ho
      cases ho
      injection hco with hco
      exact absurd hco (by decide)
    have hel : e < s.heap.objs.size := Heap.lt_size he
    have hjl : j < s.heap.objs.size := by
      obtain ⟨_, q, _⟩ := hit
      exact Heap.lt_size q
    have hfp : e ∉ [j, a] := by
      intro z
      rcases List.mem_cons.mp z with z | z
      · exact n1 z
      · exact nea (List.mem_singleton.mp z)
    refine wpAny_pyNext_enum_itemC (Draws.tuple (A := X.A.in1) (I.ok.hd hc) j a n2 its.toArray) he ⟨hit, p⟩ (by rw [List.size_toArray]; omega) n1 hfp fun u h' tk hu ho st2 hT hsz hk => ?_
    have hgx : xs[i]? = some xs[i] := List.getElem?_eq_getElem hx
    obtain ⟨u2, hu2, ru⟩ := rv.get hgx
    have eu : u = u2 := by
      have : its[i]? = some u := by simpa using hu
      exact Option.some.inj (this.symm.trans hu2)
    subst eu
    refine ⟨_, rfl, wpAny_letOwnedTupleGo_enum (s := { s with heap := h', toks := tk + 1 }) ho fun h2 he2 sb => ?_⟩
    have hT2 : h2.get? s.heap.objs.size = some { cls := .type "tuple", data := .seq #[.int i tk, u] } := (sb.2 _ (Nat.ne_of_gt hel)).trans hT
    have ok : ObjOk X.prog X.w (upd H s.heap.objs.size (.tup [.int (i : Nat), xs[i]])) h2 s.heap.objs.size (.tup [.int (i : Nat), xs[i]]) :=
      ⟨(by show 2 ≤ sizeLine; decide), [.int i tk, u], .cons ⟨tk, rfl⟩ (.cons ru .nil), ⟨_, hT2, rfl, _, rfl⟩⟩
    have I1 : Inv X pins σ (upd H s.heap.objs.size (.tup [.int (i : Nat), xs[i]])) { s with heap := h2, toks := tk + 1 } :=
      I.turnedNew (ch := [e, j]) (fun b ob hb q => (sb.2 b fun z => hb (z ▸ List.mem_cons_self)).trans (hk b ob (fun z => hb (z ▸ List.mem_cons_self)) (fun z => hb (z ▸ List.mem_cons_of_mem _ List.mem_cons_self)) q)) hf (Nat.le_refl _) ok
    refine ⟨.ref s.heap.objs.size, _, I1, rfl, ⟨_, xs[i], rfl, I.hok.fresh (Nat.le_refl _), rfl, fun ys hy => by rw [I.tuple_inj hy hq]; exact hgx⟩, ⟨⟨u, he2⟩, st2.1.at fun o q => (sb.2 j n1.symm).trans q, n1, n2⟩, fun b hb => ?_⟩
    have hbl : b < s.heap.objs.size := by
      rcases List.mem_cons.mp hb with z | z
      · rw [z]
        exact hel
      · rw [List.mem_singleton.mp z]
        exact hjl
    rw [upd_ne (Nat.ne_of_lt hbl)]
    exact (hf b hb).1
  done := by
    intro X hP hw hK hc i pins s σ H E I hf st hg
    subst hP hw hK
    obtain ⟨⟨old, he⟩, hit, n1, n2⟩ := st
    obtain ⟨xs, hq, rfl⟩ := hg
    obtain ⟨its, rv, p, hz⟩ := I.tuple hq
    obtain ⟨f0, f1, f2, f3, f4, f5⟩ := hf j (List.mem_cons_of_mem _ List.mem_cons_self)
    have hl := rv.length
    have es : its.toArray.size = xs.length := by rw [List.size_toArray]; omega
    exact wpAny_pyNext_enum_endD (Draws.tuple (A := X.A.in1) (I.ok.hd hc) j a n2 its.toArray) he ⟨es ▸ hit, p⟩ fun h' eb => ⟨rfl, I.turned (t' := s.toks) (fun b o hb q => eb b o hb q) f0 f1 f3 f4 f5⟩
  self A i s Q E st h := by
    obtain ⟨⟨_, he⟩, _⟩ := st
    exact wpAny_pyIter_enum he h
def iEnT (K : PySem.W.Frag) (ta : TA) : TI := fun σ H R => ta σ H fun vs H1 => ∃ a xs, vs = [.ref a] ∧ SqT K H1 a xs ∧ R (IteT K a) H1
theorem pi_enT {X : Cx} {e : Expr} {ta : TA} {p pos q : Pos} {es : List Expr} {n : Nat} (hg : Gl X "enumerate") (hm : X.mg "enumerate" = none) (ha : PA X [e] ta) (hs : starEach [e] X.env = [(false, eval e X.env)] := by rfl) :
    PI X (.Tuple es n q) (.Call (.Name "enumerate" p) [e] [] pos) (iEnT X.K ta) := by
  constructor
  intro pins s σ H R I h
  refine Call_ (ld_blt I hg hm boot_enumerate (PyProof.Rows.callWith_type1 (thn (ha.run pos pins s σ H _ I h) fun us s1 ⟨vs, H1, I1, r1, q1⟩ => ?_) hs rfl))
  obtain ⟨a, xs, ex, hq, q⟩ := q1
  subst ex
  cases r1 with
  | cons r rr =>
    cases rr
    cases r
    obtain ⟨its, rv, pt, hz⟩ := I1.tuple hq
    have hal : a < s1.heap.objs.size := by
      obtain ⟨o, ho, _⟩ := pt
      exact Heap.lt_size ho
    refine call_enT pt fun he => wpAny_pyIter_enum he ?_
    have k : ∀ b o, s1.heap.get? b = some o → ((s1.heap.push (tiO a)).push (enO s1.heap.objs.size)).get? b = some o := fun b o z => Heap.get?_push_of_some _ (Heap.get?_push_of_some _ z)
    have I2 : Inv X pins σ H1 { s1 with heap := (s1.heap.push (tiO a)).push (enO s1.heap.objs.size) } := I1.kept (t' := s1.toks) k
    refine ⟨s1.heap.objs.size + 1, [s1.heap.objs.size + 1, s1.heap.objs.size], _, _, H1, rfl, I2, turn_enT a (s1.heap.objs.size + 1) s1.heap.objs.size,
      ⟨⟨.none, he⟩, ⟨_, Heap.get?_push_of_some _ (Heap.get?_push_size _ rfl), rfl, rfl⟩, Nat.succ_ne_self _, Nat.ne_of_lt hal⟩, fun b hb => ?_, q⟩
    have le : s1.heap.objs.size ≤ b := by
      rcases List.mem_cons.mp hb with z | z
      · rw [z]
        exact Nat.le_succ _
      · rw [List.mem_singleton.mp z]
        exact Nat.le_refl _
    exact I1.fpOk le (I1.hok.fresh le)
theorem walk_enT {K : PySem.W.Frag} {a : Addr} {xs : List V} : Walk (IteT K a) xs.length (fun H => SqT K H a xs) (YPair (fun i => some (.int (i : Nat))) fun i => xs[i]?) := by
  refine ⟨fun i _ hi q => ⟨xs, q, hi⟩, fun _ q => ⟨xs, q, rfl⟩, fun i H v H' _ q y => ?_⟩
  obtain ⟨T, x, h1, h2, h3, h4⟩ := y
  exact ⟨T, .int (i : Nat), x, h1, h2, h3, rfl, h4 xs q⟩
end Gd

set_option Elab.async false
set_option linter.all false
/-! Two tuples at once. -/
namespace Gd
open PySem PySem.Spec PyProof.Rows L2 RZ
theorem walk_zT {K : PySem.W.Frag} {a b : Addr} {xs ys : List V} {n : Nat} (h1 : n ≤ xs.length) (h2 : n ≤ ys.length) (h3 : n = xs.length ∨ n = ys.length) :
    Walk (ItzT K a b) n (fun H => SqT K H a xs ∧ SqT K H b ys) (YPair (fun i => xs[i]?) fun i => ys[i]?) := by
  refine ⟨fun i _ hi q => ?_, fun _ q => ⟨xs, ys, q.1, q.2, by omega⟩, fun i H v H' _ q y => ?_⟩
  · exact ⟨xs, ys, xs[i], ys[i], q.1, q.2, List.getElem?_eq_getElem (by omega), List.getElem?_eq_getElem (by omega)⟩
  · obtain ⟨T, x, z, e1, e2, e3, e4, e5⟩ := y
    exact ⟨T, x, z, e1, e2, e3, e4 _ q.1, e5 _ q.2⟩
end Gd

set_option Elab.async false
set_option linter.all false
set_option maxRecDepth 100000
/-! repr of lists and tuples of whole numbers below ten to the 4300, where the digits' limit stands as it was. -/
namespace Gd
open PySem PySem.Spec PyProof.Rows L2
section
variable {prog : Program} {w : World} {h₀ : Heap}
/-- text of one whole number -/
theorem call_wide {A : Around} {E : Value → Shared → Prop} {s : Shared} {i : Int} {t : Tok} {Q : Value → Shared → Prop} (hn : s.heap.NoDigits) (hi : i.natAbs < 10 ^ 4300)
    (q : Q (.str (toString i) s.toks) { s with toks := s.toks + 1 }) : wpAny (model prog w) A (call (.builtin "int.__repr__") [.int i t]) Q E s := by
  refine wpAny_call_entry F.slot_int_repr (typeIs_int s i t) F.entry_int_repr ?_ (F.args_int_repr_1 _)
  show wpAny _ _ (do
    let r ← Builtin.overDigitLimit? i
    _) _ _ s
  exact wpAny_bind (overDigitLimit_any hn (fun z => wpAny_bind (wpAny_mkStr (wpAny_pure ⟨_, rfl, q⟩) (int_text_fits10 z))) fun z => absurd hi (Nat.not_lt.mpr z))
theorem rk_int (hN : h₀.NoDigits) {i : Int} (t : Tok) (hi : i.natAbs < 10 ^ 4300) (as : List Addr) (d : Nat) : ReprK prog w as h₀ d (.int i t) (toString i) := by
  intro base hb A g E s Q _ _ hu hk hQ
  have hb' : base ≤ sizeLine := Nat.le_trans (Nat.le_add_right _ _) hb
  rw [pyReprUnder_leaf (v := .int i t) hb' (fun _ e => nomatch e)]
  unfold pyRepr
  refine wpAny_bind (wpAny_pyReprObj_slot (by omega) (typeIs_int s i t) F.slot_int_repr.toG (call_wide (hN.keeps hk) hi ?_))
  exact ⟨_, _, rfl, wpAny_pure (hQ s.heap _ fun _ _ e => e)⟩
end
mutual
/-- whole numbers below the limit, lists and tuples of such -/
def wideB : PyData → Bool
  | .int i => decide (i.natAbs < 10 ^ 4300)
  | .list xs => wideAll xs
  | .tuple xs => wideAll xs
  | .bool _ => true
  | .none => true
  | _ => false
def wideAll : List PyData → Bool
  | [] => true
  | x :: xs => wideB x && wideAll xs
end
section
variable {prog : Program} {w : World} {h₀ : Heap}
mutual
theorem rk_of (hN : h₀.NoDigits) : ∀ (d : PyData) {v : Value} {as : List Addr}, wideB d = true → Reads h₀ v d as → d.shown.length ≤ sizeLine → ∃ bs, ReadAtMost h₀ d.depth bs ∧ ReprK prog w bs h₀ d.depth v d.shown
  | .none, _, _, _, r, _ => by
    cases r
    refine ⟨[], fun b z => (List.not_mem_nil z).elim, ?_⟩
    simp only [PyData.shown]
    exact .of_is ReprIs.none _ _ _
  | .bool b, _, _, _, r, _ => by
    cases r
    refine ⟨[], fun b z => (List.not_mem_nil z).elim, ?_⟩
    simp only [PyData.shown]
    exact .of_is (ReprIs.bool b) _ _ _
  | .int i, _, _, hw, r, _ => by
    cases r with
    | int i t =>
      refine ⟨[], fun b z => (List.not_mem_nil z).elim, ?_⟩
      simp only [PyData.shown]
      exact rk_int hN t (by simpa [wideB] using hw) _ _
  | .str _, _, _, hw, _, _ => by simp [wideB] at hw
  | .dict _, _, _, hw, _, _ => by simp [wideB] at hw
  | .list xs, _, _, hw, r, hz => by
    have hz1 : (listText (PyData.shownAll xs)).length ≤ sizeLine := by simpa only [PyData.shown] using hz
    have r0 := r
    cases r with
    | list h1 h2 h3 h4 =>
      obtain ⟨bs, hb, hk⟩ := rkAll hN xs (by simpa [wideB] using hw) h4 fun t z => Nat.le_trans (listText_mem_le z) hz1
      have fresh := not_mem_of_deeper r0 (by simp only [PyData.depth]; omega) hb
      refine ⟨_, ReadAtMost.cons r0 (by simp only [PyData.depth]; omega) hb, ?_⟩
      simp only [PyData.depth, PyData.shown]
      rename_i o vs n la
      obtain ⟨l⟩ := vs
      cases l with
      | nil =>
        have e : xs = [] := by
          cases xs with
          | nil => rfl
          | cons x xs =>
            have z : ReadsAll h₀ [] (x :: xs) _ := h4
            cases z
        subst e
        simp only [PyData.shownAll, listText_nil]
        exact .listEmpty h1 h2 h3
      | cons x l =>
        have hl := hk.length_eq
        exact .list h1 h2 h3 fresh (by rw [hl]; simp) fun i y e => hk.item i y (by rw [← e]; simp)
  | .tuple xs, _, _, hw, r, hz => by
    have hz1 : (tupleText (PyData.shownAll xs)).length ≤ sizeLine := by simpa only [PyData.shown] using hz
    have r0 := r
    cases r with
    | tuple h1 h2 h3 h4 =>
      obtain ⟨bs, hb, hk⟩ := rkAll hN xs (by simpa [wideB] using hw) h4 fun t z => Nat.le_trans (tupleText_mem_le z) hz1
      have fresh := not_mem_of_deeper r0 (by simp only [PyData.depth]; omega) hb
      refine ⟨_, ReadAtMost.cons r0 (by simp only [PyData.depth]; omega) hb, ?_⟩
      simp only [PyData.depth, PyData.shown]
      exact .tuple h1 h2 h3 fresh hk
theorem rkAll (hN : h₀.NoDigits) : ∀ (ds : List PyData) {vs : List Value} {as : List Addr}, wideAll ds = true → ReadsAll h₀ vs ds as → (∀ t ∈ PyData.shownAll ds, t.length ≤ sizeLine) →
    ∃ bs, ReadAtMost h₀ (PyData.depthAll ds) bs ∧ ReprAllK prog w bs h₀ (PyData.depthAll ds) vs (PyData.shownAll ds)
  | [], _, _, _, r, _ => by
    cases r
    refine ⟨[], fun b z => (List.not_mem_nil z).elim, ?_⟩
    simp only [PyData.shownAll]
    exact .nil
  | d :: ds, _, _, hw, r, hz => by
    have hw2 : wideB d = true ∧ wideAll ds = true := by simpa [wideAll] using hw
    simp only [PyData.shownAll] at hz
    cases r with
    | cons r1 r2 =>
      obtain ⟨b1, m1, k1⟩ := rk_of hN d hw2.1 r1 (hz _ List.mem_cons_self)
      obtain ⟨b2, m2, k2⟩ := rkAll hN ds hw2.2 r2 fun t z => hz t (List.mem_cons_of_mem _ z)
      simp only [PyData.depthAll, PyData.shownAll]
      refine ⟨b1 ++ b2, (m1.mono (Nat.le_max_left _ _)).append (m2.mono (Nat.le_max_right _ _)), .cons ?_ ?_⟩
      · exact (k1.more fun b z => List.mem_append_left _ z).level_le (Nat.le_max_left _ _)
      · exact k2.more_le (fun b z => List.mem_append_right _ z) (Nat.le_max_right _ _)
end
end
section
variable {X : Cx} {k : Nat}
/-- repr of a list that isn't empty, of wide data -/
def rReprW (K : PySem.W.Frag) : List V → Hp → VK → Prop := fun xs H Q => ∃ (a : Addr) (d : PyData) (ds : List PyData), xs = [.ref a] ∧ Dp K H (.ref a) (.list (d :: ds)) ∧ wideAll (d :: ds) = true ∧ (PyData.list (d :: ds)).depth ≤ 20 ∧
  (PyData.list (d :: ds)).shown.length ≤ sizeLine ∧ Q (.str (PyData.list (d :: ds)).shown) H
theorem call_reprW (hr : Room k X.A) (hG : X.A.guards = some []) (hN : X.base.NoDigits) : CallR X (.builtin "repr") (rReprW X.K) := by
  intro pins s σ H xs us Q I r h
  obtain ⟨a, d, ds, rfl, hd, hw, hdep, hz, q⟩ := h
  obtain ⟨u, rfl, ru⟩ := vals1 r
  cases ru
  obtain ⟨as, r0⟩ := Dp.reads I _ (.ref a) (.ref a) hd rfl
  have hN2 : s.heap.NoDigits := hN.keeps fun b o e => (I.env0.bs b o e).1
  have hz1 : (listText (PyData.shownAll (d :: ds))).length ≤ sizeLine := by simpa only [PyData.shown] using hz
  have hu := hr.units
  cases r0 with
  | list h1 h2 h3 h4 =>
    obtain ⟨bs, hb, hk⟩ := rkAll (prog := X.prog) (w := X.w) hN2 (d :: ds) hw h4 fun t z => Nat.le_trans (listText_mem_le z) hz1
    have fresh : a ∉ bs := not_mem_of_deeper (.list h1 h2 h3 h4) (by simp only [PyData.depth]; omega) hb
    rename_i o vs n la
    obtain ⟨l⟩ := vs
    simp only [PyData.depth] at hdep
    cases l with
    | nil =>
      have z : ReadsAll s.heap [] (d :: ds) _ := h4
      cases z
    | cons x l =>
      have hl := hk.length_eq
      refine call_repr_slot (T := "list") (idr := "list.__repr__") (by omega) ⟨o, h1, h2⟩ F.slot_list_repr.toG ?_
      refine call_list_reprK h1 h2 h3 fresh (by rw [hl]; simp) (fun i y e => hk.item i y (by rw [← e]; simp)) hG (fun b _ => Clear.nil b) (by show X.A.units + 1 + _ < cLine; omega) (fun _ _ e => e) (fun h' u tk hk2 => ?_) hz1
      refine ⟨_, _, rfl, .str _, H, I.kept hk2, ⟨u, ?_⟩, q⟩
      simp only [PyData.shown]
end
end Gd

set_option Elab.async false
set_option linter.all false
set_option maxRecDepth 100000
/-! How long the text of wide data is. -/
namespace Gd
open PySem PySem.Spec PyProof.Rows L2
mutual
def costW : PyData → Nat
  | .none => 4
  | .bool _ => 5
  | .int _ => 4301
  | .list xs => costWs xs + 3
  | .tuple xs => costWs xs + 3
  | _ => 0
def costWs : List PyData → Nat
  | [] => 0
  | x :: xs => costW x + 2 + costWs xs
end
theorem wide_text {i : Int} (h : i.natAbs < 10 ^ 4300) : (Str.ofString (toString i)).length ≤ 4301 := by
  rw [PySem.ofString_length]
  exact int_text_length_le10 (by decide) h
mutual
theorem shown_W : ∀ d : PyData, wideB d = true → d.shown.length ≤ costW d
  | .none, _ => by simp only [PyData.shown, costW]; decide +kernel
  | .bool b, _ => by
    simp only [PyData.shown, costW]
    cases b <;> decide +kernel
  | .int i, h => by
    have h1 : i.natAbs < 10 ^ 4300 := by simpa [wideB] using h
    simp only [PyData.shown, costW]
    exact wide_text h1
  | .list xs, h => by
    have e := shown_Ws xs (by simpa [wideB] using h)
    have e2 := listText_len_le (PyData.shownAll xs)
    rw [lensAll] at e2
    simp only [PyData.shown, costW]
    omega
  | .tuple xs, h => by
    have e := shown_Ws xs (by simpa [wideB] using h)
    have e2 := tupleText_len_le (PyData.shownAll xs)
    rw [lensAll] at e2
    simp only [PyData.shown, costW]
    omega
  | .str _, h => by simp [wideB] at h
  | .dict _, h => by simp [wideB] at h
theorem shown_Ws : ∀ xs : List PyData, wideAll xs = true → ((PyData.shownAll xs).map (·.length)).sum + 2 * xs.length ≤ costWs xs
  | [], _ => by simp [PyData.shownAll, costWs]
  | x :: xs, h => by
    have h2 : wideB x = true ∧ wideAll xs = true := by simpa [wideAll] using h
    have e1 := shown_W x h2.1
    have e2 := shown_Ws xs h2.2
    simp only [PyData.shownAll, costWs, List.map_cons, List.sum_cons, List.length_cons]
    omega
end
/-- wide items of depth k at most, n in all -/
structure OkW (ds : List PyData) (k n : Nat) : Prop where
  wi : wideAll ds = true
  dp : PyData.depthAll ds ≤ k
  co : costWs ds ≤ n
theorem okW_nil (k : Nat) : OkW [] k 0 := ⟨by simp [wideAll], by simp [PyData.depthAll], by simp [costWs]⟩
theorem okW_cons {d : PyData} {ds : List PyData} {k n m : Nat} (h : OkW [d] k n) (t : OkW ds k m) : OkW (d :: ds) k (n + m) := by
  have h1 : wideB d = true := by simpa [wideAll] using h.wi
  have h3 : d.depth ≤ k := by simpa [PyData.depthAll] using h.dp
  have h4 : costW d + 2 ≤ n := by simpa [costWs] using h.co
  have t3 := t.dp
  have t4 := t.co
  refine ⟨by simp [wideAll, h1, t.wi], ?_, ?_⟩
  · simp only [PyData.depthAll]
    omega
  · simp only [costWs]
    omega
theorem okW_int {i : Int} {k : Nat} (h : i.natAbs < 10 ^ 4300) : OkW [.int i] k 4303 := by
  refine ⟨?_, by simp [PyData.depthAll, PyData.depth], by simp [costWs, costW]⟩
  simp only [wideAll, wideB, Bool.and_true]
  exact decide_eq_true h
theorem okW_tup {ds : List PyData} {k n : Nat} (h : OkW ds k n) : OkW [.tuple ds] (k + 1) (n + 5) := by
  have h3 := h.dp
  have h4 := h.co
  refine ⟨by simp [wideAll, wideB, h.wi], ?_, ?_⟩
  · simp only [PyData.depthAll, PyData.depth]
    omega
  · simp only [costWs, costW]
    omega
theorem ten_two : 2 ^ 14000 ≤ 10 ^ 4300 := by decide +kernel
theorem okW_ints {xs : List Int} {b : Nat} (h : ∀ x ∈ xs, x.natAbs < 2 ^ b) (hb : b ≤ 14000) : OkW (xs.map PyData.int) 1 (4303 * xs.length) := by
  induction xs with
  | nil => exact ⟨by simp [wideAll], by simp [PyData.depthAll], by simp [costWs]⟩
  | cons x xs ih =>
    have h1 := Nat.lt_of_lt_of_le (h x List.mem_cons_self) (Nat.le_trans (Nat.pow_le_pow_right (by decide) hb) ten_two)
    have e := okW_cons (okW_int (k := 1) h1) (ih fun y hy => h y (List.mem_cons_of_mem _ hy))
    rw [List.length_cons, Nat.mul_succ, Nat.add_comm]
    exact e
/-- the whole list is within the line -/
theorem OkW.list {ds : List PyData} {k n : Nat} (h : OkW ds k n) (hn : n + 3 ≤ 16000000) : (PyData.list ds).shown.length ≤ sizeLine := by
  have e := shown_W (.list ds) (by simpa [wideB] using h.wi)
  have h4 := h.co
  simp only [costW] at e
  rw [sizeLine_eq]
  omega
end Gd

set_option Elab.async false
set_option linter.all false
set_option maxRecDepth 100000
namespace K3
open PySem PySem.Spec PyProof.Rows L2 Gd
def topS (i : Nat) : Stmt := PySem.Challenge.pw_silentbeats_k03_whole_voices.main.body.getD i (.Pass ⟨0, 0, 0, 0⟩)
abbrev s_need : Stmt := topS 5
abbrev N_need : List Str := ["fits", "word"]
theorem sc_need : FnScope N_need ["fits", "word"] (defScope s_need) := ⟨rfl, rfl, rfl, by decide +kernel, rfl, by decide +kernel, by decide +kernel⟩
abbrev s_is_integer : Stmt := topS 7
abbrev N_is_integer : List Str := ["thing"]
theorem sc_is_integer : FnScope N_is_integer ["thing"] (defScope s_is_integer) := ⟨rfl, rfl, rfl, by decide +kernel, rfl, by decide +kernel, by decide +kernel⟩
abbrev s_is_number : Stmt := topS 8
abbrev N_is_number : List Str := ["thing"]
theorem sc_is_number : FnScope N_is_number ["thing"] (defScope s_is_number) := ⟨rfl, rfl, rfl, by decide +kernel, rfl, by decide +kernel, by decide +kernel⟩
abbrev s_is_size : Stmt := topS 9
abbrev N_is_size : List Str := ["thing"]
theorem sc_is_size : FnScope N_is_size ["thing"] (defScope s_is_size) := ⟨rfl, rfl, rfl, by decide +kernel, rfl, by decide +kernel, by decide +kernel⟩
abbrev s_are_integers : Stmt := topS 10
abbrev N_are_integers : List Str := ["thing", "each"]
theorem sc_are_integers : FnScope N_are_integers ["thing"] (defScope s_are_integers) := ⟨rfl, rfl, rfl, by decide +kernel, rfl, by decide +kernel, by decide +kernel⟩
abbrev s_is_integer_set : Stmt := topS 11
abbrev N_is_integer_set : List Str := ["thing", "low", "high"]
theorem sc_is_integer_set : FnScope N_is_integer_set ["thing"] (defScope s_is_integer_set) := ⟨rfl, rfl, rfl, by decide +kernel, rfl, by decide +kernel, by decide +kernel⟩
abbrev s_is_voice : Stmt := topS 12
abbrev N_is_voice : List Str := ["thing"]
theorem sc_is_voice : FnScope N_is_voice ["thing"] (defScope s_is_voice) := ⟨rfl, rfl, rfl, by decide +kernel, rfl, by decide +kernel, by decide +kernel⟩
abbrev s_is_voice_of : Stmt := topS 13
abbrev N_is_voice_of : List Str := ["size", "thing"]
theorem sc_is_voice_of : FnScope N_is_voice_of ["size", "thing"] (defScope s_is_voice_of) := ⟨rfl, rfl, rfl, by decide +kernel, rfl, by decide +kernel, by decide +kernel⟩
abbrev s_is_beat : Stmt := topS 14
abbrev N_is_beat : List Str := ["size", "thing"]
theorem sc_is_beat : FnScope N_is_beat ["size", "thing"] (defScope s_is_beat) := ⟨rfl, rfl, rfl, by decide +kernel, rfl, by decide +kernel, by decide +kernel⟩
abbrev s_is_beats : Stmt := topS 15
abbrev N_is_beats : List Str := ["size", "thing", "beat"]
theorem sc_is_beats : FnScope N_is_beats ["size", "thing"] (defScope s_is_beats) := ⟨rfl, rfl, rfl, by decide +kernel, rfl, by decide +kernel, by decide +kernel⟩
abbrev s_voice_of : Stmt := topS 17
abbrev N_voice_of : List Str := ["size", "beats", "weights", "beat", "_"]
theorem sc_voice_of : FnScope N_voice_of ["size", "beats"] (defScope s_voice_of) := ⟨rfl, rfl, rfl, by decide +kernel, rfl, by decide +kernel, by decide +kernel⟩
abbrev s_beats_of : Stmt := topS 18
abbrev N_beats_of : List Str := ["voice", "beat", "weight"]
theorem sc_beats_of : FnScope N_beats_of ["voice"] (defScope s_beats_of) := ⟨rfl, rfl, rfl, by decide +kernel, rfl, by decide +kernel, by decide +kernel⟩
abbrev s_total_of : Stmt := topS 19
abbrev N_total_of : List Str := ["voice"]
theorem sc_total_of : FnScope N_total_of ["voice"] (defScope s_total_of) := ⟨rfl, rfl, rfl, by decide +kernel, rfl, by decide +kernel, by decide +kernel⟩
abbrev s_ones_of : Stmt := topS 20
abbrev N_ones_of : List Str := ["size"]
theorem sc_ones_of : FnScope N_ones_of ["size"] (defScope s_ones_of) := ⟨rfl, rfl, rfl, by decide +kernel, rfl, by decide +kernel, by decide +kernel⟩
abbrev s_added : Stmt := topS 21
abbrev N_added : List Str := ["one", "other", "a", "b"]
theorem sc_added : FnScope N_added ["one", "other"] (defScope s_added) := ⟨rfl, rfl, rfl, by decide +kernel, rfl, by decide +kernel, by decide +kernel⟩
abbrev s_multiplied : Stmt := topS 22
abbrev N_multiplied : List Str := ["voice", "k", "weight"]
theorem sc_multiplied : FnScope N_multiplied ["voice", "k"] (defScope s_multiplied) := ⟨rfl, rfl, rfl, by decide +kernel, rfl, by decide +kernel, by decide +kernel⟩
abbrev s_product_of : Stmt := topS 23
abbrev N_product_of : List Str := ["one", "other", "size", "weights", "j", "weight", "k", "_", "beat"]
theorem sc_product_of : FnScope N_product_of ["one", "other"] (defScope s_product_of) := ⟨rfl, rfl, rfl, by decide +kernel, rfl, by decide +kernel, by decide +kernel⟩
abbrev s_turned : Stmt := topS 24
abbrev N_turned : List Str := ["voice", "k", "size", "beat"]
theorem sc_turned : FnScope N_turned ["voice", "k"] (defScope s_turned) := ⟨rfl, rfl, rfl, by decide +kernel, rfl, by decide +kernel, by decide +kernel⟩
abbrev s_mirrored : Stmt := topS 25
abbrev N_mirrored : List Str := ["voice", "size", "beat"]
theorem sc_mirrored : FnScope N_mirrored ["voice"] (defScope s_mirrored) := ⟨rfl, rfl, rfl, by decide +kernel, rfl, by decide +kernel, by decide +kernel⟩
abbrev s_power_of : Stmt := topS 26
abbrev N_power_of : List Str := ["voice", "many", "reached", "_"]
theorem sc_power_of : FnScope N_power_of ["voice", "many"] (defScope s_power_of) := ⟨rfl, rfl, rfl, by decide +kernel, rfl, by decide +kernel, by decide +kernel⟩
abbrev s__law_feed : Stmt := topS 28
abbrev N__law_feed : List Str := ["_law_script", "_law_cell"]
theorem sc__law_feed : FnScope N__law_feed ["_law_script"] (defScope s__law_feed) := ⟨rfl, rfl, rfl, by decide +kernel, rfl, by decide +kernel, by decide +kernel⟩
abbrev s__law_draw : Stmt := topS 29
abbrev N__law_draw : List Str := ["_law_feed_here", "_law_limit", "_law_cell", "_law_stirred", "_law_digit", "_law_cells", "_law_spot"]
theorem sc__law_draw : FnScope N__law_draw ["_law_feed_here", "_law_limit"] (defScope s__law_draw) := ⟨rfl, rfl, rfl, by decide +kernel, rfl, by decide +kernel, by decide +kernel⟩
abbrev s__law_any : Stmt := topS 30
abbrev N__law_any : List Str := ["_law_feed_here", "_law_some"]
theorem sc__law_any : FnScope N__law_any ["_law_feed_here", "_law_some"] (defScope s__law_any) := ⟨rfl, rfl, rfl, by decide +kernel, rfl, by decide +kernel, by decide +kernel⟩
abbrev s__law_same : Stmt := topS 31
abbrev N__law_same : List Str := ["_law_told", "_law_due"]
theorem sc__law_same : FnScope N__law_same ["_law_told", "_law_due"] (defScope s__law_same) := ⟨rfl, rfl, rfl, by decide +kernel, rfl, by decide +kernel, by decide +kernel⟩
abbrev s__law_product : Stmt := topS 32
abbrev N__law_product : List Str := ["_law_first", "_law_second", "_law_size_in", "_law_found", "_law_i", "_law_j", "_law_spot"]
theorem sc__law_product : FnScope N__law_product ["_law_first", "_law_second"] (defScope s__law_product) := ⟨rfl, rfl, rfl, by decide +kernel, rfl, by decide +kernel, by decide +kernel⟩
abbrev s__law_turned : Stmt := topS 33
abbrev N__law_turned : List Str := ["_law_tune_here", "_law_step", "_law_j"]
theorem sc__law_turned : FnScope N__law_turned ["_law_tune_here", "_law_step"] (defScope s__law_turned) := ⟨rfl, rfl, rfl, by decide +kernel, rfl, by decide +kernel, by decide +kernel⟩
abbrev s__law_strokes : Stmt := topS 34
abbrev N__law_strokes : List Str := ["_law_size_in", "_law_spots", "_law_j"]
theorem sc__law_strokes : FnScope N__law_strokes ["_law_size_in", "_law_spots"] (defScope s__law_strokes) := ⟨rfl, rfl, rfl, by decide +kernel, rfl, by decide +kernel, by decide +kernel⟩
abbrev s__law_tune : Stmt := topS 35
abbrev N__law_tune : List Str := ["_law_feed_here", "_law_size_in", "_law_way", "_law_step", "_law_great", "_law_j", "_law_part"]
theorem sc__law_tune : FnScope N__law_tune ["_law_feed_here", "_law_size_in"] (defScope s__law_tune) := ⟨rfl, rfl, rfl, by decide +kernel, rfl, by decide +kernel, by decide +kernel⟩
abbrev s__law_size : Stmt := topS 36
abbrev N__law_size : List Str := ["_law_feed_here"]
theorem sc__law_size : FnScope N__law_size ["_law_feed_here"] (defScope s__law_size) := ⟨rfl, rfl, rfl, by decide +kernel, rfl, by decide +kernel, by decide +kernel⟩
abbrev s__law_mirror : Stmt := topS 37
abbrev N__law_mirror : List Str := ["_law_tune_here", "_law_j"]
theorem sc__law_mirror : FnScope N__law_mirror ["_law_tune_here"] (defScope s__law_mirror) := ⟨rfl, rfl, rfl, by decide +kernel, rfl, by decide +kernel, by decide +kernel⟩
abbrev s__law_power : Stmt := topS 38
abbrev N__law_power : List Str := ["_law_tune_here", "_law_times_in", "_law_found", "_law_lap"]
theorem sc__law_power : FnScope N__law_power ["_law_tune_here", "_law_times_in"] (defScope s__law_power) := ⟨rfl, rfl, rfl, by decide +kernel, rfl, by decide +kernel, by decide +kernel⟩
abbrev s__law_are_plain_right : Stmt := topS 39
abbrev N__law_are_plain_right : List Str := ["_law_feed_here", "_law_tune_here", "_law_step", "_law_part", "_law_spots", "_law_told", "_law_due", "_law_size_in", "_law_total", "_law_j"]
theorem sc__law_are_plain_right : FnScope N__law_are_plain_right ["_law_feed_here", "_law_tune_here", "_law_step"] (defScope s__law_are_plain_right) := ⟨rfl, rfl, rfl, by decide +kernel, rfl, by decide +kernel, by decide +kernel⟩
abbrev s__law_are_products_right : Stmt := topS 40
abbrev N__law_are_products_right : List Str := ["_law_feed_here", "_law_rows", "_law_step", "_law_both", "_law_told", "_law_due", "_law_spot", "_law_first", "_law_second", "_law_third", "_law_late", "_law_size_in", "_law_part", "_law_more"]
theorem sc__law_are_products_right : FnScope N__law_are_products_right ["_law_feed_here", "_law_rows", "_law_step"] (defScope s__law_are_products_right) := ⟨rfl, rfl, rfl, by decide +kernel, rfl, by decide +kernel, by decide +kernel⟩
abbrev s__law_are_powers_right : Stmt := topS 41
abbrev N__law_are_powers_right : List Str := ["_law_feed_here", "_law_tune_here", "_law_most", "_law_times_in", "_law_due", "_law_told"]
theorem sc__law_are_powers_right : FnScope N__law_are_powers_right ["_law_feed_here", "_law_tune_here"] (defScope s__law_are_powers_right) := ⟨rfl, rfl, rfl, by decide +kernel, rfl, by decide +kernel, by decide +kernel⟩
abbrev s_law : Stmt := topS 42
abbrev N_law : List Str := ["_law_script", "_law_feed_here", "_law_lap", "_law_size_in", "_law_rows", "_law_turn", "_law_kept", "_law_step"]
theorem sc_law : FnScope N_law ["_law_script"] (defScope s_law) := ⟨rfl, rfl, rfl, by decide +kernel, rfl, by decide +kernel, by decide +kernel⟩
end K3

set_option Elab.async false
set_option linter.all false
set_option maxRecDepth 100000
namespace K3
open PySem PySem.Spec PyProof.Rows L2 Gd
section
variable {P : Program} {w : World} {K : PySem.W.Frag} {mg : Str → Option Value} {base : Heap}
def spNeed : Sp := fun vs H Q _ => ∃ z, vs = [.bl true, z] ∧ Q .non H
theorem c_need (D : At K mg "need" s_need ["fits", "word"]) : Cal P w K mg base 1 "need" spNeed := by
  refine okC D sc_need (fun vs H Q E h => ?_) (fun f cdv A outer s H vs Q E hr h => ?_)
  · obtain ⟨z, rfl, _⟩ := h
    rfl
  · obtain ⟨z, rfl, q⟩ := h
    have nd := sc_need.nd
    refine ⟨_, (pss_one (ps_if (pt_not (pt_val (pv 0)))
 (pss_one ps_never)
 pss_nil)), ?_⟩
    refine ⟨_, rfl, true, rfl, iteF ?_⟩
    exact q
def spNeedEach (K : PySem.W.Frag) : Sp := fun vs H Q _ => ∃ (a : Addr) (n : Nat) (z : V), vs = [.ref a, z] ∧ SqL K H a (List.replicate n (V.bl true)) ∧ ∀ H', Same H H' → Q .non H'
def spIsInt : Sp := fun vs H Q _ => ∃ i, vs = [.int i] ∧ Q (.bl true) H
theorem c_is_integer (D : At K mg "is_integer" s_is_integer ["thing"]) (z_isinstance : mg "isinstance" = none) (z_int : mg "int" = none) (z_bool : mg "bool" = none) : Cal P w K mg base 1 "is_integer" spIsInt := by
  refine okC D sc_is_integer (fun vs H Q E h => ?_) (fun f cdv A outer s H vs Q E hr h => ?_)
  · obtain ⟨z, rfl, _⟩ := h
    rfl
  · obtain ⟨z, rfl, q⟩ := h
    have nd := sc_is_integer.nd
    refine ⟨_, (pss_one (ps_ret (pe_and (pe_callB call_isi (by rfl) z_isinstance (by decide +kernel) (pa_cons (pv 0) (pa_cons (pe_bltn (by rfl) z_int (by decide +kernel) (v := .ty "int") rfl) pa_nil))) (pe_one (pe_not (pe_callB call_isi (by rfl) z_isinstance (by decide +kernel) (pa_cons (pv 0) (pa_cons (pe_bltn (by rfl) z_bool (by decide +kernel) (v := .ty "bool") rfl) pa_nil)))))))), ?_⟩
    refine ⟨_, rfl, _, _, _, _, true, rfl, .ty "int", .base (.int z), kit_ty (by decide +kernel), true, rfl, iteT ?_⟩
    refine ⟨_, rfl, _, _, _, _, false, rfl, .ty "bool", .base (.int z), kit_ty (by decide +kernel), false, rfl, ?_⟩
    exact q
def spIsSize : Sp := fun vs H Q _ => ∃ i : Int, vs = [.int i] ∧ Q (.bl (decide (1 ≤ i))) H
theorem c_is_size (D : At K mg "is_size" s_is_size ["thing"]) (c_is_integer : Cal P w K mg base 1 "is_integer" spIsInt) : Cal P w K mg base 2 "is_size" spIsSize := by
  refine okC D sc_is_size (fun vs H Q E h => ?_) (fun f cdv A outer s H vs Q E hr h => ?_)
  · obtain ⟨z, rfl, _⟩ := h
    rfl
  · obtain ⟨z, rfl, q⟩ := h
    have nd := sc_is_size.nd
    refine ⟨_, (pss_one (ps_ret (pe_and (pe_k c_is_integer hr (by decide) (by rfl) (pa_cons (pv 0) pa_nil)) (pe_one (pe_cmpR op_ge (pv 0) pe_int (nomark _)))))), ?_⟩
    refine ⟨_, rfl, z, rfl, true, rfl, iteT ?_⟩
    exact ⟨_, rfl, z, 1, rfl, rfl, q⟩
def spAreInts (K : PySem.W.Frag) : Sp := fun vs H Q _ => ∃ (a : Addr) (ns : List Int), vs = [.ref a] ∧ H a = some (.tup (ns.map V.int)) ∧ ns.length ≤ 1000 ∧ ∀ H', Same H H' → Q (.bl true) H'
theorem c_are_integers (D : At K mg "are_integers" s_are_integers ["thing"]) (c_is_integer : Cal P w K mg base 1 "is_integer" spIsInt) (z_isinstance : mg "isinstance" = none) (z_tuple : mg "tuple" = none) (z_all : mg "all" = none) :
    Cal P w K mg base 2 "are_integers" (spAreInts K) := by
  refine okC D sc_are_integers (fun vs H Q E h => ?_) (fun f cdv A outer s H vs Q E hr h => ?_)
  · obtain ⟨a, ns, rfl, _⟩ := h
    rfl
  · obtain ⟨a, ns, rfl, ha, hz, q⟩ := h
    have nd := sc_are_integers.nd
    refine ⟨_, (pss_one (ps_ret (pe_and (pe_callB call_isi (by rfl) z_isinstance (by decide +kernel) (pa_cons (pv 0) (pa_cons (pe_bltn (by rfl) z_tuple (by decide +kernel) (v := .ty "tuple") rfl) pa_nil))) (pe_one (pe_callB (cr_all rfl) (by rfl) z_all (by decide +kernel) (pa_cons (pe_lc (own := [("each", 1)]) rfl nd (pi_tup (pv 0)) (blkOk_by (N := N_are_integers) (sc := defScope s_are_integers) (by decide +kernel)) (fun _ _ _ _ _ => pg_name (i := 1) nd rfl (Or.inl rfl)) (fun _ _ _ _ _ => pts_nil) (fun _ _ _ _ _ => (pe_k c_is_integer hr (by decide) (by rfl) (pa_cons (pv 1) pa_nil)))) pa_nil)))))), ?_⟩
    refine ⟨_, rfl, _, _, _, _, true, rfl, .ty "tuple", .base (.tup ha), kit_ty (by decide +kernel), true, rfl, iteT ?_⟩
    refine ⟨_, rfl, a, rfl, ⟨_, .inl (.inl ha)⟩, fun D hD => lcM (walk_tup (xs := ns.map V.int)) (fun _ => .bl true) hD ?_ (fun H' sm => .inl (.inl (sm _ _ ha))) ?_ ?_⟩
    · rw [List.length_map]
      exact small1000 hz
    · intro x H' R hx sm h1
      obtain ⟨i, _, rfl⟩ := List.mem_map.mp hx
      refine ⟨rfl, _, rfl, i, rfl, h1 H' (Same.refl _)⟩
    · intro H' sm hd
      have e : (ns.map V.int).map (fun _ => V.bl true) = (List.replicate ns.length true).map V.bl := by
        rw [List.map_map, List.map_replicate]
        exact List.map_eq_replicate_iff.mpr fun _ _ => rfl
      rw [e] at hd
      refine ⟨D, _, rfl, .inl (.inl hd), ?_⟩
      rw [List.all_eq_true.mpr fun b hb => by rw [List.eq_of_mem_replicate hb]; rfl]
      exact q H' sm
end
end K3

set_option Elab.async false
set_option linter.all false
set_option maxRecDepth 100000
namespace Gd
open PySem PySem.Spec PyProof.Rows L2
/-- // by a divisor of either sign -/
def CDivZ (_ j : Int) : Prop := j ≠ 0 ∧ j.natAbs.log2 < 9000
theorem op_fdivZ {X : Cx} : OpR X (binaryOp .FloorDiv) (rI CDivZ fun i j => .int (i.fdiv j)) := by
  refine opI ?_
  intro i j t u s Q E hc q
  exact floordiv_int hc.1 q (.inl (PyProof.noPylong_of_log2 hc.2))
theorem cdivZ {i j : Int} {b : Nat} (h : j ≠ 0) (hb : j.natAbs < 2 ^ b) (h0 : 0 < b) (h9 : b ≤ 9000) : CDivZ i j := ⟨h, Nat.lt_of_lt_of_le (PySem.Flt.log2_lt_of h0 hb) h9⟩
end Gd
namespace K3
open PySem PySem.Spec PyProof.Rows L2 Gd Qu
def QAt (H : Hp) (a : Addr) (q : Int × Int) : Prop := H a = some (.tup [.int q.1, .int q.2])
theorem QAt.same {H H' : Hp} {a : Addr} {q : Int × Int} (s : Same H H') (h : QAt H a q) : QAt H' a q := s _ _ h
theorem QAt.sq {K : PySem.W.Frag} {H : Hp} {a : Addr} {q : Int × Int} (h : QAt H a q) : SqT K H a [.int q.1, .int q.2] := .inl (.inl h)
theorem gq_lt {a b : Int} {n : Nat} (hb : b ≠ 0) (h : b.natAbs < 2 ^ n) : (gq a b).natAbs < 2 ^ n := by
  have : gq a b ≤ (b.natAbs : Int) := Int.le_of_dvd (by omega) (Int.dvd_natAbs.mpr (gq_r a b))
  have := gq_pos (a := a) hb
  omega
section
variable {P : Program} {w : World} {K : PySem.W.Frag} {mg : Str → Option Value} {base : Heap}
def spIsQ : Sp := fun vs H Q _ => ∃ (a : Addr) (q : Int × Int), vs = [.ref a] ∧ QAt H a q ∧ IsQ q ∧ ∀ H', Same H H' → Q (.bl true) H'
def spLow : Sp := fun vs H Q _ => ∃ t b : Int, vs = [.int t, .int b] ∧ b ≠ 0 ∧ t.natAbs < 2 ^ 8000 ∧ b.natAbs < 2 ^ 8000 ∧ ∀ p, H p = none → Q (.ref p) (upd H p (.tup [.int (cut t b).1, .int (cut t b).2]))
end
end K3

set_option Elab.async false
set_option linter.all false
set_option maxRecDepth 100000
namespace Gd
open PySem PySem.Spec PyProof.Rows L2
/-- a def with *v alone, as the name x holds it -/
structure AtS (K : PySem.W.Frag) (mg : Str → Option Value) (x : String) (st : Stmt) (pv : Str) : Prop where
  ex : ∃ f fd, mg x = some (.ref f) ∧ Fun K x x st f fd ∧ ∀ rest : List Value, bindArgs fd ⟨rest, []⟩ = (newTuple rest >>= fun t => pure [(pv, t)])
theorem okS {P : Program} {w : World} {K : PySem.W.Frag} {mg : Str → Option Value} {base : Heap} {x : String} {st : Stmt} {N : List Str} {pv : Str} {k : Nat} {sp : Sp} (D : AtS K mg x st pv) (S : FnScope N [pv] (defScope st))
    (body : ∀ (f : Addr) (cdv : Value) (A : Around) (outer : List Env) (s : Shared) (H : Hp) (vs : List V) (Q : VK) (E : XK), Room k (A.deeper (envOfC x (defScope st) s.heap.objs.size f cdv)) → sp vs H Q E →
      ∃ t, PSs (cxOf CX0 P w K mg base N x (defScope st) f cdv A outer s H E).nox (defBody st) t ∧ t { nx := fun _ H' => Q .non H', rt := Q } (start N vs) H) :
    Cal P w K mg base (k + 1) x (fun vs H Q E => vs.length ≤ sizeLine ∧ ∀ p, H p = none → sp [V.ref p] (upd H p (.tup vs)) Q E) := by
  obtain ⟨f, fd, hm, F, hb⟩ := D.ex
  obtain ⟨oc, od, kV, doc, pm, an, cdv, ct, osl, rfl, lk, hcd⟩ := F.ex
  have G := StX.fn_star (CX := CX0) (P := P) (w := w) (mg := mg) (base := base) (k := k) (ps := []) (pv := pv) (sp := sp) lk hcd S StX.cxUp_none (fun us rest hl => by
    have e : us = [] := List.length_eq_zero_iff.mp hl
    subst e
    exact hb rest) (fun A outer s H vs Q E hr h => let ⟨t, h1, h2⟩ := body f cdv A outer s H vs Q E hr h; ⟨t, h1.nox, h2⟩)
  exact ⟨f, hm, F.kp, G.imp fun vs H Q E h => ⟨[], vs, rfl, rfl, h.1, h.2⟩⟩
end Gd
namespace K3
open PySem PySem.Spec PyProof.Rows L2 Gd Qu
/-- both numbers below 2 ^ n -/
structure Sz (n : Nat) (q : Int × Int) : Prop where
  t : q.1.natAbs < 2 ^ n
  b : q.2.natAbs < 2 ^ n
theorem lt_pow {x a b : Nat} (h : x < 2 ^ a) (hab : a ≤ b) : x < 2 ^ b := Nat.lt_of_lt_of_le h (Nat.pow_le_pow_right (by decide) hab)
theorem Sz.mono {a b : Nat} {q : Int × Int} (h : Sz a q) (hab : a ≤ b) : Sz b q := ⟨lt_pow h.t hab, lt_pow h.b hab⟩
theorem mul_lt {x y : Int} {a b : Nat} (hx : x.natAbs < 2 ^ a) (hy : y.natAbs < 2 ^ b) : (x * y).natAbs < 2 ^ (a + b) := wide_lt hx hy
theorem add_lt {x y : Int} {a : Nat} (hx : x.natAbs < 2 ^ a) (hy : y.natAbs < 2 ^ a) : (x + y).natAbs < 2 ^ (a + 1) := by
  rw [Nat.pow_succ]
  omega
theorem sub_lt {x y : Int} {a : Nat} (hx : x.natAbs < 2 ^ a) (hy : y.natAbs < 2 ^ a) : (x - y).natAbs < 2 ^ (a + 1) := by
  rw [Nat.pow_succ]
  omega
theorem cut_sz {a b : Int} {n : Nat} (h : b ≠ 0) (ha : a.natAbs < 2 ^ n) (hb : b.natAbs < 2 ^ n) : Sz n (cut a b) :=
  ⟨Nat.lt_of_le_of_lt (cut_le1 h) ha, Nat.lt_of_le_of_lt (cut_le2 h) hb⟩
theorem plus_sz {r q : Int × Int} {a b : Nat} (hr : Sz a r) (hq : Sz b q) (ir : IsQ r) (iq : IsQ q) : Sz (a + b + 1) (plusQ r q) := by
  refine cut_sz (Int.mul_ne_zero ir.ne iq.ne) (add_lt (mul_lt hr.t hq.b) ?_) (lt_pow (mul_lt hr.b hq.b) (Nat.le_succ _))
  rw [Nat.add_comm a b]
  exact mul_lt hq.t hr.b
theorem prod_sz {r q : Int × Int} {a b : Nat} (hr : Sz a r) (hq : Sz b q) (ir : IsQ r) (iq : IsQ q) : Sz (a + b) (prodQ r q) :=
  cut_sz (Int.mul_ne_zero ir.ne iq.ne) (mul_lt hr.t hq.t) (mul_lt hr.b hq.b)
theorem sz01 : Sz 1 (0, 1) := ⟨by decide, by decide⟩
theorem sz11 : Sz 1 (1, 1) := ⟨by decide, by decide⟩
section
variable {P : Program} {w : World} {K : PySem.W.Frag} {mg : Str → Option Value} {base : Heap}
/-- refs to quotients -/
def QsAt (H : Hp) (as : List Addr) (qs : List (Int × Int)) : Prop := as.length = qs.length ∧ ∀ (i : Nat) (a : Addr) (q : Int × Int), as[i]? = some a → qs[i]? = some q → QAt H a q
theorem QsAt.same {H H' : Hp} {as : List Addr} {qs : List (Int × Int)} (s : Same H H') (h : QsAt H as qs) : QsAt H' as qs := ⟨h.1, fun i a q e1 e2 => (h.2 i a q e1 e2).same s⟩
def spFoldQ (op : Int × Int → Int × Int → Int × Int) (z : Int × Int) : Sp := fun vs H Q _ => ∃ (as : List Addr) (qs : List (Int × Int)), vs = as.map V.ref ∧ QsAt H as qs ∧ (∀ q ∈ qs, IsQ q ∧ Sz 700 q) ∧ qs.length ≤ 6 ∧
  ∀ p H', Same H H' → QAt H' p (qs.foldl op z) → Q (.ref p) H'
theorem fold_step {α β : Type} (op : β → α → β) (z : β) {l : List α} {i : Nat} {x : α} (h : l[i]? = some x) : (l.take (i + 1)).foldl op z = op ((l.take i).foldl op z) x := by
  rw [List.take_add_one, h, List.foldl_append]
  rfl
end
end K3

set_option Elab.async false
set_option linter.all false
set_option maxRecDepth 100000
namespace K3
open PySem PySem.Spec PyProof.Rows L2 Gd Qu
section
variable {P : Program} {w : World} {K : PySem.W.Frag} {mg : Str → Option Value} {base : Heap}
/-- two quotients in, one out -/
def spTwoQ (op : Int × Int → Int × Int → Int × Int) (ok : Int × Int → Prop) : Sp := fun vs H Q _ => ∃ (a b : Addr) (x y : Int × Int), vs = [.ref a, .ref b] ∧ QAt H a x ∧ QAt H b y ∧ IsQ x ∧ IsQ y ∧ ok y ∧ Sz 700 x ∧ Sz 700 y ∧
  ∀ p H', Same H H' → QAt H' p (op x y) → Q (.ref p) H'
def spQuot : Sp := fun vs H Q _ => ∃ t b : Int, vs = [.int t, .int b] ∧ b ≠ 0 ∧ t.natAbs < 2 ^ 8000 ∧ b.natAbs < 2 ^ 8000 ∧ ∀ p H', Same H H' → QAt H' p (cut t b) → Q (.ref p) H'
end
end K3

set_option Elab.async false
set_option linter.all false
set_option maxRecDepth 100000
namespace K3
open PySem PySem.Spec PyProof.Rows L2 Gd Qu Nm
theorem modN (a b : Nat) : (a : Int) % (b : Int) = ((a % b : Nat) : Int) := rfl
theorem divN (a b : Nat) : (a : Int) / (b : Int) = ((a / b : Nat) : Int) := rfl
theorem mod0 {n t : Nat} : V.int ((n : Int) % (t : Int)) = V.int 0 ↔ t ∣ n := by
  rw [modN]
  constructor
  · intro h
    have := V.int.inj h
    exact Nat.dvd_of_mod_eq_zero (by omega)
  · intro h
    rw [Nat.mod_eq_zero_of_dvd h]
    rfl
def cp (x : Nat × Nat) : Int × Int := ((x.1 : Int), (x.2 : Int))
section
variable {P : Program} {w : World} {K : PySem.W.Frag} {mg : Str → Option Value} {base : Heap}
def spLeast : Sp := fun vs H Q _ => ∃ n : Nat, vs = [.int n] ∧ 2 ≤ n ∧ n ≤ 1000000 ∧ ∀ l : Nat, Least n l → Q (.int l) H
end
end K3

set_option Elab.async false
set_option linter.all false
set_option maxRecDepth 100000
namespace K3
open PySem PySem.Spec PyProof.Rows L2 Gd Qu Nm
/-- between two turns of the outer loop: what is found, what is left -/
structure Half (n : Nat) (ps : List (Nat × Nat)) (left : Nat) : Prop where
  prod : prodN (ps.map (·.2)) * left = n
  asc : (ps.map (·.1)).Pairwise (· < ·)
  pw : ∀ x ∈ ps, Pr x.1 ∧ ∃ e, 1 ≤ e ∧ x.2 = x.1 ^ e
  more : ∀ x ∈ ps, ∀ p, Pr p → p ∣ left → x.1 < p
  pos : 1 ≤ left
theorem prodN_snoc (l : List Nat) (a : Nat) : prodN (l ++ [a]) = prodN l * a := by
  rw [prodN_append]
  show prodN l * (a * 1) = _
  rw [Nat.mul_one]
theorem Half.step {n left l e rest : Nat} {ps : List (Nat × Nat)} (h : Half n ps left) (hl : Least left l) (he : 1 ≤ e) (hs : rest * l ^ e = left) (hn : ¬ l ∣ rest) (hp : 1 ≤ rest) : Half n (ps ++ [(l, l ^ e)]) rest := by
  have dl : ∀ p, p ∣ rest → p ∣ left := fun p z => Nat.dvd_trans z ⟨l ^ e, hs.symm⟩
  refine ⟨?_, ?_, ?_, ?_, hp⟩
  · rw [List.map_append, List.map_singleton, prodN_snoc, ← h.prod, ← hs]
    ac_rfl
  · rw [List.map_append, List.map_singleton]
    refine List.pairwise_append.mpr ⟨h.asc, List.pairwise_singleton _ _, fun a ha b hb => ?_⟩
    obtain ⟨x, hx, rfl⟩ := List.mem_map.mp ha
    obtain rfl := List.mem_singleton.mp hb
    exact h.more x hx _ hl.pr hl.dvd
  · intro x hx
    rcases List.mem_append.mp hx with hx | hx
    · exact h.pw x hx
    · obtain rfl := List.mem_singleton.mp hx
      exact ⟨hl.pr, e, he, rfl⟩
  · intro x hx p hpr hd
    rcases List.mem_append.mp hx with hx | hx
    · exact h.more x hx p hpr (dl p hd)
    · obtain rfl := List.mem_singleton.mp hx
      have h1 := hl.least p hpr.1 (dl p hd)
      by_cases e1 : l = p
      · subst e1
        exact absurd hd hn
      · exact Nat.lt_of_le_of_ne h1 e1
theorem Half.len {n left : Nat} {ps : List (Nat × Nat)} (h : Half n ps left) : ps.length ≤ n := by
  have key : ∀ l : List (Nat × Nat), (∀ x ∈ l, Pr x.1 ∧ ∃ e, 1 ≤ e ∧ x.2 = x.1 ^ e) → l.length + 1 ≤ prodN (l.map (·.2)) := by
    intro l
    induction l with
    | nil => intro _; exact Nat.le_refl _
    | cons x l ih =>
      intro hx
      have h1 := ih fun y hy => hx y (List.mem_cons_of_mem _ hy)
      obtain ⟨h2, e, he, h3⟩ := hx x List.mem_cons_self
      have h4 : 2 ≤ x.2 := by
        rw [h3]
        exact Nat.le_trans h2.1 (Nat.le_self_pow (by omega) _)
      have h5 : 2 * (l.length + 1) ≤ x.2 * prodN (l.map (·.2)) := Nat.mul_le_mul h4 h1
      show l.length + 1 + 1 ≤ x.2 * prodN (l.map (·.2))
      omega
  have h1 := key ps h.pw
  have h2 : prodN (ps.map (·.2)) * 1 ≤ n := by
    rw [← h.prod]
    exact Nat.mul_le_mul_left _ h.pos
  omega
section
variable {P : Program} {w : World} {K : PySem.W.Frag} {mg : Str → Option Value} {base : Heap}
def spParts : Sp := fun vs H Q _ => ∃ n : Nat, vs = [.int n] ∧ 1 ≤ n ∧ n ≤ 10000 ∧ ∀ (a : Addr) (as : List Addr) (ps : List (Nat × Nat)) (H' : Hp), Parts n ps → ps.length ≤ n → Same H H' → H' a = some (.tup (as.map V.ref)) → QsAt H' as (ps.map cp) → Q (.ref a) H'
/-- the outer loop's word -/
def WOut (H : Hp) (n : Nat) (m : Nat) (σ : L2.St) (H' : Hp) : Prop := ∃ (l : Addr) (as : List Addr) (ps : List (Nat × Nat)) (left : Nat) (y3 y4 : Option V), σ = [some (.int n), some (.ref l), some (.int left), y3, y4] ∧
  Same H H' ∧ H l = none ∧ H' l = some (.lst (as.map V.ref)) ∧ QsAt H' as (ps.map cp) ∧ Half n ps left ∧ left = m
/-- the inner loop's word: l the least prime of left -/
def WIn (H1 : Hp) (n left l : Nat) (a : Addr) (m : Nat) (σ : L2.St) (H' : Hp) : Prop := ∃ (e rest : Nat), σ = [some (.int n), some (.ref a), some (.int rest), some (.int l), some (.int ((l ^ e : Nat) : Int))] ∧ H1 = H' ∧ rest * l ^ e = left ∧ 1 ≤ rest ∧ rest = m
end
end K3

set_option Elab.async false
set_option linter.all false
set_option maxRecDepth 100000
namespace K3
open PySem PySem.Spec PyProof.Rows L2 Gd Qu Nm
theorem List.map_idx {α β γ : Type} {as : List α} {ps : List β} {f : α → γ} {g : β → γ} (hl : as.length = ps.length) (h : ∀ (i : Nat) a p, as[i]? = some a → ps[i]? = some p → f a = g p) : as.map f = ps.map g := by
  refine List.ext_getElem? fun i => ?_
  rw [List.getElem?_map, List.getElem?_map]
  cases ha : as[i]? with
  | none =>
    have : ps[i]? = none := List.getElem?_eq_none_iff.mpr (by rw [← hl]; exact List.getElem?_eq_none_iff.mp ha)
    rw [this]
    rfl
  | some a =>
    obtain ⟨hi, _⟩ := List.getElem?_eq_some_iff.mp ha
    have hp : ps[i]? = some ps[i] := List.getElem?_eq_getElem (by rw [← hl]; exact hi)
    rw [hp]
    exact congrArg some (h i a _ ha hp)
section
variable {P : Program} {w : World} {K : PySem.W.Frag} {mg : Str → Option Value} {base : Heap}
def spNum : Sp := fun vs H Q _ => ∃ n : Nat, vs = [.int n] ∧ 1 ≤ n ∧ n ≤ 10000 ∧ Q .non H
def spIsPrime : Sp := fun vs H Q _ => ∃ n : Nat, vs = [.int n] ∧ 1 ≤ n ∧ n ≤ 10000 ∧ ∀ b : Bool, (b = true ↔ 2 ≤ n ∧ Least n n) → Q (.bl b) H
def spIsPP : Sp := fun vs H Q _ => ∃ n : Nat, vs = [.int n] ∧ 1 ≤ n ∧ n ≤ 10000 ∧ ∀ (b : Bool) (H' : Hp), Same H H' → (∀ ps, Parts n ps → (b = true ↔ ps.length = 1)) → Q (.bl b) H'
theorem parts1 : Parts 1 [] := ⟨rfl, List.Pairwise.nil, fun _ h => absurd h List.not_mem_nil⟩
def spPrimes : Sp := fun vs H Q _ => ∃ n : Nat, vs = [.int n] ∧ 1 ≤ n ∧ n ≤ 10000 ∧ ∀ (a : Addr) (ps : List (Nat × Nat)) (H' : Hp), Parts n ps → Same H H' → H' a = some (.tup (ps.map fun x => V.int x.1)) → Q (.ref a) H'
/-- what a comprehension that unpacks pairs gives -/
theorem at_pairs {as : List Addr} {ps : List (Nat × Nat)} {H : Hp} (hq : QsAt H as (ps.map cp)) {x : V} (hx : x ∈ as.map V.ref) : ∃ (a : Addr) (p : Nat × Nat), x = V.ref a ∧ p ∈ ps ∧ QAt H a (cp p) := by
  obtain ⟨a, ha, rfl⟩ := List.mem_map.mp hx
  obtain ⟨i, hi, rfl⟩ := List.mem_iff_getElem.mp ha
  have hl := hq.1
  rw [List.length_map] at hl
  have hi2 : i < ps.length := by omega
  refine ⟨_, ps[i], rfl, List.getElem_mem _, hq.2 i _ _ (List.getElem?_eq_getElem hi) ?_⟩
  rw [List.getElem?_map, List.getElem?_eq_getElem hi2]
  rfl
/-- the first, the second of the pair at an address, as the heap has it -/
def fstAt (H : Hp) (x : V) : V := match x with
  | .ref a => match H a with
    | some (.tup (v :: _)) => v
    | _ => .non
  | _ => .non
def sndAt (H : Hp) (x : V) : V := match x with
  | .ref a => match H a with
    | some (.tup (_ :: v :: _)) => v
    | _ => .non
  | _ => .non
theorem fstAt_of {H : Hp} {a : Addr} {q : Int × Int} (h : QAt H a q) : fstAt H (.ref a) = .int q.1 := by
  unfold fstAt
  have e : H a = _ := h
  simp only [e]
theorem sndAt_of {H : Hp} {a : Addr} {q : Int × Int} (h : QAt H a q) : sndAt H (.ref a) = .int q.2 := by
  unfold sndAt
  have e : H a = _ := h
  simp only [e]
theorem map_fst {as : List Addr} {ps : List (Nat × Nat)} {H : Hp} (hq : QsAt H as (ps.map cp)) : (as.map V.ref).map (fstAt H) = ps.map fun x => V.int x.1 := by
  rw [List.map_map]
  refine List.map_idx (by have := hq.1; rw [List.length_map] at this; exact this) fun i a p e1 e2 => ?_
  exact fstAt_of (hq.2 i a (cp p) e1 (by rw [List.getElem?_map, e2]; rfl))
theorem map_snd {as : List Addr} {ps : List (Nat × Nat)} {H : Hp} (hq : QsAt H as (ps.map cp)) : (as.map V.ref).map (sndAt H) = ps.map fun x => V.int x.2 := by
  rw [List.map_map]
  refine List.map_idx (by have := hq.1; rw [List.length_map] at this; exact this) fun i a p e1 e2 => ?_
  exact sndAt_of (hq.2 i a (cp p) e1 (by rw [List.getElem?_map, e2]; rfl))
end
end K3

set_option Elab.async false
set_option linter.all false
set_option maxRecDepth 100000
namespace K3
open PySem PySem.Spec PyProof.Rows L2 Gd Qu Nm
/-- the divisors, by going through -/
def dvs (n : Nat) : List Nat := ((List.range n).map (1 + ·)).filter fun t => decide (n % t = 0)
theorem dvs_asc (n : Nat) : (dvs n).Pairwise (· < ·) := by
  refine List.Pairwise.filter _ (List.pairwise_map.mpr ?_)
  exact List.pairwise_lt_range.imp fun h => by omega
theorem dvs_mem {n : Nat} (hn : 1 ≤ n) (d : Nat) : d ∈ dvs n ↔ d ∣ n := by
  unfold dvs
  rw [List.mem_filter, List.mem_map]
  constructor
  · rintro ⟨_, h⟩
    exact Nat.dvd_of_mod_eq_zero (of_decide_eq_true h)
  · intro h
    have h1 := Nat.le_of_dvd hn h
    have h2 : 1 ≤ d := Nat.pos_of_dvd_of_pos h hn
    exact ⟨⟨d - 1, List.mem_range.mpr (by omega), by omega⟩, decide_eq_true (Nat.mod_eq_zero_of_dvd h)⟩
theorem filterMap_if {α β : Type} (l : List α) (f : α → β) (p : α → Bool) (g : β → Option β) (h : ∀ a ∈ l, g (f a) = if p a = true then some (f a) else none) : (l.map f).filterMap g = (l.filter p).map f := by
  induction l with
  | nil => rfl
  | cons a l ih =>
    have h1 := h a List.mem_cons_self
    have h2 := ih fun b hb => h b (List.mem_cons_of_mem _ hb)
    rw [List.map_cons]
    cases hp : p a with
    | true =>
      rw [if_pos hp] at h1
      rw [List.filterMap_cons_some h1, List.filter_cons_of_pos hp, h2]
      rfl
    | false =>
      rw [if_neg (by rw [hp]; exact Bool.false_ne_true)] at h1
      rw [List.filterMap_cons_none h1, List.filter_cons_of_neg (by rw [hp]; exact Bool.false_ne_true), h2]
theorem rgG_eq (n : Nat) : rgG 1 n = ((List.range n).map (1 + ·)).map fun t => V.int (t : Nat) := by
  unfold rgG
  rw [List.map_map]
  refine List.map_congr_left fun i _ => ?_
  show V.int (1 + (i : Int)) = V.int ((1 + i : Nat) : Int)
  congr 1
section
variable {P : Program} {w : World} {K : PySem.W.Frag} {mg : Str → Option Value} {base : Heap}
def spDvs : Sp := fun vs H Q _ => ∃ n : Nat, vs = [.int n] ∧ 1 ≤ n ∧ n ≤ 10000 ∧ ∀ (a : Addr) (H' : Hp), Same H H' → H' a = some (.tup ((dvs n).map fun t => V.int (t : Nat))) → Q (.ref a) H'
def dvF (n : Nat) (x : V) : Option V := match x with
  | .int i => if i = 0 then none else if (n : Int) % i = 0 then some (.int i) else none
  | _ => none
def spTot : Sp := fun vs H Q _ => ∃ n : Nat, vs = [.int n] ∧ 1 ≤ n ∧ n ≤ 10000 ∧ ∀ (ps : List (Nat × Nat)) (H' : Hp), Parts n ps → Same H H' → Q (.int (totP ps : Nat)) H'
theorem parts_tot_le {n : Nat} {ps : List (Nat × Nat)} (h : Parts n ps) : ∀ i, totP (ps.take i) ≤ n := by
  intro i
  have key : ∀ (l : List (Nat × Nat)), (∀ x ∈ l, x ∈ ps) → totP l ≤ prodN (l.map (·.2)) := by
    intro l
    induction l with
    | nil => intro _; exact Nat.le_refl _
    | cons x l ih =>
      intro hx
      have e : totP (x :: l) = (x.2 - x.2 / x.1) * totP l := by
        show l.foldl _ (1 * (x.2 - x.2 / x.1)) = _
        rw [totP_go, Nat.one_mul]
      rw [e]
      exact Nat.mul_le_mul (Nat.sub_le _ _) (ih fun y hy => hx y (List.mem_cons_of_mem _ hy))
  have h1 := key (ps.take i) fun x hx => List.mem_of_mem_take hx
  have h2 : prodN ((ps.take i).map (·.2)) * prodN ((ps.drop i).map (·.2)) = n := by
    rw [← prodN_append, ← List.map_append, List.take_append_drop, h.prod]
  have h3 : 1 ≤ prodN ((ps.drop i).map (·.2)) := by
    refine prod_pos fun a ha => ?_
    obtain ⟨x, hx, rfl⟩ := List.mem_map.mp ha
    obtain ⟨q1, e, _, q2⟩ := h.pw x (List.mem_of_mem_drop hx)
    rw [q2]
    exact Nat.pow_pos q1.pos
  calc totP (ps.take i) ≤ prodN ((ps.take i).map (·.2)) := h1
    _ ≤ prodN ((ps.take i).map (·.2)) * prodN ((ps.drop i).map (·.2)) := Nat.le_mul_of_pos_right _ h3
    _ = n := h2
theorem parts_le {n : Nat} {ps : List (Nat × Nat)} (hn : 1 ≤ n) (h : Parts n ps) : ∀ x ∈ ps, 2 ≤ x.1 ∧ x.1 ≤ n ∧ 1 ≤ x.2 ∧ x.2 ≤ n := by
  intro x hx
  obtain ⟨q1, e, he, q2⟩ := h.pw x hx
  have d1 := ((h.mem x.1).mp (List.mem_map.mpr ⟨x, hx, rfl⟩)).2
  have d2 : x.2 ∣ n := h.prod ▸ dvd_prod (List.mem_map.mpr ⟨x, hx, rfl⟩)
  exact ⟨q1.1, Nat.le_of_dvd hn d1, by rw [q2]; exact Nat.pow_pos q1.pos, Nat.le_of_dvd hn d2⟩
def spPow : Sp := fun vs H Q _ => ∃ n : Nat, vs = [.int n] ∧ 1 ≤ n ∧ n ≤ 10000 ∧ ∀ (a : Addr) (ps : List (Nat × Nat)) (zs : List Int) (H' : Hp), Parts n ps → zs.Perm (ps.map fun x => (x.2 : Int)) → zs.Pairwise (· ≤ ·) → Same H H' → H' a = some (.tup (zs.map V.int)) → Q (.ref a) H'
end
end K3

set_option Elab.async false
set_option linter.all false
set_option maxRecDepth 100000
namespace K3
open PySem PySem.Spec PyProof.Rows L2 Gd Qu Nm
/-! ### the feed -/
def fdK (c : Addr) (sp ov tn : Int) : List (Key × V) := [(Sum.inr "cells", .ref c), (Sum.inr "spot", .int sp), (Sum.inr "over", .int ov), (Sum.inr "turn", .int tn)]
theorem fd_cells {c : Addr} {sp ov tn : Int} : valV (fdK c sp ov tn) (Sum.inr "cells") = some (.ref c) := by
  unfold fdK
  exact valV_pos rfl
theorem k1 : ¬ (Sum.inr "cells" : Key) = (Sum.inr "spot" : Key) := by decide +kernel
theorem k2 : ¬ (Sum.inr "cells" : Key) = (Sum.inr "over" : Key) := by decide +kernel
theorem k3 : ¬ (Sum.inr "cells" : Key) = (Sum.inr "turn" : Key) := by decide +kernel
theorem k4 : ¬ (Sum.inr "spot" : Key) = (Sum.inr "over" : Key) := by decide +kernel
theorem k5 : ¬ (Sum.inr "spot" : Key) = (Sum.inr "turn" : Key) := by decide +kernel
theorem k6 : ¬ (Sum.inr "over" : Key) = (Sum.inr "turn" : Key) := by decide +kernel
theorem k7 : ¬ (Sum.inr "turn" : Key) = (Sum.inr "over" : Key) := by decide +kernel
theorem k8 : ¬ (Sum.inr "turn" : Key) = (Sum.inr "spot" : Key) := by decide +kernel
theorem k9 : ¬ (Sum.inr "over" : Key) = (Sum.inr "spot" : Key) := by decide +kernel
theorem fd_spot {c : Addr} {sp ov tn : Int} : valV (fdK c sp ov tn) (Sum.inr "spot") = some (.int sp) := by
  unfold fdK
  rw [valV_neg k1, valV_pos rfl]
theorem fd_over {c : Addr} {sp ov tn : Int} : valV (fdK c sp ov tn) (Sum.inr "over") = some (.int ov) := by
  unfold fdK
  rw [valV_neg k2, valV_neg k4, valV_pos rfl]
theorem fd_turn {c : Addr} {sp ov tn : Int} : valV (fdK c sp ov tn) (Sum.inr "turn") = some (.int tn) := by
  unfold fdK
  rw [valV_neg k3, valV_neg k5, valV_neg k6, valV_pos rfl]
theorem ne_cells_spot : ¬ ("cells" : Str) = ("spot" : Str) := by decide +kernel
theorem ne_over_spot : ¬ ("over" : Str) = ("spot" : Str) := by decide +kernel
theorem ne_turn_spot : ¬ ("turn" : Str) = ("spot" : Str) := by decide +kernel
theorem ne_cells_over : ¬ ("cells" : Str) = ("over" : Str) := by decide +kernel
theorem ne_spot_over : ¬ ("spot" : Str) = ("over" : Str) := by decide +kernel
theorem ne_turn_over : ¬ ("turn" : Str) = ("over" : Str) := by decide +kernel
theorem ne_cells_turn : ¬ ("cells" : Str) = ("turn" : Str) := by decide +kernel
theorem ne_spot_turn : ¬ ("spot" : Str) = ("turn" : Str) := by decide +kernel
theorem ne_over_turn : ¬ ("over" : Str) = ("turn" : Str) := by decide +kernel
theorem put_spot {c : Addr} {sp ov tn z : Int} : putK (fdK c sp ov tn) (Sum.inr "spot") (.int z) = fdK c z ov tn := by
  unfold putK fdK
  rw [if_pos (by simp)]
  simp [ne_cells_spot, ne_over_spot, ne_turn_spot]
theorem put_over {c : Addr} {sp ov tn z : Int} : putK (fdK c sp ov tn) (Sum.inr "over") (.int z) = fdK c sp z tn := by
  unfold putK fdK
  rw [if_pos (by simp)]
  simp [ne_cells_over, ne_spot_over, ne_turn_over]
theorem put_turn {c : Addr} {sp ov tn z : Int} : putK (fdK c sp ov tn) (Sum.inr "turn") (.int z) = fdK c sp ov z := by
  unfold putK fdK
  rw [if_pos (by simp)]
  simp [ne_cells_turn, ne_spot_turn, ne_over_turn]
theorem merge_fd {c : Addr} {x y z : Int} : mergeK [] [((Sum.inr "cells" : Key), V.ref c), (Sum.inr "spot", .int x), (Sum.inr "over", .int y), (Sum.inr "turn", .int z)] = fdK c x y z := by
  unfold mergeK fdK putK
  simp [ne_cells_spot, ne_cells_over, ne_spot_over, ne_cells_turn, ne_spot_turn, ne_over_turn]
/-- a feed at d, of the cells at c, after at most B draws -/
structure FeedAt (H : Hp) (d c : Addr) (cells : List Int) (B : Nat) : Prop where
  ex : ∃ sp ov tn : Int, H d = some (.dK (fdK c sp ov tn)) ∧ 0 ≤ sp ∧ sp ≤ B ∧ 0 ≤ ov ∧ 0 ≤ tn ∧ tn ≤ B
  cl : H c = some (.lst (cells.map V.int))
  few : cells.length ≤ 63
theorem FeedAt.ne {H : Hp} {d c : Addr} {cells : List Int} {B : Nat} (F : FeedAt H d c cells B) : d ≠ c := by
  obtain ⟨sp, ov, tn, h, _⟩ := F.ex
  exact ne_of h F.cl (by intro z; cases z)
theorem FeedAt.same {H H' : Hp} {d c : Addr} {cells : List Int} {B : Nat} (s : Same H H') (F : FeedAt H d c cells B) : FeedAt H' d c cells B := by
  obtain ⟨sp, ov, tn, h, r⟩ := F.ex
  exact ⟨⟨sp, ov, tn, s _ _ h, r⟩, s _ _ F.cl, F.few⟩
theorem FeedAt.mono {H : Hp} {d c : Addr} {cells : List Int} {B B' : Nat} (F : FeedAt H d c cells B) (h : B ≤ B') : FeedAt H d c cells B' := by
  obtain ⟨sp, ov, tn, h1, h2, h3, h4, h5, h6⟩ := F.ex
  exact ⟨⟨sp, ov, tn, h1, h2, by omega, h4, h5, by omega⟩, F.cl, F.few⟩
def spDraw : Sp := fun vs H Q _ => ∃ (d c : Addr) (cells : List Int) (B l : Nat), vs = [.ref d, .int l] ∧ FeedAt H d c cells B ∧ B ≤ 1000000 ∧ 1 ≤ l ∧ l ≤ 1000000 ∧
  ∀ (r : Nat) (H' : Hp), r < l → FeedAt H' d c cells (B + 1) → Kp d H H' → Q (.int r) H'
theorem g_cells {H : Hp} {d c : Addr} {sp ov tn : Int} (h : H d = some (.dK (fdK c sp ov tn))) : DGet H d (.str "cells") (some (.ref c)) := by
  have e := DGet.k (k := (Sum.inr "cells" : Key)) h
  rw [fd_cells] at e
  exact e
theorem g_spot {H : Hp} {d c : Addr} {sp ov tn : Int} (h : H d = some (.dK (fdK c sp ov tn))) : DGet H d (.str "spot") (some (.int sp)) := by
  have e := DGet.k (k := (Sum.inr "spot" : Key)) h
  rw [fd_spot] at e
  exact e
theorem g_over {H : Hp} {d c : Addr} {sp ov tn : Int} (h : H d = some (.dK (fdK c sp ov tn))) : DGet H d (.str "over") (some (.int ov)) := by
  have e := DGet.k (k := (Sum.inr "over" : Key)) h
  rw [fd_over] at e
  exact e
theorem g_turn {H : Hp} {d c : Addr} {sp ov tn : Int} (h : H d = some (.dK (fdK c sp ov tn))) : DGet H d (.str "turn") (some (.int tn)) := by
  have e := DGet.k (k := (Sum.inr "turn" : Key)) h
  rw [fd_turn] at e
  exact e
theorem p_spot {H : Hp} {d c : Addr} {sp ov tn z : Int} (h : H d = some (.dK (fdK c sp ov tn))) : DPut H d (.str "spot") (.int z) (upd H d (.dK (fdK c z ov tn))) := by
  have e := DPut.k (k := (Sum.inr "spot" : Key)) (v := .int z) h (by show 4 < sizeLine; decide)
  rw [put_spot] at e
  exact e
theorem p_over {H : Hp} {d c : Addr} {sp ov tn z : Int} (h : H d = some (.dK (fdK c sp ov tn))) : DPut H d (.str "over") (.int z) (upd H d (.dK (fdK c sp z tn))) := by
  have e := DPut.k (k := (Sum.inr "over" : Key)) (v := .int z) h (by show 4 < sizeLine; decide)
  rw [put_over] at e
  exact e
theorem p_turn {H : Hp} {d c : Addr} {sp ov tn z : Int} (h : H d = some (.dK (fdK c sp ov tn))) : DPut H d (.str "turn") (.int z) (upd H d (.dK (fdK c sp ov z))) := by
  have e := DPut.k (k := (Sum.inr "turn" : Key)) (v := .int z) h (by show 4 < sizeLine; decide)
  rw [put_turn] at e
  exact e
section
variable {P : Program} {w : World} {K : PySem.W.Frag} {mg : Str → Option Value} {base : Heap}
def spFeed (K : PySem.W.Frag) : Sp := fun vs H Q _ => ∃ (a : Addr) (ns : List Int), vs = [.ref a] ∧ SqL K H a (ns.map V.int) ∧ ns.length ≤ 63 ∧ ∀ (d c : Addr) (cells : List Int) (H' : Hp), FeedAt H' d c cells 0 → Same H H' → Q (.ref d) H'
theorem c__law_feed (D : At K mg "_law_feed" s__law_feed ["_law_script"]) (z_int : mg "int" = none) : Cal P w K mg base 1 "_law_feed" (spFeed K) := by
  refine okC D sc__law_feed (fun vs H Q E h => ?_) (fun f cdv A outer s H vs Q E hr h => ?_)
  · obtain ⟨a, ns, rfl, _⟩ := h
    rfl
  · obtain ⟨a, ns, rfl, ha, hz, k⟩ := h
    have nd := sc__law_feed.nd
    refine ⟨_, (pss_one (ps_ret (pe_disp (pps_cons pe_str (pe_lc (own := [("_law_cell", 1)]) rfl nd (pi_list (pe_slice sl_list (pv 0) po_none (po_some pe_int))) (blkOk_by (N := N__law_feed) (sc := defScope s__law_feed) (by decide +kernel)) (fun _ _ _ _ _ => pg_name (i := 1) nd rfl (Or.inl rfl)) (fun _ _ _ _ _ => pts_nil) (fun _ _ _ _ _ => (pe_callTy call_int1 (by rfl) z_int (by decide +kernel) (pa_cons (pv 1) pa_nil)))) (pps_cons pe_str pe_int (pps_cons pe_str pe_int (pps_cons pe_str pe_int pps_nil)))) rfl rfl (by decide) (by decide)))), ?_⟩
    intro d hd
    have s0 : Same H (upd H d (.dK [])) := same_new hd
    obtain ⟨lo, hi, ec⟩ : ∃ lo hi, cutV (ns.map V.int) none (some 63) = ((ns.drop lo).take hi).map V.int := ⟨_, _, by unfold cutV; rw [← List.map_drop, ← List.map_take]⟩
    refine ⟨.ref a, rfl, 63, rfl, a, _, rfl, s0.seq ha, fun c hc => ⟨c, rfl, ⟨_, .inl (.inl upd_same)⟩, fun L hL => lcM (walk_list (xs := cutV (ns.map V.int) none (some 63))) id hL ?_ (fun H' sm => .inl (.inl (sm _ _ upd_same))) ?_ ?_⟩⟩
    · rw [ec, List.length_map]
      refine Nat.lt_of_le_of_lt (Nat.le_trans (List.length_take_le' _ _) ?_) (small1000 (Nat.le_refl _))
      rw [List.length_drop]
      omega
    · intro x H' R hx sm q
      rw [ec] at hx
      obtain ⟨i, _, rfl⟩ := List.mem_map.mp hx
      exact ⟨rfl, _, rfl, .inl ⟨i, rfl, q H' (Same.refl _)⟩⟩
    · intro H2 s2 hL2
      rw [List.map_id, ec] at hL2
      have sd : Same (upd H d (.dK [])) H2 := (same_new hc).trans s2
      refine ⟨sd _ _ upd_same, [((Sum.inr "cells" : Key), V.ref L), (Sum.inr "spot", .int 0), (Sum.inr "over", .int 0), (Sum.inr "turn", .int 0)], rfl, (by show 4 ≤ 15; decide), ?_⟩
      rw [merge_fd]
      have nL : L ≠ d := fun z => by
        rw [z] at hL2
        have := hL2.symm.trans (sd _ _ upd_same)
        cases this
      refine k d L ((ns.drop lo).take hi) _ ⟨⟨0, 0, 0, upd_same, by omega, by omega, by omega, by omega, by omega⟩, ?_, ?_⟩ ?_
      · show upd H2 d _ L = _
        rw [upd_ne nL]
        exact hL2
      · refine Nat.le_trans (List.length_take_le' _ _) ?_
        rw [List.length_drop]
        omega
      · exact same_own (s0.trans sd) hd
end
end K3

set_option Elab.async false
set_option linter.all false
set_option maxRecDepth 100000
namespace K3
open PySem PySem.Spec PyProof.Rows L2 Gd Qu Nm
theorem dpInts {K : PySem.W.Frag} {H : Hp} : ∀ ns : List Int, DpAll K H (ns.map V.int) (ns.map PyData.int)
  | [] => .nil
  | n :: ns => .cons (.int n) (dpInts ns)
theorem canInts : ∀ ns : List Int, PyData.canLayAll0 (ns.map PyData.int) = true
  | [] => by simp [PyData.canLayAll0]
  | n :: ns => by simp [PyData.canLayAll0, PyData.canLay0, canInts ns]
theorem depthInts : ∀ ns : List Int, PyData.depthAll (ns.map PyData.int) ≤ 1
  | [] => by simp [PyData.depthAll]
  | n :: ns => by
    have := depthInts ns
    simp [PyData.depthAll, PyData.depth]
    omega
theorem shapedInts (ns : List Int) : SeqAt.shaped (.list (ns.map PyData.int)) = true := by
  unfold SeqAt.shaped
  rw [Bool.and_eq_true]
  refine ⟨?_, decide_eq_true ?_⟩
  · simp [PyData.canLay0, canInts]
  · have := depthInts ns
    simp [PyData.depth]
    omega
section
variable {P : Program} {w : World} {K : PySem.W.Frag} {mg : Str → Option Value} {base : Heap}
theorem c__law_draw (D : At K mg "_law_draw" s__law_draw ["_law_feed_here", "_law_limit"]) (z_int : mg "int" = none) (z_len : mg "len" = none) : Cal P w K mg base 1 "_law_draw" spDraw := by
  refine okC D sc__law_draw (fun vs H Q E h => ?_) (fun f cdv A outer s H vs Q E hr h => ?_)
  · obtain ⟨d, c, cells, B, l, rfl, _⟩ := h
    rfl
  · obtain ⟨d, c, cells, B, l, rfl, F, hB, l1, l2, k⟩ := h
    have nd := sc__law_draw.nd
    have hu := hu_of hr
    have hu64 := hr.units
    refine ⟨_, (pss_cons (ps_dput hu (pv 0) pe_str (pe_op op_add (pe_dget hu (pv 0) pe_str (fun _ _ => rfl)) pe_int) rfl)
 (pss_cons (ps_if (pt_cmpR op_gt (pe_dget hu (pv 0) pe_str (fun _ _ => rfl)) pe_int (nomark _))
 (pss_cons (ps_set (i := 4) nd rfl (.inl rfl) (pe_op op_mod (pe_callTy call_int1 (by rfl) z_int (by decide +kernel) (pa_cons (pe_dget hu (pv 0) pe_str (fun _ _ => rfl)) pa_nil)) (pv 1)))
 (pss_cons (ps_dput hu (pv 0) pe_str (pe_op op_fdiv (pe_dget hu (pv 0) pe_str (fun _ _ => rfl)) (pv 1)) rfl)
 (pss_one (ps_ret (pv 4)))))
 pss_nil)
 (pss_cons (ps_par (i := 5) (j := 6) rfl nd rfl rfl (by decide) rfl rfl (pa_cons (pe_dget hu (pv 0) pe_str (fun _ _ => rfl)) (pa_cons (pe_dget hu (pv 0) pe_str (fun _ _ => rfl)) pa_nil)) rfl)
 (pss_cons (ps_dput hu (pv 0) pe_str (pe_op op_add (pv 6) pe_int) rfl)
 (C8.pss_cut (ps_set (i := 2) nd rfl (.inl rfl) (pe_ifExp (pt_cmpR (op_neD hu64) (pv 5) (pe_lst pa_nil) (nomark _)) (pe_ix ix_list (pv 5) (pe_op op_mod (pe_callTy call_int1 (by rfl) z_int (by decide +kernel) (pa_cons (pv 6) pa_nil)) (pe_callB call_len_seq (by rfl) z_len PySem.boot_len (pa_cons (pv 5) pa_nil))) (fun _ _ => rfl)) pe_int))
 (C8.pss_cut (ps_if (PW.pt (pw_and (pt_cmpR op_ge (pv 2) (pe_op op_pow pe_int pe_int) (nomark _)) (pw_and1 (pt_cmpR op_lt (pv 6) (pe_callB call_len_seq (by rfl) z_len PySem.boot_len (pa_cons (pv 5) pa_nil)) (nomark _)))))
 (pss_cons (ps_dput hu (pv 0) pe_str (pe_op op_fdiv (pv 2) (pv 1)) rfl)
 (pss_one (ps_ret (pe_op op_mod (pe_callTy call_int1 (by rfl) z_int (by decide +kernel) (pa_cons (pv 2) pa_nil)) (pv 1)))))
 pss_nil)
 (pss_cons (ps_set (i := 3) nd rfl (.inl rfl) (pe_op op_mod (pe_callTy call_int1 (by rfl) z_int (by decide +kernel) (pa_cons (pe_op op_add (pe_op op_add (pe_op op_mod (pe_callTy call_int1 (by rfl) z_int (by decide +kernel) (pa_cons (pv 2) pa_nil)) pe_int) (pe_op op_mul pe_int (pe_dget hu (pv 0) pe_str (fun _ _ => rfl)))) pe_int) pa_nil)) pe_int))
 (pss_cons (ps_set (i := 3) nd rfl (.inl rfl) (pe_op op_mod (pe_callTy call_int1 (by rfl) z_int (by decide +kernel) (pa_cons (pe_op op_add (pe_op op_add (pe_op op_mul (pv 3) (pv 3)) (pe_op op_mul pe_int (pe_dget hu (pv 0) pe_str (fun _ _ => rfl)))) pe_int) pa_nil)) pe_int))
 (pss_one (ps_ret (pe_op op_mod (pe_callTy call_int1 (by rfl) z_int (by decide +kernel) (pa_cons (pe_op op_fdiv (pe_op op_mod (pe_callTy call_int1 (by rfl) z_int (by decide +kernel) (pa_cons (pe_op op_add (pe_op op_mul (pv 3) (pv 3)) (pe_op op_mul pe_int (pv 3))) pa_nil)) pe_int) pe_int) pa_nil)) (pv 1)))))))))))), ?_⟩
    obtain ⟨sp, ov, tn, h0, a1, a2, a3, a4, a5⟩ := F.ex
    have ndc := F.ne
    have lpos : (0 : Int) < (l : Int) := by omega
    have ret : ∀ (z : Int) (H' : Hp), FeedAt H' d c cells (B + 1) → Kp d H H' → Q (.int (z % (l : Int))) H' := by
      intro z H' F' kp
      have e1 := Int.emod_nonneg z (show (l : Int) ≠ 0 by omega)
      have e2 := Int.emod_lt_of_pos z lpos
      have e3 := k (z % (l : Int)).toNat H' (by omega) F' kp
      rw [Int.toNat_of_nonneg e1] at e3
      exact e3
    -- the turn is counted
    have h1 : (upd H d (.dK (fdK c sp ov (tn + 1)))) d = some (.dK (fdK c sp ov (tn + 1))) := upd_same
    have c1 : (upd H d (.dK (fdK c sp ov (tn + 1)))) c = some (.lst (cells.map V.int)) := by
      rw [upd_ne ndc.symm]
      exact F.cl
    have kp1 : Kp d H (upd H d (.dK (fdK c sp ov (tn + 1)))) := Kp.upd_d
    refine ⟨_, rfl, d, _, rfl, g_turn h0, _, _, rfl, rfl, _, rfl, d, _, rfl, p_turn h0, ?_⟩
    generalize hH1 : upd H d (.dK (fdK c sp ov (tn + 1))) = H1 at *
    refine ⟨_, rfl, d, _, rfl, g_over h1, _, _, rfl, rfl, _, rfl, ite2 (fun e => ?_) (fun e => ?_)⟩
    · -- what is over gives a digit
      refine ⟨_, rfl, d, _, rfl, g_over h1, .inl ⟨ov, rfl, _, rfl, _, _, rfl, rfl, lpos, ?_⟩⟩
      refine ⟨_, rfl, d, _, rfl, g_over h1, _, rfl, _, _, rfl, rfl, ⟨lpos, by omega⟩, _, rfl, d, _, rfl, p_over h1, _, rfl, ?_⟩
      refine ret ov _ ⟨⟨sp, ov / l, tn + 1, upd_same, a1, by omega, Int.ediv_nonneg a3 (by omega), by omega, by omega⟩, ?_, F.few⟩ (kp1.trans Kp.upd_d)
      rw [upd_ne ndc.symm]
      exact c1
    · -- the next cell
      refine ⟨_, rfl, d, _, rfl, g_cells h1, _, rfl, d, _, rfl, g_spot h1, _, _, rfl, ?_⟩
      refine ⟨_, rfl, _, _, rfl, rfl, _, rfl, d, _, rfl, p_spot h1, ?_⟩
      have h2 : (upd H1 d (.dK (fdK c (sp + 1) ov (tn + 1)))) d = some (.dK (fdK c (sp + 1) ov (tn + 1))) := upd_same
      have c2 : (upd H1 d (.dK (fdK c (sp + 1) ov (tn + 1)))) c = some (.lst (cells.map V.int)) := by
        rw [upd_ne ndc.symm]
        exact c1
      have kp2 : Kp d H (upd H1 d (.dK (fdK c (sp + 1) ov (tn + 1)))) := kp1.trans Kp.upd_d
      generalize hH2 : upd H1 d (.dK (fdK c (sp + 1) ov (tn + 1))) = H2 at *
      refine ⟨fun σ' H' => ∃ z : Int, σ' = [some (.ref d), some (.int l), some (.int z), none, none, some (.ref c), some (.int sp)] ∧ Same H2 H', ?_, ?_⟩
      · refine ⟨_, rfl, Nat.zero_le _, fun p hp => ?_⟩
        have s3 : Same H2 (upd H2 p (.lst [])) := same_new hp
        have c3 := s3 _ _ c2
        refine ⟨.list (cells.map PyData.int), .list [], .lst (.inl (.inl c3)) (dpInts cells), .lst (.inl (.inl upd_same)) .nil, shapedInts cells, shapedInts [], _, rfl, ?_⟩
        cases cells with
        | nil => exact iteF ⟨_, rfl, s3⟩
        | cons n0 ns =>
          refine iteT ⟨_, rfl, _, rfl, .inl ⟨sp, rfl, _, rfl, c, _, rfl, .inl (.inl (.inl c3)), _, _, rfl, rfl, ?_, ?_⟩⟩
          · rw [List.length_map, List.length_cons]
            omega
          · have lp : (0 : Int) < ((ns.length + 1 : Nat) : Int) := by omega
            have e1 := Int.emod_nonneg sp (show ((ns.length + 1 : Nat) : Int) ≠ 0 by omega)
            have e2 := Int.emod_lt_of_pos sp lp
            have e3 : (sp % ((ns.length + 1 : Nat) : Int)).toNat < (n0 :: ns).length := by rw [List.length_cons]; omega
            refine ⟨c, _, sp % ((ns.length + 1 : Nat) : Int), .int ((n0 :: ns)[(sp % ((ns.length + 1 : Nat) : Int)).toNat]), rfl, ?_, .inl (.inl c3), ?_, _, rfl, s3⟩
            · rw [List.length_map, List.length_cons]
            · have e4 := atI_nat (xs := (n0 :: ns).map V.int) (j := (sp % ((ns.length + 1 : Nat) : Int)).toNat) (v := .int ((n0 :: ns)[(sp % ((ns.length + 1 : Nat) : Int)).toNat])) (by rw [List.getElem?_map, List.getElem?_eq_getElem e3]; rfl)
              rw [Int.toNat_of_nonneg e1] at e4
              exact e4
      · rintro σ' H3 ⟨z, rfl, s3⟩
        have h3 := s3 _ _ h2
        have c3 := s3 _ _ c2
        have kp3 : Kp d H H3 := kp2.trans s3.kp
        refine ⟨fun σ' H' => σ' = [some (V.ref d), some (.int l), some (.int z), none, none, some (.ref c), some (.int sp)] ∧ H3 = H', ?_, ?_⟩
        · refine ⟨_, rfl, _, _, rfl, rfl, ⟨by decide, by decide, by decide⟩, _, _, rfl, rfl, _, rfl, ite2 (fun e1 => ?_) (fun _ => iteF ⟨rfl, rfl⟩)⟩
          refine ⟨_, rfl, _, rfl, c, _, rfl, .inl (.inl (.inl c3)), _, _, rfl, rfl, _, rfl, ite2 (fun e2 => ?_) (fun _ => ⟨rfl, rfl⟩)⟩
          have z0 : (10 : Int) ^ (18 : Int).toNat ≤ z := of_decide_eq_true e1
          have z1 : (0 : Int) ≤ z := Int.le_trans (by decide) z0
          refine ⟨_, rfl, _, rfl, _, _, rfl, rfl, ⟨lpos, by omega⟩, _, rfl, d, _, rfl, p_over h3, ?_⟩
          refine ⟨_, rfl, .inl ⟨z, rfl, _, rfl, _, _, rfl, rfl, lpos, ?_⟩⟩
          refine ret z _ ⟨⟨sp + 1, z / l, tn + 1, upd_same, by omega, by omega, Int.ediv_nonneg z1 (by omega), by omega, by omega⟩, ?_, F.few⟩ (kp3.trans Kp.upd_d)
          rw [upd_ne ndc.symm]
          exact c3
        · rintro σ' _ ⟨rfl, rfl⟩
          refine ⟨_, rfl, .inl ⟨z, rfl, _, _, rfl, rfl, (show (0 : Int) < 1000417845 by decide), _, rfl, d, _, rfl, g_turn h3, _, _, rfl, rfl, .inl ⟨by decide, by decide⟩, _, _, rfl, rfl, _, _, rfl, rfl, .inl ⟨_, rfl, _, _, rfl, rfl, (show (0 : Int) < 2147340103 by decide), ?_⟩⟩⟩
          generalize hx : (z % 1000417845 + 289440 * (tn + 1) + 13318) % (2147340103 : Int) = x
          have x1 : 0 ≤ x := by rw [← hx]; exact Int.emod_nonneg _ (by decide)
          have x2 : x < 2147340103 := by rw [← hx]; exact Int.emod_lt_of_pos _ (by decide)
          refine ⟨_, rfl, _, rfl, _, _, rfl, rfl, .inl ⟨by omega, by omega⟩, _, rfl, d, _, rfl, g_turn h3, _, _, rfl, rfl, .inl ⟨by decide, by decide⟩, _, _, rfl, rfl, _, _, rfl, rfl, .inl ⟨_, rfl, _, _, rfl, rfl, (show (0 : Int) < 2147334215 by decide), ?_⟩⟩
          generalize hy : (x * x + 6687164 * (tn + 1) + 14958) % (2147334215 : Int) = y
          have y1 : 0 ≤ y := by rw [← hy]; exact Int.emod_nonneg _ (by decide)
          have y2 : y < 2147334215 := by rw [← hy]; exact Int.emod_lt_of_pos _ (by decide)
          refine ⟨_, rfl, _, rfl, _, _, rfl, rfl, .inl ⟨by omega, by omega⟩, _, rfl, _, _, rfl, rfl, .inl ⟨by decide, by decide⟩, _, _, rfl, rfl, .inl ⟨_, rfl, _, _, rfl, rfl, (show (0 : Int) < 2147326965 by decide), _, _, rfl, rfl, ⟨by decide, by decide⟩, .inl ⟨_, rfl, _, rfl, _, _, rfl, rfl, lpos, ?_⟩⟩⟩
          refine ret _ _ ⟨⟨sp + 1, ov, tn + 1, h3, by omega, by omega, a3, by omega, by omega⟩, c3, F.few⟩ kp3
end
end K3

set_option Elab.async false
set_option linter.all false
set_option maxRecDepth 100000
namespace K3
open PySem PySem.Spec PyProof.Rows L2 Gd Qu Nm
section
variable {P : Program} {w : World} {K : PySem.W.Frag} {mg : Str → Option Value} {base : Heap}
def spSame (K : PySem.W.Frag) : Sp := fun vs H Q _ => ∃ (a b : Addr) (dt : PyData), vs = [.ref a, .ref b] ∧ Dp K H (.ref a) dt ∧ Dp K H (.ref b) dt ∧ OkD dt 16000000 ∧ Q (.bl true) H
theorem c__law_same (D : At K mg "_law_same" s__law_same ["_law_told", "_law_due"]) (z_repr : mg "repr" = none) : CalG P w K mg base 1 "_law_same" ["_law_told", "_law_due"] (spSame K) := by
  refine okCG D sc__law_same (fun vs H Q E h => ?_) (fun f cdv A outer s H vs Q E hr hG h => ?_)
  · obtain ⟨a, b, dt, rfl, _⟩ := h
    rfl
  · obtain ⟨a, b, dt, rfl, ha, hb, ok, k⟩ := h
    have nd := sc__law_same.nd
    refine ⟨_, (pss_one (ps_ret (pe_cmpR op_eq (pe_callB (call_repr hr hG) (by rfl) z_repr (by decide +kernel) (pa_cons (pv 0) pa_nil)) (pe_callB (call_repr hr hG) (by rfl) z_repr (by decide +kernel) (pa_cons (pv 1) pa_nil)) (nomark _)))), ?_⟩
    have len := ok.len (by rw [sizeLine_eq]; decide)
    refine ⟨_, rfl, a, dt, rfl, ha, ok.sh, ok.nd, ok.dp, len, _, rfl, b, dt, rfl, hb, ok.sh, ok.nd, ok.dp, len, rfl, ?_⟩
    rw [decide_eq_true rfl]
    exact k
def spGcd : Sp := fun vs H Q _ => ∃ a b : Int, vs = [.int a, .int b] ∧ Q (.int ((Nat.gcd a.natAbs b.natAbs : Nat) : Int)) H
end
end K3

set_option Elab.async false
set_option linter.all false
set_option maxRecDepth 100000
namespace K3
open PySem PySem.Spec PyProof.Rows L2 Gd Qu Nm
theorem FeedAt.neQ {H : Hp} {d c p : Addr} {cells : List Int} {B : Nat} {q : Int × Int} (F : FeedAt H d c cells B) (h : QAt H p q) : p ≠ d := by
  obtain ⟨sp, ov, tn, e, _⟩ := F.ex
  exact ne_of h e (by intro z; cases z)
theorem FeedAt.neL {H : Hp} {d c p : Addr} {cells : List Int} {B : Nat} {xs : List V} (F : FeedAt H d c cells B) (h : H p = some (.lst xs)) : p ≠ d := by
  obtain ⟨sp, ov, tn, e, _⟩ := F.ex
  exact ne_of h e (by intro z; cases z)
theorem FeedAt.neT {H : Hp} {d c p : Addr} {cells : List Int} {B : Nat} {xs : List V} (F : FeedAt H d c cells B) (h : H p = some (.tup xs)) : p ≠ d := by
  obtain ⟨sp, ov, tn, e, _⟩ := F.ex
  exact ne_of h e (by intro z; cases z)
section
variable {P : Program} {w : World} {K : PySem.W.Frag} {mg : Str → Option Value} {base : Heap}
def spAny : Sp := fun vs H Q _ => ∃ (d c a : Addr) (cells : List Int) (B : Nat) (xs : List V), vs = [.ref d, .ref a] ∧ FeedAt H d c cells B ∧ B ≤ 100000 ∧ H a = some (.lst xs) ∧ 1 ≤ xs.length ∧ xs.length ≤ 1000 ∧
  ∀ (x : V) (H' : Hp), x ∈ xs → FeedAt H' d c cells (B + 1) → Kp d H H' → Q x H'
theorem c__law_any (D : At K mg "_law_any" s__law_any ["_law_feed_here", "_law_some"]) (c__law_draw : Cal P w K mg base 1 "_law_draw" spDraw) (z_len : mg "len" = none) : Cal P w K mg base 2 "_law_any" spAny := by
  refine okC D sc__law_any (fun vs H Q E h => ?_) (fun f cdv A outer s H vs Q E hr h => ?_)
  · obtain ⟨d, c, a, cells, B, xs, rfl, _⟩ := h
    rfl
  · obtain ⟨d, c, a, cells, B, xs, rfl, F, hB, ha, l1, l2, k⟩ := h
    have nd := sc__law_any.nd
    refine ⟨_, (pss_one (ps_ret (pe_ix ix_list (pv 1) (pe_k c__law_draw hr (by decide) (by rfl) (pa_cons (pv 0) (pa_cons (pe_callB call_len_seq (by rfl) z_len PySem.boot_len (pa_cons (pv 1) pa_nil)) pa_nil))) (fun _ _ => rfl)))), ?_⟩
    refine ⟨_, rfl, _, rfl, _, rfl, a, xs, rfl, .inl (.inl (.inl ha)), d, c, cells, B, xs.length, rfl, F, by omega, l1, by omega, fun r H' hrl F' kp => ?_⟩
    have ha' := kp a _ (F.neL ha) ha
    exact ⟨a, xs, r, xs[r], rfl, rfl, .inl (.inl ha'), atI_nat (j := r) (List.getElem?_eq_getElem hrl), k _ H' (List.getElem_mem _) F' kp⟩
def spFrac : Sp := fun vs H Q _ => ∃ (d c : Addr) (cells : List Int) (B : Nat), vs = [.ref d] ∧ FeedAt H d c cells B ∧ B ≤ 100000 ∧
  ∀ (q : Int × Int) (p : Addr) (H' : Hp), IsQ q → Sz 150 q → FeedAt H' d c cells (B + 3) → Kp d H H' → QAt H' p q → Q (.ref p) H'
theorem ten40 : (10 : Int) ^ (40 : Int).toNat = 10000000000000000000000000000000000000000 := by decide
theorem ten30 : (10 : Int) ^ (30 : Int).toNat = 1000000000000000000000000000000 := by decide
theorem two150 : (2 : Nat) ^ 150 = 1427247692705959881058285969449495136382746624 := by decide
end
end K3

set_option Elab.async false
set_option linter.all false
set_option maxRecDepth 100000
namespace K3
open PySem PySem.Spec PyProof.Rows L2 Gd Pv
/-- a tuple of whole numbers -/
def TAt (H : Hp) (a : Addr) (xs : List Int) : Prop := H a = some (.tup (xs.map V.int))
theorem TAt.same {H H' : Hp} {a : Addr} {xs : List Int} (s : Same H H') (h : TAt H a xs) : TAt H' a xs := s _ _ h
theorem TAt.sq {K : PySem.W.Frag} {H : Hp} {a : Addr} {xs : List Int} (h : TAt H a xs) : SqT K H a (xs.map V.int) := .inl (.inl h)
section
variable {P : Program} {w : World} {K : PySem.W.Frag} {mg : Str → Option Value} {base : Heap}
def spIsNum : Sp := fun vs H Q _ => ∃ i : Int, vs = [.int i] ∧ Q (.bl (decide (0 ≤ i))) H
theorem c_is_number (D : At K mg "is_number" s_is_number ["thing"]) (c_is_integer : Cal P w K mg base 1 "is_integer" spIsInt) : Cal P w K mg base 2 "is_number" spIsNum := by
  refine okC D sc_is_number (fun vs H Q E h => ?_) (fun f cdv A outer s H vs Q E hr h => ?_)
  · obtain ⟨z, rfl, _⟩ := h
    rfl
  · obtain ⟨z, rfl, q⟩ := h
    have nd := sc_is_number.nd
    refine ⟨_, (pss_one (ps_ret (pe_and (pe_k c_is_integer hr (by decide) (by rfl) (pa_cons (pv 0) pa_nil)) (pe_one (pe_cmpR op_ge (pv 0) pe_int (nomark _)))))), ?_⟩
    exact ⟨_, rfl, z, rfl, true, rfl, iteT ⟨_, rfl, z, 0, rfl, rfl, q⟩⟩
/-- a voice: at least one weight -/
def spIsVoice : Sp := fun vs H Q _ => ∃ (a : Addr) (xs : List Int), vs = [.ref a] ∧ TAt H a xs ∧ 0 < xs.length ∧ xs.length ≤ 1000 ∧ ∀ H', Same H H' → Q (.bl true) H'
theorem c_is_voice (D : At K mg "is_voice" s_is_voice ["thing"]) (c_are_integers : Cal P w K mg base 2 "are_integers" (spAreInts K)) (z_len : mg "len" = none) : Cal P w K mg base 3 "is_voice" spIsVoice := by
  refine okC D sc_is_voice (fun vs H Q E h => ?_) (fun f cdv A outer s H vs Q E hr h => ?_)
  · obtain ⟨a, xs, rfl, _⟩ := h
    rfl
  · obtain ⟨a, xs, rfl, ha, h1, h2, q⟩ := h
    have nd := sc_is_voice.nd
    refine ⟨_, (pss_one (ps_ret (pe_and (pe_k c_are_integers hr (by decide) (by rfl) (pa_cons (pv 0) pa_nil)) (pe_one (pe_cmpR op_gt (pe_callB call_len_seq (by rfl) z_len PySem.boot_len (pa_cons (pv 0) pa_nil)) pe_int (nomark _)))))), ?_⟩
    refine ⟨_, rfl, a, xs, rfl, ha, h2, fun H1 s1 => ⟨true, rfl, iteT ⟨_, rfl, a, _, rfl, .inr (TAt.same s1 ha).sq, _, _, rfl, rfl, ?_⟩⟩⟩
    rw [List.length_map]
    show Q (.bl (decide ((0 : Int) < (xs.length : Nat)))) H1
    rw [decide_eq_true (by omega : (0 : Int) < (xs.length : Nat))]
    exact q H1 s1
def spIsVoiceOf : Sp := fun vs H Q _ => ∃ (a : Addr) (n : Nat) (xs : List Int), vs = [.int n, .ref a] ∧ TAt H a xs ∧ xs.length = n ∧ 0 < n ∧ n ≤ 1000 ∧ ∀ H', Same H H' → Q (.bl true) H'
theorem c_is_voice_of (D : At K mg "is_voice_of" s_is_voice_of ["size", "thing"]) (c_is_voice : Cal P w K mg base 3 "is_voice" spIsVoice) (z_len : mg "len" = none) : Cal P w K mg base 4 "is_voice_of" spIsVoiceOf := by
  refine okC D sc_is_voice_of (fun vs H Q E h => ?_) (fun f cdv A outer s H vs Q E hr h => ?_)
  · obtain ⟨a, n, xs, rfl, _⟩ := h
    rfl
  · obtain ⟨a, n, xs, rfl, ha, rfl, h1, h2, q⟩ := h
    have nd := sc_is_voice_of.nd
    refine ⟨_, (pss_one (ps_ret (pe_and (pe_k c_is_voice hr (by decide) (by rfl) (pa_cons (pv 1) pa_nil)) (pe_one (pe_cmpR op_eq (pe_callB call_len_seq (by rfl) z_len PySem.boot_len (pa_cons (pv 1) pa_nil)) (pv 0) (nomark _)))))), ?_⟩
    refine ⟨_, rfl, a, xs, rfl, ha, h1, h2, fun H1 s1 => ⟨true, rfl, iteT ⟨_, rfl, a, _, rfl, .inr (TAt.same s1 ha).sq, _, rfl, ?_⟩⟩⟩
    rw [List.length_map]
    refine ⟨rfl, ?_⟩
    rw [decide_eq_true rfl]
    exact q H1 s1
def spIsBeat : Sp := fun vs H Q _ => ∃ n b : Nat, vs = [.int n, .int b] ∧ b < n ∧ Q (.bl true) H
theorem c_is_beat (D : At K mg "is_beat" s_is_beat ["size", "thing"]) (c_is_integer : Cal P w K mg base 1 "is_integer" spIsInt) : Cal P w K mg base 2 "is_beat" spIsBeat := by
  refine okC D sc_is_beat (fun vs H Q E h => ?_) (fun f cdv A outer s H vs Q E hr h => ?_)
  · obtain ⟨n, b, rfl, _⟩ := h
    rfl
  · obtain ⟨n, b, rfl, hb, q⟩ := h
    have nd := sc_is_beat.nd
    refine ⟨_, (pss_one (ps_ret (pe_and (pe_k c_is_integer hr (by decide) (by rfl) (pa_cons (pv 1) pa_nil)) (pe_one (pe_chain op_le op_lt pe_int (pv 1) (pv 0)))))), ?_⟩
    refine ⟨_, rfl, b, rfl, true, rfl, iteT ?_⟩
    refine ⟨_, rfl, _, _, rfl, rfl, _, rfl, ?_⟩
    rw [decide_eq_true (by omega : (0 : Int) ≤ (b : Int))]
    refine iteT ⟨_, rfl, _, _, rfl, rfl, ?_⟩
    show Q (.bl (decide ((b : Int) < (n : Int)))) H
    rw [decide_eq_true (by omega : (b : Int) < (n : Int))]
    exact q
end
end K3

set_option Elab.async false
set_option linter.all false
set_option maxRecDepth 100000
namespace K3
open PySem PySem.Spec PyProof.Rows L2 Gd Pv
/-- all below two to the b -/
def Bd (b : Nat) (xs : List Int) : Prop := ∀ x ∈ xs, x.natAbs < 2 ^ b
/-- the weights while the row j is added, k beats in -/
def part (n : Nat) (W F G : Int → Int) (j k : Nat) : Int → Int := fun b => W b + if (b - j) % n < (k : Int) then F j * G (b - j) else 0
theorem part_zero {n : Nat} (hn : 0 < n) (W F G : Int → Int) (j : Nat) : of n (part n W F G j 0) = of n W := of_congr fun b _ => by
  unfold part
  have := Int.emod_nonneg ((b : Int) - j) (show (n : Int) ≠ 0 by omega)
  rw [if_neg (by omega), Int.add_zero]
theorem part_all {n : Nat} (hn : 0 < n) (W F G : Int → Int) (j : Nat) : of n (part n W F G j n) = of n (fun b => W b + F j * G (b - j)) := of_congr fun b _ => by
  unfold part
  have := Int.emod_lt_of_pos ((b : Int) - j) (show (0 : Int) < n by omega)
  rw [if_pos this]
theorem part_step {n : Nat} {W F G : Int → Int} {j k : Nat} (g : Per n G) (hj : j < n) (hk : k < n) :
    (of n (part n W F G j k)).set ((j + k) % n) (part n W F G j k (((j + k) % n : Nat) : Int) + F j * G k) = of n (part n W F G j (k + 1)) := by
  have hn : 0 < n := by omega
  have hb : (j + k) % n < n := Nat.mod_lt _ hn
  refine List.ext_getElem (by rw [List.length_set, of_len, of_len]) fun b h1 h2 => ?_
  rw [of_len] at h2
  have e2 := of_get (F := part n W F G j (k + 1)) h2
  rw [List.getElem?_eq_getElem (by rw [of_len]; exact h2)] at e2
  rw [Option.some.inj e2, List.getElem_set]
  have ib := beat_iff hj hk h2
  by_cases e : (j + k) % n = b
  · rw [if_pos e, e]
    have em : ((b : Int) - j) % n = k := ib.mpr e.symm
    have eg : G ((b : Int) - j) = G k := by rw [← g.mod hn ((b : Int) - j), em]
    unfold part
    rw [em, if_neg (by omega), if_pos (by omega), eg, Int.add_zero]
  · rw [if_neg e]
    have e1 := of_get (F := part n W F G j k) h2
    rw [List.getElem?_eq_getElem (by rw [of_len]; exact h2)] at e1
    rw [Option.some.inj e1]
    have nm : ¬ ((b : Int) - j) % n = k := fun z => e (ib.mp z).symm
    unfold part
    by_cases c : ((b : Int) - j) % n < (k : Int)
    · rw [if_pos c, if_pos (by omega)]
    · rw [if_neg c, if_neg (by omega)]
/-- what the first j rows make -/
def rows (F G : Int → Int) (j : Nat) : Int → Int := fun b => S j fun i => F i * G (b - i)
theorem rows_succ (F G : Int → Int) (j : Nat) (b : Int) : rows F G j b + F j * G (b - j) = rows F G (j + 1) b := rfl
theorem rows_all (n : Nat) (F G : Int → Int) : rows F G n = conv n F G := rfl
section
variable {P : Program} {w : World} {K : PySem.W.Frag} {mg : Str → Option Value} {base : Heap}
def spProd : Sp := fun vs H Q _ => ∃ (a b : Addr) (xs ys : List Int) (n : Nat) (c d : Nat), vs = [.ref a, .ref b] ∧ TAt H a xs ∧ TAt H b ys ∧ xs.length = n ∧ ys.length = n ∧ 0 < n ∧ n ≤ 1000 ∧ Bd c xs ∧ Bd d ys ∧ 0 < c ∧ 0 < d ∧ c + d ≤ 100000 ∧
  ∀ (p : Addr) (H' : Hp), Same H H' → TAt H' p (of n (conv n (per xs) (per ys))) → Q (.ref p) H'
theorem c_product_of (D : At K mg "product_of" s_product_of ["one", "other"]) (c_need : Cal P w K mg base 1 "need" spNeed) (c_is_voice : Cal P w K mg base 3 "is_voice" spIsVoice) (c_is_voice_of : Cal P w K mg base 4 "is_voice_of" spIsVoiceOf)
    (z_len : mg "len" = none) (z_range : mg "range" = none) (z_enumerate : mg "enumerate" = none) (z_tuple : mg "tuple" = none) : Cal P w K mg base 5 "product_of" spProd := by
  refine okC D sc_product_of (fun vs H Q E h => ?_) (fun f cdv A outer s H vs Q E hr h => ?_)
  · obtain ⟨a, b, xs, ys, n, c, d, rfl, _⟩ := h
    rfl
  · obtain ⟨a, b, xs, ys, n, c, d, rfl, ha, hb, lx, ly, hn, hn2, bx, bY, c0, d0, hcd, q⟩ := h
    have nd := sc_product_of.nd
    refine ⟨_, (pss_cons (ps_expr (pe_k c_need hr (by decide) (by rfl) (pa_cons (pe_k c_is_voice hr (by decide) (by rfl) (pa_cons (pv 0) pa_nil)) (pa_cons pe_str pa_nil))))
 (pss_cons (ps_expr (pe_k c_need hr (by decide) (by rfl) (pa_cons (pe_k c_is_voice_of hr (by decide) (by rfl) (pa_cons (pe_callB call_len_seq (by rfl) z_len PySem.boot_len (pa_cons (pv 0) pa_nil)) (pa_cons (pv 1) pa_nil))) (pa_cons pe_str pa_nil))))
 (pss_cons (ps_set (i := 2) nd rfl (.inl rfl) (pe_callB call_len_seq (by rfl) z_len PySem.boot_len (pa_cons (pv 0) pa_nil)))
 (pss_cons (ps_setLc (i := 3) (own := [("_", 7)]) rfl nd rfl rfl (sw_true rfl rfl rfl (by decide +kernel)) (pi_range1 (by rfl) z_range (pa_cons (pv 2) pa_nil)) (blkOk_by (N := N_product_of) (sc := defScope s_product_of) (by decide +kernel)) (fun _ _ _ _ _ => pg_name (i := 7) nd rfl (Or.inl rfl)) (fun _ _ _ _ _ => pts_nil) (fun _ _ _ _ _ => pe_int))
 (pss_cons (ps_for PassesOwn.never rfl (pi_enT (by rfl) z_enumerate (pa_cons (pv 0) pa_nil)) (pg_tup rfl (pgs_cons (pg_name (i := 4) nd rfl (.inl rfl)) (pgs_cons (pg_name (i := 5) nd rfl (.inl rfl)) pgs_nil)))
 (pss_one (ps_for PassesOwn.never rfl (pi_range1 (by rfl) z_range (pa_cons (pv 2) pa_nil)) (pg_name (i := 6) nd rfl (.inl rfl))
 (pss_cons (ps_set (i := 8) nd rfl (.inl rfl) (pe_op op_mod (pe_op op_add (pv 4) (pv 6)) (pv 2)))
 (pss_one (ps_asg (pe_op op_add (pe_ix ix_list (pv 3) (pv 8) (fun _ _ => rfl)) (pe_op op_mulW (pv 5) (pe_ix ix_tup (pv 1) (pv 6) (fun _ _ => rfl)))) (pg_sub (pv 3) (pv 8) set_list)))))))
 (pss_one (ps_ret (pe_tupleOf (by rfl) z_tuple (pv 3))))))))), ?_⟩
    refine ⟨_, rfl, a, xs, rfl, ha, by omega, by omega, fun H1 s1 => ⟨_, rfl, ?_⟩⟩
    have ha1 := ha.same s1
    have hb1 := hb.same s1
    refine ⟨_, rfl, a, _, rfl, .inr ha1.sq, _, rfl, b, n, ys, by rw [List.length_map, lx], hb1, ly, hn, hn2, fun H2 s2 => ⟨_, rfl, ?_⟩⟩
    have ha2 := ha1.same s2
    have hb2 := hb1.same s2
    refine ⟨_, rfl, a, _, rfl, .inr ha2.sq, ?_⟩
    rw [List.length_map, lx]
    refine ⟨_, rfl, n, rfl, by omega, by omega, fun R hR => lc_it walk_range (fun i H' => Same H2 H' ∧ H' R = some (.lst ((List.replicate i (0 : Int)).map V.int))) ⟨same_new hR, upd_same⟩ (fun _ _ _ _ => True.intro) ?_ ?_⟩
    · rintro i x G G' hi ⟨sG, eG⟩ ⟨eH, rfl⟩
      obtain rfl := eH.symm
      have hin : i < n := hi
      refine ⟨rfl, _, eG, ?_, same_own sG hR, ?_⟩
      · rw [List.length_map, List.length_replicate]
        exact small1000 (by omega)
      · rw [upd_same, List.replicate_succ', List.map_append]
        rfl
    · rintro G0 ⟨s0, e0⟩
      have ez : (List.replicate n (0 : Int)) = of n (rows (per xs) (per ys) 0) := by
        refine List.ext_getElem (by rw [List.length_replicate, of_len]) fun i h1 h2 => ?_
        rw [of_len] at h2
        have z := of_get (F := rows (per xs) (per ys) 0) h2
        rw [List.getElem?_eq_getElem (by rw [of_len]; exact h2)] at z
        rw [Option.some.inj z, List.getElem_replicate]
        rfl
      have e0' : G0 R = some (.lst ((of n (rows (per xs) (per ys) 0)).map V.int)) := by
        rw [← ez]
        exact e0
      refine ⟨_, rfl, a, _, rfl, (ha2.same s0).sq, for_it walk_enT (fun j σ H' => ∃ (y4 y5 y6 y7 y8 : Option V), σ = [some (.ref a), some (.ref b), some (.int n), some (.ref R), y4, y5, y6, y7, y8] ∧ Same H2 H' ∧ H' R = some (.lst ((of n (rows (per xs) (per ys) j)).map V.int)))
        ⟨_, _, _, _, _, rfl, s0, e0'⟩ (fun _ _ _ _ z => by obtain ⟨_, _, _, _, _, _, sz, _⟩ := z; exact (ha2.same sz).sq) ?_ ?_⟩
      · rintro j x σ G G' hj ⟨y4, y5, y6, y7, y8, rfl, sG, eG⟩ ⟨T, x1, x2, rfl, nT, rfl, e1, e2⟩
        have hjn : j < n := by
          rw [List.length_map] at hj
          omega
        have hx2 : x2 = V.int (per xs j) := by
          have q1 : (xs.map V.int)[j]? = some x2 := e2
          rw [List.getElem?_map, List.getElem?_eq_getElem (by omega)] at q1
          rw [per_get (by omega)]
          exact (Option.some.inj q1).symm
        have hx1 : x1 = V.int (j : Nat) := (Option.some.inj e1).symm
        subst hx1 hx2
        have pY : Per n (per ys) := ly ▸ per_per ys
        have sT := same_new (o := .tup [V.int (j : Nat), .int (per xs j)]) nT
        refine ⟨T, _, rfl, .inl (.inl upd_same), rfl, _, _, rfl, _, _, rfl, rfl, ?_⟩
        have e3 := sT _ _ eG
        have s3 := sG.trans sT
        generalize upd G T (.tup [V.int (j : Nat), .int (per xs j)]) = G1 at e3 s3 ⊢
        refine ⟨_, rfl, n, rfl, by omega, by omega, for_it walk_range (fun k σ H' => ∃ (y6 y7 y8 : Option V), σ = [some (.ref a), some (.ref b), some (.int n), some (.ref R), some (.int (j : Nat)), some (.int (per xs j)), y6, y7, y8] ∧ Same H2 H' ∧
            H' R = some (.lst ((of n (part n (rows (per xs) (per ys) j) (per xs) (per ys) j k)).map V.int)))
          ⟨_, _, _, rfl, s3, by rw [part_zero hn]; exact e3⟩ (fun _ _ _ _ _ => True.intro) ?_ ?_⟩
        · rintro k x σ G2 G2' hk ⟨y6, y7, y8, rfl, s4, e4⟩ ⟨eH, rfl⟩
          obtain rfl := eH.symm
          have hkn : k < n := hk
          have hbn : (j + k) % n < n := Nat.mod_lt _ hn
          have eb : ((j : Int) + (0 + (k : Int))) % (n : Int) = (((j + k) % n : Nat) : Int) := by
            rw [Int.natCast_emod, Int.zero_add, Int.natCast_add]
          refine ⟨_, rfl, _, rfl, _, _, rfl, rfl, _, rfl, _, _, rfl, rfl, (by omega : (0 : Int) < (n : Int)), ?_⟩
          have hW := of_get (F := part n (rows (per xs) (per ys) j) (per xs) (per ys) j k) hbn
          have at1 : atI ((of n (part n (rows (per xs) (per ys) j) (per xs) (per ys) j k)).map V.int) (((j : Int) + (0 + (k : Int))) % (n : Int)) = some (.int (part n (rows (per xs) (per ys) j) (per xs) (per ys) j k (((j + k) % n : Nat) : Int))) := by
            rw [eb]
            exact atI_nat (j := (j + k) % n) (by rw [List.getElem?_map, hW]; rfl)
          have hy : ys[k]? = some (per ys k) := by
            rw [per_get (by omega)]
            exact List.getElem?_eq_getElem (by omega)
          have at2 : atI (ys.map V.int) (0 + (k : Int)) = some (.int (per ys k)) := by
            rw [Int.zero_add]
            exact atI_nat (j := k) (by rw [List.getElem?_map, hy]; rfl)
          have mY : (per ys k).natAbs < 2 ^ d := bY _ (List.mem_of_getElem? hy)
          have mX : (per xs j).natAbs < 2 ^ c := by
            rw [per_get (by omega)]
            exact bx _ (List.getElem_mem _)
          have cm : CMulW (per xs j) (per ys k) := wide_mul mX mY c0 d0 (by omega)
          have hix : ixN ((of n (part n (rows (per xs) (per ys) j) (per xs) (per ys) j k)).map V.int).length (((j : Int) + (0 + (k : Int))) % (n : Int)) = some ((j + k) % n) := by
            rw [eb, List.length_map, of_len]
            unfold ixN
            rw [if_pos (by omega), if_pos (by omega)]
            rfl
          refine ⟨_, rfl, _, rfl, R, _, _, _, rfl, rfl, .inl (.inl e4), at1, _, rfl, _, rfl, _, rfl, b, _, _, _, rfl, rfl, .inl (.inl (s4 _ _ hb2)), at2, _, _, rfl, rfl, cm, _, _, rfl, rfl, ?_⟩
          refine ⟨_, rfl, _, rfl, R, _, _, _, rfl, rfl, e4, hix, ?_⟩
          refine ⟨_, _, _, rfl, same_own s4 hR, ?_⟩
          rw [upd_same, ← List.map_set, part_step pY hjn hkn]
        · rintro σ G2 ⟨y6, y7, y8, rfl, s4, e4⟩
          refine ⟨_, _, _, _, _, rfl, s4, ?_⟩
          have e5 : H2 = H2 := rfl
          rw [show of n (rows (per xs) (per ys) (j + 1)) = of n (part n (rows (per xs) (per ys) j) (per xs) (per ys) j n) from (part_all hn _ _ _ _).symm ▸ of_congr fun _ _ => rfl]
          exact e4
      · rintro σ G ⟨y4, y5, y6, y7, y8, rfl, sG, eG⟩
        refine ⟨_, rfl, .inl ⟨R, _, rfl, .inl (.inl eG), fun p hp => ?_⟩⟩
        have sp := same_new (o := .tup ((of n (rows (per xs) (per ys) (xs.map V.int).length)).map V.int)) hp
        refine q p _ (((s1.trans s2).trans sG).trans sp) ?_
        unfold TAt
        rw [upd_same, List.length_map, lx, rows_all]
end
end K3

set_option Elab.async false
set_option linter.all false
set_option maxRecDepth 100000
namespace K3
open PySem PySem.Spec PyProof.Rows L2 Gd Pv
theorem zeros (n : Nat) (F G : Int → Int) : List.replicate n (0 : Int) = of n (rows F G 0) := by
  refine List.ext_getElem (by rw [List.length_replicate, of_len]) fun i h1 h2 => ?_
  rw [of_len] at h2
  have z := of_get (F := rows F G 0) h2
  rw [List.getElem?_eq_getElem (by rw [of_len]; exact h2)] at z
  rw [Option.some.inj z, List.getElem_replicate]
  rfl
section
variable {P : Program} {w : World} {K : PySem.W.Frag} {mg : Str → Option Value} {base : Heap}
theorem c__law_product (D : At K mg "_law_product" s__law_product ["_law_first", "_law_second"]) (z_len : mg "len" = none) (z_range : mg "range" = none) (z_int : mg "int" = none) (z_tuple : mg "tuple" = none) : Cal P w K mg base 1 "_law_product" spProd := by
  refine okC D sc__law_product (fun vs H Q E h => ?_) (fun f cdv A outer s H vs Q E hr h => ?_)
  · obtain ⟨a, b, xs, ys, n, c, d, rfl, _⟩ := h
    rfl
  · obtain ⟨a, b, xs, ys, n, c, d, rfl, ha, hb, lx, ly, hn, hn2, bx, bY, c0, d0, hcd, q⟩ := h
    have nd := sc__law_product.nd
    refine ⟨_, (pss_cons (ps_set (i := 2) nd rfl (.inl rfl) (pe_callB call_len_seq (by rfl) z_len PySem.boot_len (pa_cons (pv 0) pa_nil)))
 (pss_cons (ps_set (i := 3) nd rfl (.inl rfl) (pe_op op_rep (pe_lst (pa_cons pe_int pa_nil)) (pv 2)))
 (pss_cons (ps_for PassesOwn.never rfl (pi_range1 (by rfl) z_range (pa_cons (pv 2) pa_nil)) (pg_name (i := 4) nd rfl (.inl rfl))
 (pss_one (ps_for PassesOwn.never rfl (pi_range1 (by rfl) z_range (pa_cons (pe_ifExp (pt_cmpR op_ne (pe_ix ix_tup (pv 0) (pv 4) (fun _ _ => rfl)) pe_int (nomark _)) (pv 2) pe_int) pa_nil)) (pg_name (i := 5) nd rfl (.inl rfl))
 (pss_cons (ps_set (i := 6) nd rfl (.inl rfl) (pe_op op_mod (pe_callTy call_int1 (by rfl) z_int (by decide +kernel) (pa_cons (pe_op op_add (pv 4) (pv 5)) pa_nil)) (pv 2)))
 (pss_one (ps_asg (pe_op op_add (pe_ix ix_list (pv 3) (pv 6) (fun _ _ => rfl)) (pe_op op_mulW (pe_ix ix_tup (pv 0) (pv 4) (fun _ _ => rfl)) (pe_ix ix_tup (pv 1) (pv 5) (fun _ _ => rfl)))) (pg_sub (pv 3) (pv 6) set_list)))))))
 (pss_one (ps_ret (pe_tupleOf (by rfl) z_tuple (pv 3))))))), ?_⟩
    refine ⟨_, rfl, a, _, rfl, .inr ha.sq, ?_⟩
    rw [List.length_map, lx]
    refine ⟨(by show 1 ≤ sizeLine; decide), fun l hl => ⟨_, rfl, l, n, _, rfl, rfl, upd_same, by omega, by omega, ?_, fun R hR => ?_⟩⟩
    · rw [sizeLine_eq, Int.toNat_natCast]
      show 1 * n ≤ _
      omega
    have s0 : Same H (upd (upd H l (.lst [V.int 0])) R (.lst (List.replicate (n : Int).toNat [V.int 0]).flatten)) := (same_new hl).trans (same_new hR)
    have e0 : (upd (upd H l (.lst [V.int 0])) R (.lst (List.replicate (n : Int).toNat [V.int 0]).flatten)) R = some (.lst ((of n (rows (per xs) (per ys) 0)).map V.int)) := by
      rw [upd_same, Int.toNat_natCast]
      have e1 : ∀ m : Nat, (List.replicate m [V.int 0]).flatten = (List.replicate m (0 : Int)).map V.int := by
        intro m
        induction m with
        | zero => rfl
        | succ m ih =>
          rw [List.replicate_succ, List.flatten_cons, ih]
          rfl
      rw [e1, zeros n (per xs) (per ys)]
    have hRH : H R = none := by
      cases z : H R with
      | none => rfl
      | some o =>
        have y := same_new (o := .lst [V.int 0]) hl R o z
        rw [hR] at y
        cases y
    generalize upd (upd H l (.lst [V.int 0])) R (.lst (List.replicate (n : Int).toNat [V.int 0]).flatten) = G0 at s0 e0 ⊢
    refine ⟨_, rfl, n, rfl, by omega, by omega, for_it walk_range (fun j σ H' => ∃ (y4 y5 y6 : Option V), σ = [some (.ref a), some (.ref b), some (.int n), some (.ref R), y4, y5, y6] ∧ Same H H' ∧ H' R = some (.lst ((of n (rows (per xs) (per ys) j)).map V.int)))
      ⟨_, _, _, rfl, s0, e0⟩ (fun _ _ _ _ _ => True.intro) ?_ ?_⟩
    · rintro j x σ G G' hj ⟨y4, y5, y6, rfl, sG, eG⟩ ⟨eH, rfl⟩
      obtain rfl := eH.symm
      have hjn : j < n := hj
      have pY : Per n (per ys) := ly ▸ per_per ys
      have hx : xs[j]? = some (per xs j) := by
        rw [per_get (by omega)]
        exact List.getElem?_eq_getElem (by omega)
      have atx : atI (xs.map V.int) (0 + (j : Int)) = some (.int (per xs j)) := by
        rw [Int.zero_add]
        exact atI_nat (j := j) (by rw [List.getElem?_map, hx]; rfl)
      refine ⟨_, rfl, _, rfl, a, _, _, _, rfl, rfl, .inl (.inl (sG _ _ ha)), atx, ?_⟩
      refine ⟨rfl, _, rfl, ite2 (fun e => ?_) (fun e => ?_)⟩
      · refine ⟨_, rfl, n, rfl, by omega, by omega, for_it walk_range (fun k σ H' => ∃ (y5 y6 : Option V), σ = [some (.ref a), some (.ref b), some (.int n), some (.ref R), some (.int (0 + (j : Int))), y5, y6] ∧ Same H H' ∧
            H' R = some (.lst ((of n (part n (rows (per xs) (per ys) j) (per xs) (per ys) j k)).map V.int)))
          ⟨_, _, rfl, sG, by rw [part_zero hn]; exact eG⟩ (fun _ _ _ _ _ => True.intro) ?_ ?_⟩
        · rintro k x σ G2 G2' hk ⟨y5, y6, rfl, s4, e4⟩ ⟨eH, rfl⟩
          obtain rfl := eH.symm
          have hkn : k < n := hk
          have hbn : (j + k) % n < n := Nat.mod_lt _ hn
          have eb : ((0 + (j : Int)) + (0 + (k : Int))) % (n : Int) = (((j + k) % n : Nat) : Int) := by
            rw [Int.natCast_emod, Int.zero_add, Int.zero_add, Int.natCast_add]
          refine ⟨_, rfl, _, rfl, _, _, rfl, rfl, .inl ⟨_, rfl, _, rfl, _, _, rfl, rfl, (by omega : (0 : Int) < (n : Int)), ?_⟩⟩
          have hW := of_get (F := part n (rows (per xs) (per ys) j) (per xs) (per ys) j k) hbn
          have at1 : atI ((of n (part n (rows (per xs) (per ys) j) (per xs) (per ys) j k)).map V.int) (((0 + (j : Int)) + (0 + (k : Int))) % (n : Int)) = some (.int (part n (rows (per xs) (per ys) j) (per xs) (per ys) j k (((j + k) % n : Nat) : Int))) := by
            rw [eb]
            exact atI_nat (j := (j + k) % n) (by rw [List.getElem?_map, hW]; rfl)
          have hy : ys[k]? = some (per ys k) := by
            rw [per_get (by omega)]
            exact List.getElem?_eq_getElem (by omega)
          have at2 : atI (ys.map V.int) (0 + (k : Int)) = some (.int (per ys k)) := by
            rw [Int.zero_add]
            exact atI_nat (j := k) (by rw [List.getElem?_map, hy]; rfl)
          have mY : (per ys k).natAbs < 2 ^ d := bY _ (List.mem_of_getElem? hy)
          have mX : (per xs j).natAbs < 2 ^ c := bx _ (List.mem_of_getElem? hx)
          have cm : CMulW (per xs j) (per ys k) := wide_mul mX mY c0 d0 (by omega)
          have hix : ixN ((of n (part n (rows (per xs) (per ys) j) (per xs) (per ys) j k)).map V.int).length (((0 + (j : Int)) + (0 + (k : Int))) % (n : Int)) = some ((j + k) % n) := by
            rw [eb, List.length_map, of_len]
            unfold ixN
            rw [if_pos (by omega), if_pos (by omega)]
            rfl
          refine ⟨_, rfl, _, rfl, R, _, _, _, rfl, rfl, .inl (.inl e4), at1, _, rfl, _, rfl, a, _, _, _, rfl, rfl, .inl (.inl (s4 _ _ ha)), atx, _, rfl, _, rfl, b, _, _, _, rfl, rfl, .inl (.inl (s4 _ _ hb)), at2, _, _, rfl, rfl, cm, _, _, rfl, rfl, ?_⟩
          refine ⟨_, rfl, _, rfl, R, _, _, _, rfl, rfl, e4, hix, ?_⟩
          refine ⟨_, _, rfl, same_own s4 hRH, ?_⟩
          rw [upd_same, ← List.map_set, part_step pY hjn hkn]
        · rintro σ G2 ⟨y5, y6, rfl, s4, e4⟩
          refine ⟨_, _, _, rfl, s4, ?_⟩
          rw [show of n (rows (per xs) (per ys) (j + 1)) = of n (part n (rows (per xs) (per ys) j) (per xs) (per ys) j n) from (part_all hn _ _ _ _).symm ▸ of_congr fun _ _ => rfl]
          exact e4
      · have z0 : per xs j = 0 := by
          refine Classical.byContradiction fun z => e ?_
          rw [decide_eq_false (fun y => z (V.int.inj y))]
          rfl
        have er : of n (rows (per xs) (per ys) (j + 1)) = of n (rows (per xs) (per ys) j) := of_congr fun i _ => by
          rw [← rows_succ, z0, Int.zero_mul, Int.add_zero]
        refine ⟨0, rfl, by omega, by omega, for_it walk_range (fun k σ H' => ∃ (y5 y6 : Option V), σ = [some (.ref a), some (.ref b), some (.int n), some (.ref R), some (.int (0 + (j : Int))), y5, y6] ∧ Same H H' ∧
            H' R = some (.lst ((of n (rows (per xs) (per ys) j)).map V.int))) ⟨_, _, rfl, sG, eG⟩ (fun _ _ _ _ _ => True.intro) (fun i _ _ _ _ hi => absurd hi (Nat.not_lt_zero i)) ?_⟩
        rintro σ G2 ⟨y5, y6, rfl, s4, e4⟩
        exact ⟨_, _, _, rfl, s4, by rw [er]; exact e4⟩
    · rintro σ G ⟨y4, y5, y6, rfl, sG, eG⟩
      refine ⟨_, rfl, .inl ⟨R, _, rfl, .inl (.inl eG), fun p hp => ?_⟩⟩
      have sp := same_new (o := .tup ((of n (rows (per xs) (per ys) n)).map V.int)) hp
      refine q p _ (sG.trans sp) ?_
      unfold TAt
      rw [← rows_all]
      exact upd_same
end
end K3

set_option Elab.async false
set_option linter.all false
set_option maxRecDepth 100000
namespace Gd
open PySem PySem.Spec PyProof.Rows L2
/-- a comprehension over a range, whose items F tells -/
theorem lcR {lo : Int} {n : Nat} {g : TG} {te : TE} {vs : List Nat} {σ : L2.St} {H1 : Hp} {D : Addr} {Qd : Hp → Prop} (F : Nat → V) (hD : H1 D = none) (hz : n ≤ 1000)
    (hs : ∀ (i : Nat) (H' : Hp) (R : V → Hp → Prop), i < n → Same H1 H' → (∀ H4, Same H' H4 → R (F i) H4) → g (.int (lo + (i : Nat))) (wipe σ vs) H' fun σ2 H2 => wipe σ2 vs = wipe σ vs ∧ te σ2 H2 R)
    (hd : ∀ H', Same H1 H' → H' D = some (.lst ((List.range n).map F)) → Qd H') :
    ∃ W : Nat → Nat → Hp → Prop, (∃ m, W 0 m (upd H1 D (.lst []))) ∧ ∀ i m H, W i m H →
      ((Itr lo n).stop i H ∧ Qd H) ∨ ((Itr lo n).go i H ∧ ∃ Nx : Hp → Prop, (∀ H', Nx H' → ∃ m', m' < m ∧ W (i + 1) m' H') ∧ ∀ x H', (Itr lo n).yld i H x H' → g x (wipe σ vs) H' fun σ2 H2 => wipe σ2 vs = wipe σ vs ∧ tYes σ2 H2 fun b H3 =>
        if b = true then te σ2 H3 fun y H4 => ∃ acc, H4 D = some (.lst acc) ∧ acc.length < sizeLine ∧ Nx (upd H4 D (.lst (acc ++ [y]))) else Nx H3) := by
  refine lc_it walk_range (fun i H' => Same H1 H' ∧ H' D = some (.lst ((List.range i).map F))) ⟨same_new hD, upd_same⟩ (fun _ _ _ _ => True.intro) ?_ (fun H' z => hd H' z.1 z.2)
  rintro i x G G' hi ⟨sG, eG⟩ ⟨eH, rfl⟩
  obtain rfl := eH.symm
  refine hs i G _ hi sG fun H4 s4 => ?_
  refine ⟨_, s4 _ _ eG, ?_, same_own (sG.trans s4) hD, ?_⟩
  · rw [List.length_map, List.length_range]
    exact small1000 (by omega)
  · rw [upd_same, List.range_succ, List.map_append]
    rfl
end Gd
namespace K3
open PySem PySem.Spec PyProof.Rows L2 Gd Pv
/-- len, told ahead: inside a comprehension its frame is not to be guessed -/
def rLenS (K : PySem.W.Frag) : List V → Hp → VK → Prop := fun xs H Q => ∃ p ys, xs = [V.ref p] ∧ (SqL K H p ys ∨ SqT K H p ys) ∧ Q (.int (ys.length : Nat)) H
theorem of_V (n : Nat) (F : Int → Int) : (List.range n).map (fun j => V.int (F (j : Nat))) = (of n F).map V.int := by
  unfold of
  rw [List.map_map]
  rfl
theorem at_per {xs : List Int} {n : Nat} (hl : xs.length = n) (hn : 0 < n) (i : Int) : atI (xs.map V.int) (i % (n : Int)) = some (.int (per xs i)) := by
  subst hl
  have h1 := Int.emod_nonneg i (show (xs.length : Int) ≠ 0 by omega)
  have h2 := Int.emod_lt_of_pos i (show (0 : Int) < (xs.length : Int) by omega)
  obtain ⟨k, hk⟩ : ∃ k : Nat, i % (xs.length : Int) = k := ⟨_, (Int.toNat_of_nonneg h1).symm⟩
  have hkl : k < xs.length := by omega
  have e : per xs i = xs[k] := by
    rw [← (per_per xs).mod hn i, hk]
    exact per_get hkl
  rw [hk, e]
  exact atI_nat (j := k) (by rw [List.getElem?_map, List.getElem?_eq_getElem hkl]; rfl)
section
variable {P : Program} {w : World} {K : PySem.W.Frag} {mg : Str → Option Value} {base : Heap}
def spTurn : Sp := fun vs H Q _ => ∃ (a : Addr) (xs : List Int) (n : Nat) (k : Int), vs = [.ref a, .int k] ∧ TAt H a xs ∧ xs.length = n ∧ 0 < n ∧ n ≤ 1000 ∧ ∀ (p : Addr) (H' : Hp), Same H H' → TAt H' p (of n fun b => per xs (b - k)) → Q (.ref p) H'
def spMirror : Sp := fun vs H Q _ => ∃ (a : Addr) (xs : List Int) (n : Nat), vs = [.ref a] ∧ TAt H a xs ∧ xs.length = n ∧ 0 < n ∧ n ≤ 1000 ∧ ∀ (p : Addr) (H' : Hp), Same H H' → TAt H' p (of n fun b => per xs (-b)) → Q (.ref p) H'
theorem c_turned (D : At K mg "turned" s_turned ["voice", "k"]) (c_need : Cal P w K mg base 1 "need" spNeed) (c_is_voice : Cal P w K mg base 3 "is_voice" spIsVoice) (c_is_integer : Cal P w K mg base 1 "is_integer" spIsInt)
    (z_len : mg "len" = none) (z_range : mg "range" = none) (z_tuple : mg "tuple" = none) : Cal P w K mg base 4 "turned" spTurn := by
  refine okC D sc_turned (fun vs H Q E h => ?_) (fun f cdv A outer s H vs Q E hr h => ?_)
  · obtain ⟨a, xs, n, k, rfl, _⟩ := h
    rfl
  · obtain ⟨a, xs, n, k, rfl, ha, lx, hn, hn2, q⟩ := h
    have nd := sc_turned.nd
    refine ⟨_, (pss_cons (ps_expr (pe_k c_need hr (by decide) (by rfl) (pa_cons (pe_k c_is_voice hr (by decide) (by rfl) (pa_cons (pv 0) pa_nil)) (pa_cons pe_str pa_nil))))
 (pss_cons (ps_expr (pe_k c_need hr (by decide) (by rfl) (pa_cons (pe_k c_is_integer hr (by decide) (by rfl) (pa_cons (pv 1) pa_nil)) (pa_cons pe_str pa_nil))))
 (pss_cons (ps_set (i := 2) nd rfl (.inr rfl) (pe_callB (r := rLenS K) call_len_seq (by rfl) z_len PySem.boot_len (pa_cons (pv 0) pa_nil)))
 (pss_one (ps_ret (pe_tupleOf (by rfl) z_tuple (pe_lc (own := [("beat", 3)]) rfl nd (pi_range1 (by rfl) z_range (pa_cons (pv 2) pa_nil)) (blkOk_by (N := N_turned) (sc := defScope s_turned) (by decide +kernel)) (fun _ _ _ _ _ => pg_name (i := 3) nd rfl (Or.inl rfl)) (fun _ _ _ _ _ => pts_nil) (fun _ _ _ _ _ => (pe_ix (r := rIxT K) ix_tup (pv 0) (pe_op op_mod (pe_op op_sub (pv 3) (pv 1)) (pv 2)) (fun _ _ => rfl)))))))))), ?_⟩
    refine ⟨_, rfl, a, xs, rfl, ha, by omega, by omega, fun H1 s1 => ⟨_, rfl, ?_⟩⟩
    refine ⟨_, rfl, k, rfl, _, rfl, _, rfl, a, _, rfl, .inr (ha.same s1).sq, ?_⟩
    rw [List.length_map, lx]
    refine ⟨_, rfl, n, rfl, by omega, by omega, fun R hR => lcR (fun j => V.int (per xs ((j : Nat) - k))) hR hn2 ?_ ?_⟩
    · intro i G R2 hi sG h4
      refine ⟨rfl, _, rfl, _, rfl, _, rfl, _, _, rfl, rfl, _, rfl, _, _, rfl, rfl, (by omega : (0 : Int) < (n : Int)), a, _, _, _, rfl, rfl, .inl (.inl (sG _ _ (ha.same s1))), at_per lx hn _, ?_⟩
      rw [Int.zero_add]
      exact h4 G (Same.refl _)
    · intro G sG eG
      rw [Int.toNat_natCast, of_V n fun b => per xs (b - k)] at eG
      refine .inl ⟨R, _, rfl, .inl (.inl eG), fun p hp => q p _ ((s1.trans sG).trans (same_new hp)) upd_same⟩
theorem c_mirrored (D : At K mg "mirrored" s_mirrored ["voice"]) (c_need : Cal P w K mg base 1 "need" spNeed) (c_is_voice : Cal P w K mg base 3 "is_voice" spIsVoice)
    (z_len : mg "len" = none) (z_range : mg "range" = none) (z_tuple : mg "tuple" = none) : Cal P w K mg base 4 "mirrored" spMirror := by
  refine okC D sc_mirrored (fun vs H Q E h => ?_) (fun f cdv A outer s H vs Q E hr h => ?_)
  · obtain ⟨a, xs, n, rfl, _⟩ := h
    rfl
  · obtain ⟨a, xs, n, rfl, ha, lx, hn, hn2, q⟩ := h
    have nd := sc_mirrored.nd
    refine ⟨_, (pss_cons (ps_expr (pe_k c_need hr (by decide) (by rfl) (pa_cons (pe_k c_is_voice hr (by decide) (by rfl) (pa_cons (pv 0) pa_nil)) (pa_cons pe_str pa_nil))))
 (pss_cons (ps_set (i := 1) nd rfl (.inr rfl) (pe_callB (r := rLenS K) call_len_seq (by rfl) z_len PySem.boot_len (pa_cons (pv 0) pa_nil)))
 (pss_one (ps_ret (pe_tupleOf (by rfl) z_tuple (pe_lc (own := [("beat", 2)]) rfl nd (pi_range1 (by rfl) z_range (pa_cons (pv 1) pa_nil)) (blkOk_by (N := N_mirrored) (sc := defScope s_mirrored) (by decide +kernel)) (fun _ _ _ _ _ => pg_name (i := 2) nd rfl (Or.inl rfl)) (fun _ _ _ _ _ => pts_nil) (fun _ _ _ _ _ => (pe_ix (r := rIxT K) ix_tup (pv 0) (pe_op op_mod (pe_un un_neg (pv 2)) (pv 1)) (fun _ _ => rfl))))))))), ?_⟩
    refine ⟨_, rfl, a, xs, rfl, ha, by omega, by omega, fun H1 s1 => ⟨_, rfl, ?_⟩⟩
    refine ⟨_, rfl, a, _, rfl, .inr (ha.same s1).sq, ?_⟩
    rw [List.length_map, lx]
    refine ⟨_, rfl, n, rfl, by omega, by omega, fun R hR => lcR (fun j => V.int (per xs (-(j : Nat)))) hR hn2 ?_ ?_⟩
    · intro i G R2 hi sG h4
      refine ⟨rfl, _, rfl, _, rfl, _, rfl, _, rfl, _, _, rfl, rfl, (by omega : (0 : Int) < (n : Int)), a, _, _, _, rfl, rfl, .inl (.inl (sG _ _ (ha.same s1))), at_per lx hn _, ?_⟩
      rw [Int.zero_add]
      exact h4 G (Same.refl _)
    · intro G sG eG
      rw [Int.toNat_natCast, of_V n fun b => per xs (-b)] at eG
      refine .inl ⟨R, _, rfl, .inl (.inl eG), fun p hp => q p _ ((s1.trans sG).trans (same_new hp)) upd_same⟩
theorem c__law_turned (D : At K mg "_law_turned" s__law_turned ["_law_tune_here", "_law_step"]) (z_len : mg "len" = none) (z_range : mg "range" = none) (z_int : mg "int" = none) (z_tuple : mg "tuple" = none) : Cal P w K mg base 1 "_law_turned" spTurn := by
  refine okC D sc__law_turned (fun vs H Q E h => ?_) (fun f cdv A outer s H vs Q E hr h => ?_)
  · obtain ⟨a, xs, n, k, rfl, _⟩ := h
    rfl
  · obtain ⟨a, xs, n, k, rfl, ha, lx, hn, hn2, q⟩ := h
    have nd := sc__law_turned.nd
    refine ⟨_, (pss_one (ps_ret (pe_tupleOf (by rfl) z_tuple (pe_lc (own := [("_law_j", 2)]) rfl nd (pi_range1 (by rfl) z_range (pa_cons (pe_callB (r := rLenS K) call_len_seq (by rfl) z_len PySem.boot_len (pa_cons (pv 0) pa_nil)) pa_nil)) (blkOk_by (N := N__law_turned) (sc := defScope s__law_turned) (by decide +kernel)) (fun _ _ _ _ _ => pg_name (i := 2) nd rfl (Or.inl rfl)) (fun _ _ _ _ _ => pts_nil) (fun _ _ _ _ _ => (pe_ix (r := rIxT K) ix_tup (pv 0) (pe_op op_mod (pe_callTy call_int1 (by rfl) z_int (by decide +kernel) (pa_cons (pe_op op_sub (pv 2) (pv 1)) pa_nil)) (pe_callB (r := rLenS K) call_len_seq (by rfl) z_len PySem.boot_len (pa_cons (pv 0) pa_nil))) (fun _ _ => rfl))))))), ?_⟩
    refine ⟨_, rfl, a, _, rfl, .inr ha.sq, ?_⟩
    rw [List.length_map, lx]
    refine ⟨n, rfl, by omega, by omega, fun R hR => lcR (fun j => V.int (per xs ((j : Nat) - k))) hR hn2 ?_ ?_⟩
    · intro i G R2 hi sG h4
      refine ⟨rfl, _, rfl, _, rfl, _, rfl, _, _, rfl, rfl, .inl ⟨_, rfl, _, rfl, a, _, rfl, .inr (ha.same sG).sq, ?_⟩⟩
      rw [List.length_map, lx]
      refine ⟨_, _, rfl, rfl, (by omega : (0 : Int) < (n : Int)), a, _, _, _, rfl, rfl, .inl (.inl (sG _ _ ha)), at_per lx hn _, ?_⟩
      rw [Int.zero_add]
      exact h4 G (Same.refl _)
    · intro G sG eG
      rw [Int.toNat_natCast, of_V n fun b => per xs (b - k)] at eG
      refine .inl ⟨R, _, rfl, .inl (.inl eG), fun p hp => q p _ (sG.trans (same_new hp)) upd_same⟩
theorem c__law_mirror (D : At K mg "_law_mirror" s__law_mirror ["_law_tune_here"]) (z_len : mg "len" = none) (z_range : mg "range" = none) (z_int : mg "int" = none) (z_tuple : mg "tuple" = none) : Cal P w K mg base 1 "_law_mirror" spMirror := by
  refine okC D sc__law_mirror (fun vs H Q E h => ?_) (fun f cdv A outer s H vs Q E hr h => ?_)
  · obtain ⟨a, xs, n, rfl, _⟩ := h
    rfl
  · obtain ⟨a, xs, n, rfl, ha, lx, hn, hn2, q⟩ := h
    have nd := sc__law_mirror.nd
    refine ⟨_, (pss_one (ps_ret (pe_tupleOf (by rfl) z_tuple (pe_lc (own := [("_law_j", 1)]) rfl nd (pi_range1 (by rfl) z_range (pa_cons (pe_callB (r := rLenS K) call_len_seq (by rfl) z_len PySem.boot_len (pa_cons (pv 0) pa_nil)) pa_nil)) (blkOk_by (N := N__law_mirror) (sc := defScope s__law_mirror) (by decide +kernel)) (fun _ _ _ _ _ => pg_name (i := 1) nd rfl (Or.inl rfl)) (fun _ _ _ _ _ => pts_nil) (fun _ _ _ _ _ => (pe_ix (r := rIxT K) ix_tup (pv 0) (pe_op op_mod (pe_callTy call_int1 (by rfl) z_int (by decide +kernel) (pa_cons (pe_un un_neg (pv 1)) pa_nil)) (pe_callB (r := rLenS K) call_len_seq (by rfl) z_len PySem.boot_len (pa_cons (pv 0) pa_nil))) (fun _ _ => rfl))))))), ?_⟩
    refine ⟨_, rfl, a, _, rfl, .inr ha.sq, ?_⟩
    rw [List.length_map, lx]
    refine ⟨n, rfl, by omega, by omega, fun R hR => lcR (fun j => V.int (per xs (-(j : Nat)))) hR hn2 ?_ ?_⟩
    · intro i G R2 hi sG h4
      refine ⟨rfl, _, rfl, _, rfl, _, rfl, .inl ⟨_, rfl, _, rfl, a, _, rfl, .inr (ha.same sG).sq, ?_⟩⟩
      rw [List.length_map, lx]
      refine ⟨_, _, rfl, rfl, (by omega : (0 : Int) < (n : Int)), a, _, _, _, rfl, rfl, .inl (.inl (sG _ _ ha)), at_per lx hn _, ?_⟩
      rw [Int.zero_add]
      exact h4 G (Same.refl _)
    · intro G sG eG
      rw [Int.toNat_natCast, of_V n fun b => per xs (-b)] at eG
      refine .inl ⟨R, _, rfl, .inl (.inl eG), fun p hp => q p _ (sG.trans (same_new hp)) upd_same⟩
end
end K3

set_option Elab.async false
set_option linter.all false
set_option maxRecDepth 100000
namespace K3
open PySem PySem.Spec PyProof.Rows L2 Gd Pv
/-- 1 at the told beats -/
def ind (n : Nat) (ss : List Int) : Int → Int := fun b => if b % (n : Int) ∈ ss then 1 else 0
theorem per_ind (n : Nat) (ss : List Int) : Per n (ind n ss) := fun i => by
  unfold ind
  rw [Int.add_emod_right]
theorem ind_at {n j : Nat} (h : j < n) (ss : List Int) : ind n ss j = if (j : Int) ∈ ss then 1 else 0 := by
  unfold ind
  rw [Int.emod_eq_of_lt (by omega) (by omega)]
theorem sameT {K : PySem.W.Frag} {H H' : Hp} {a : Addr} {xs : List V} (e : Same H H') (h : SqT K H a xs) : SqT K H' a xs := by
  rcases h with z | z
  · rcases z with z | ⟨o, z⟩
    · exact .inl (.inl (e a _ z))
    · exact .inl (.inr ⟨o, e a _ z⟩)
  · exact .inr z
theorem inV_ints (i : Int) (ss : List Int) : inV (.int i) (ss.map V.int) = decide (i ∈ ss) := by
  unfold inV
  rw [List.any_map]
  induction ss with
  | nil => rfl
  | cons x xs ih =>
    rw [List.any_cons, ih]
    have e : ((fun y => eqV y (V.int i)) ∘ V.int) x = (x == i) := rfl
    rw [e]
    by_cases h : x = i
    · subst h
      simp
    · have h2 : ¬ i = x := fun z => h z.symm
      simp [h, h2]
theorem flat_ints (ss : List Int) : (ss.map V.int).all flatV = true := by
  rw [List.all_map]
  exact List.all_eq_true.mpr fun _ _ => rfl
theorem sum_S (xs : List Int) : xs.sum = S xs.length (per xs) := by
  have key : ∀ m, m ≤ xs.length → (xs.take m).sum = S m (per xs) := by
    intro m
    induction m with
    | zero =>
      intro _
      rfl
    | succ m ih =>
      intro hm
      have h1 : m < xs.length := hm
      rw [sum_take (List.getElem?_eq_getElem h1), ih (by omega), ← per_get h1]
      rfl
  have e := key xs.length (Nat.le_refl _)
  rw [List.take_length] at e
  exact e
section
variable {P : Program} {w : World} {K : PySem.W.Frag} {mg : Str → Option Value} {base : Heap}
def spStrokes (K : PySem.W.Frag) : Sp := fun vs H Q _ => ∃ (s : Addr) (ss : List Int) (n : Nat), vs = [.int n, .ref s] ∧ (SqL K H s (ss.map V.int) ∨ SqT K H s (ss.map V.int)) ∧ n ≤ 1000 ∧ ∀ (p : Addr) (H' : Hp), Same H H' → TAt H' p (of n (ind n ss)) → Q (.ref p) H'
theorem c__law_strokes (D : At K mg "_law_strokes" s__law_strokes ["_law_size_in", "_law_spots"]) (z_range : mg "range" = none) (z_int : mg "int" = none) (z_tuple : mg "tuple" = none) : Cal P w K mg base 1 "_law_strokes" (spStrokes K) := by
  refine okC D sc__law_strokes (fun vs H Q E h => ?_) (fun f cdv A outer s H vs Q E hr h => ?_)
  · obtain ⟨a, ss, n, rfl, _⟩ := h
    rfl
  · obtain ⟨a, ss, n, rfl, ha, hn2, q⟩ := h
    have nd := sc__law_strokes.nd
    refine ⟨_, (pss_one (ps_ret (pe_tupleOf (by rfl) z_tuple (pe_lc (own := [("_law_j", 2)]) rfl nd (pi_range1 (by rfl) z_range (pa_cons (pv 0) pa_nil)) (blkOk_by (N := N__law_strokes) (sc := defScope s__law_strokes) (by decide +kernel)) (fun _ _ _ _ _ => pg_name (i := 2) nd rfl (Or.inl rfl)) (fun _ _ _ _ _ => pts_nil) (fun _ _ _ _ _ => (pe_callTy call_int1 (by rfl) z_int (by decide +kernel) (pa_cons (pe_cmpR (r := rIn K false) op_in_seq (pv 2) (pv 1) (by rfl)) pa_nil))))))), ?_⟩
    refine ⟨_, rfl, n, rfl, by omega, by omega, fun R hR => lcR (fun j => V.int (ind n ss (j : Nat))) hR hn2 ?_ ?_⟩
    · intro i G R2 hi sG h4
      have ha2 : SqL K G a (ss.map V.int) ∨ SqT K G a (ss.map V.int) := ha.imp (fun z => sG.seq z) (fun z => sameT sG z)
      refine ⟨rfl, _, rfl, _, rfl, a, _, rfl, ha2, rfl, flat_ints ss, .inr ⟨_, rfl, ?_⟩⟩
      have e : (if inV (V.int (0 + (i : Int))) (ss.map V.int) = true then (1 : Int) else 0) = ind n ss i := by
        rw [inV_ints, Int.zero_add, ind_at (n := n) hi]
        by_cases z : (i : Int) ∈ ss
        · rw [if_pos z, if_pos (decide_eq_true z)]
        · rw [if_neg z, if_neg (by rw [decide_eq_false z]; exact Bool.false_ne_true)]
      show R2 (.int (if inV (V.int (0 + (i : Int))) (ss.map V.int) = true then (1 : Int) else 0)) G
      rw [e]
      exact h4 G (Same.refl _)
    · intro G sG eG
      rw [Int.toNat_natCast, of_V n (ind n ss)] at eG
      refine .inl ⟨R, _, rfl, .inl (.inl eG), fun p hp => q p _ (sG.trans (same_new hp)) upd_same⟩
def spOnes : Sp := fun vs H Q _ => ∃ n : Nat, vs = [.int n] ∧ 0 < n ∧ n ≤ 1000 ∧ ∀ (p : Addr) (H' : Hp), Same H H' → TAt H' p (of n fun _ => 1) → Q (.ref p) H'
theorem c_ones_of (D : At K mg "ones_of" s_ones_of ["size"]) (c_need : Cal P w K mg base 1 "need" spNeed) (c_is_size : Cal P w K mg base 2 "is_size" spIsSize) : Cal P w K mg base 3 "ones_of" spOnes := by
  refine okC D sc_ones_of (fun vs H Q E h => ?_) (fun f cdv A outer s H vs Q E hr h => ?_)
  · obtain ⟨n, rfl, _⟩ := h
    rfl
  · obtain ⟨n, rfl, hn, hn2, q⟩ := h
    have nd := sc_ones_of.nd
    refine ⟨_, (pss_cons (ps_expr (pe_k c_need hr (by decide) (by rfl) (pa_cons (pe_k c_is_size hr (by decide) (by rfl) (pa_cons (pv 0) pa_nil)) (pa_cons pe_str pa_nil))))
 (pss_one (ps_ret (pe_op op_repP (pe_tup (pa_cons pe_int pa_nil)) (pv 0))))), ?_⟩
    refine ⟨_, rfl, n, rfl, _, by rw [decide_eq_true (by omega : (1 : Int) ≤ (n : Int))], ?_⟩
    refine ⟨(by show 1 ≤ sizeLine; decide), fun l hl => ⟨_, rfl, l, n, _, rfl, rfl, upd_same, by simp, by omega, by omega, (by show 1 ≤ 1000; decide), fun p H' sm hp => ?_⟩⟩
    refine q p H' ((same_new hl).trans sm) ?_
    have e1 : ∀ m : Nat, (List.replicate m [V.int 1]).flatten = (of m fun _ => 1).map V.int := by
      intro m
      rw [show (of m fun _ => (1 : Int)) = List.replicate m (1 : Int) from List.map_eq_replicate_iff.mpr (fun _ _ => rfl) |>.trans (by rw [List.length_range])]
      induction m with
      | zero => rfl
      | succ m ih =>
        rw [List.replicate_succ, List.flatten_cons, ih]
        rfl
    rw [Int.toNat_natCast, e1] at hp
    exact hp
def spTotal : Sp := fun vs H Q _ => ∃ (a : Addr) (xs : List Int), vs = [.ref a] ∧ TAt H a xs ∧ 0 < xs.length ∧ xs.length ≤ 1000 ∧ ∀ H', Same H H' → Q (.int (S xs.length (per xs))) H'
theorem c_total_of (D : At K mg "total_of" s_total_of ["voice"]) (c_need : Cal P w K mg base 1 "need" spNeed) (c_is_voice : Cal P w K mg base 3 "is_voice" spIsVoice) (z_sum : mg "sum" = none) : Cal P w K mg base 4 "total_of" spTotal := by
  refine okC D sc_total_of (fun vs H Q E h => ?_) (fun f cdv A outer s H vs Q E hr h => ?_)
  · obtain ⟨a, xs, rfl, _⟩ := h
    rfl
  · obtain ⟨a, xs, rfl, ha, hn, hn2, q⟩ := h
    have nd := sc_total_of.nd
    refine ⟨_, (pss_cons (ps_expr (pe_k c_need hr (by decide) (by rfl) (pa_cons (pe_k c_is_voice hr (by decide) (by rfl) (pa_cons (pv 0) pa_nil)) (pa_cons pe_str pa_nil))))
 (pss_one (ps_ret (pe_callB (cr_sumT rfl) (by rfl) z_sum (by decide +kernel) (pa_cons (pv 0) pa_nil))))), ?_⟩
    refine ⟨_, rfl, a, xs, rfl, ha, hn, hn2, fun H1 s1 => ⟨_, rfl, ?_⟩⟩
    refine ⟨_, rfl, a, xs, rfl, (ha.same s1).sq, ?_⟩
    rw [sum_S]
    exact q H1 s1
end
end K3

set_option Elab.async false
set_option linter.all false
set_option maxRecDepth 100000
namespace K3
open PySem PySem.Spec PyProof.Rows L2 Gd Pv RZ
theorem map_of {n : Nat} {xs : List Int} (hl : xs.length = n) (f : Int → Int) : xs.map f = of n fun b => f (per xs b) := by
  subst hl
  refine List.ext_getElem (by rw [List.length_map, of_len]) fun i h1 h2 => ?_
  rw [of_len] at h2
  have z := of_get (F := fun b => f (per xs b)) h2
  rw [List.getElem?_eq_getElem (by rw [of_len]; exact h2)] at z
  rw [Option.some.inj z, List.getElem_map, per_get h2]
section
variable {P : Program} {w : World} {K : PySem.W.Frag} {mg : Str → Option Value} {base : Heap}
def spMult : Sp := fun vs H Q _ => ∃ (a : Addr) (xs : List Int) (n : Nat) (k : Int) (c : Nat), vs = [.ref a, .int k] ∧ TAt H a xs ∧ xs.length = n ∧ 0 < n ∧ n ≤ 1000 ∧ Bd c xs ∧ k.natAbs < 2 ^ c ∧ 0 < c ∧ c ≤ 100000 ∧ ∀ (p : Addr) (H' : Hp), Same H H' → TAt H' p (of n fun b => per xs b * k) → Q (.ref p) H'
theorem c_multiplied (D : At K mg "multiplied" s_multiplied ["voice", "k"]) (c_need : Cal P w K mg base 1 "need" spNeed) (c_is_voice : Cal P w K mg base 3 "is_voice" spIsVoice) (c_is_integer : Cal P w K mg base 1 "is_integer" spIsInt) (z_tuple : mg "tuple" = none) : Cal P w K mg base 4 "multiplied" spMult := by
  refine okC D sc_multiplied (fun vs H Q E h => ?_) (fun f cdv A outer s H vs Q E hr h => ?_)
  · obtain ⟨a, xs, n, k, c, rfl, _⟩ := h
    rfl
  · obtain ⟨a, xs, n, k, c, rfl, ha, lx, hn, hn2, bx, bk, c0, c1, q⟩ := h
    have nd := sc_multiplied.nd
    refine ⟨_, (pss_cons (ps_expr (pe_k c_need hr (by decide) (by rfl) (pa_cons (pe_k c_is_voice hr (by decide) (by rfl) (pa_cons (pv 0) pa_nil)) (pa_cons pe_str pa_nil))))
 (pss_cons (ps_expr (pe_k c_need hr (by decide) (by rfl) (pa_cons (pe_k c_is_integer hr (by decide) (by rfl) (pa_cons (pv 1) pa_nil)) (pa_cons pe_str pa_nil))))
 (pss_one (ps_ret (pe_tupleOf (by rfl) z_tuple (pe_lc (own := [("weight", 2)]) rfl nd (pi_tup (pv 0)) (blkOk_by (N := N_multiplied) (sc := defScope s_multiplied) (by decide +kernel)) (fun _ _ _ _ _ => pg_name (i := 2) nd rfl (Or.inl rfl)) (fun _ _ _ _ _ => pts_nil) (fun _ _ _ _ _ => (pe_op op_mulW (pv 2) (pv 1))))))))), ?_⟩
    refine ⟨_, rfl, a, xs, rfl, ha, by omega, by omega, fun H1 s1 => ⟨_, rfl, ?_⟩⟩
    refine ⟨_, rfl, k, rfl, _, rfl, ?_⟩
    have ha1 := ha.same s1
    refine ⟨_, rfl, a, rfl, ⟨_, .inl (.inl ha1)⟩, fun R hR => lcM (walk_tup (xs := xs.map V.int)) (fun x => match x with | .int i => .int (i * k) | v => v) hR ?_ (fun H' sm => .inl (.inl (sm _ _ ha1))) ?_ ?_⟩
    · rw [List.length_map]
      exact small1000 (by omega)
    · intro x H' R2 hx sm h1
      obtain ⟨i, hi, rfl⟩ := List.mem_map.mp hx
      exact ⟨rfl, _, rfl, _, rfl, _, _, rfl, rfl, wide_mul (bx i hi) bk c0 c0 (by omega), h1 H' (Same.refl _)⟩
    · intro G sG eG
      have e : (xs.map V.int).map (fun x => match x with | .int i => .int (i * k) | v => v) = (of n fun b => per xs b * k).map V.int := by
        rw [← map_of lx fun x => x * k, List.map_map, List.map_map]
        rfl
      rw [e] at eG
      exact .inl ⟨R, _, rfl, .inl (.inl eG), fun p hp => q p _ ((s1.trans sG).trans (same_new hp)) upd_same⟩
def spAdded : Sp := fun vs H Q _ => ∃ (a b : Addr) (xs ys : List Int) (n : Nat), vs = [.ref a, .ref b] ∧ TAt H a xs ∧ TAt H b ys ∧ xs.length = n ∧ ys.length = n ∧ 0 < n ∧ n ≤ 1000 ∧ ∀ (p : Addr) (H' : Hp), Same H H' → TAt H' p (of n fun i => per xs i + per ys i) → Q (.ref p) H'
theorem c_added (D : At K mg "added" s_added ["one", "other"]) (c_need : Cal P w K mg base 1 "need" spNeed) (c_is_voice : Cal P w K mg base 3 "is_voice" spIsVoice) (c_is_voice_of : Cal P w K mg base 4 "is_voice_of" spIsVoiceOf)
    (z_len : mg "len" = none) (z_zip : mg "zip" = none) (z_tuple : mg "tuple" = none) : Cal P w K mg base 5 "added" spAdded := by
  refine okC D sc_added (fun vs H Q E h => ?_) (fun f cdv A outer s H vs Q E hr h => ?_)
  · obtain ⟨a, b, xs, ys, n, rfl, _⟩ := h
    rfl
  · obtain ⟨a, b, xs, ys, n, rfl, ha, hb, lx, ly, hn, hn2, q⟩ := h
    have nd := sc_added.nd
    refine ⟨_, (pss_cons (ps_expr (pe_k c_need hr (by decide) (by rfl) (pa_cons (pe_k c_is_voice hr (by decide) (by rfl) (pa_cons (pv 0) pa_nil)) (pa_cons pe_str pa_nil))))
 (pss_cons (ps_expr (pe_k c_need hr (by decide) (by rfl) (pa_cons (pe_k c_is_voice_of hr (by decide) (by rfl) (pa_cons (pe_callB call_len_seq (by rfl) z_len PySem.boot_len (pa_cons (pv 0) pa_nil)) (pa_cons (pv 1) pa_nil))) (pa_cons pe_str pa_nil))))
 (pss_one (ps_ret (pe_tupleOf (by rfl) z_tuple (pe_lc (own := [("a", 2), ("b", 3)]) rfl nd (pi_zipA (by rfl) z_zip (pa_cons (pv 0) (pa_cons (pv 1) pa_nil))) (blkOk_by (N := N_added) (sc := defScope s_added) (by decide +kernel)) (g := gTup K 2 (gCons (gName 2) (gCons (gName 3) gNil))) (fun _ _ _ _ _ => (pg_tup rfl (pgs_cons (pg_name (i := 2) nd rfl (.inl rfl)) (pgs_cons (pg_name (i := 3) nd rfl (.inl rfl)) pgs_nil)))) (fun _ _ _ _ _ => pts_nil) (fun _ _ _ _ _ => (pe_op op_add (pv 2) (pv 3))))))))), ?_⟩
    refine ⟨_, rfl, a, xs, rfl, ha, by omega, by omega, fun H1 s1 => ⟨_, rfl, ?_⟩⟩
    have ha1 := ha.same s1
    have hb1 := hb.same s1
    refine ⟨_, rfl, a, _, rfl, .inr ha1.sq, _, rfl, b, n, ys, by rw [List.length_map, lx], hb1, ly, hn, hn2, fun H2 s2 => ⟨_, rfl, ?_⟩⟩
    have ha2 := ha1.same s2
    have hb2 := hb1.same s2
    refine ⟨_, rfl, _, rfl, a, b, _, _, rfl, .inr ⟨ha2.sq, hb2.sq, fun R hR => lc_it (walk_zT (xs := xs.map V.int) (ys := ys.map V.int) (n := n) (by rw [List.length_map]; omega) (by rw [List.length_map]; omega) (.inl (by rw [List.length_map]; omega)))
      (fun i H' => Same H2 H' ∧ H' R = some (.lst ((List.range i).map fun j => V.int (per xs (j : Nat) + per ys (j : Nat))))) ⟨same_new hR, upd_same⟩ (fun _ _ _ z => ⟨(ha2.same z.1).sq, (hb2.same z.1).sq⟩) ?_ ?_⟩⟩
    · rintro i x G G' hi ⟨sG, eG⟩ ⟨T, x1, x2, rfl, nT, rfl, e1, e2⟩
      have val : ∀ {zs : List Int} {v : V}, zs.length = n → (zs.map V.int)[i]? = some v → v = .int (per zs i) := by
        intro zs v lz ez
        rw [List.getElem?_map, List.getElem?_eq_getElem (by omega)] at ez
        rw [per_get (by omega)]
        exact (Option.some.inj ez).symm
      obtain rfl := val lx e1
      obtain rfl := val ly e2
      have sT := same_new (o := .tup [V.int (per xs i), .int (per ys i)]) nT
      refine ⟨T, _, rfl, .inl (.inl upd_same), rfl, _, _, rfl, _, _, rfl, rfl, rfl, _, rfl, _, rfl, _, _, rfl, rfl, ?_⟩
      refine ⟨_, sT _ _ eG, ?_, same_own (sG.trans sT) hR, ?_⟩
      · rw [List.length_map, List.length_range]
        exact small1000 (by omega)
      · rw [upd_same, List.range_succ, List.map_append]
        rfl
    · rintro G ⟨sG, eG⟩
      rw [of_V n fun b => per xs b + per ys b] at eG
      exact .inl ⟨R, _, rfl, .inl (.inl eG), fun p hp => q p _ (((s1.trans s2).trans sG).trans (same_new hp)) upd_same⟩
end
end K3

set_option Elab.async false
set_option linter.all false
set_option maxRecDepth 100000
namespace K3
open PySem PySem.Spec PyProof.Rows L2 Gd Pv RZ
theorem cut1 (ss : List Int) : cutV (ss.map V.int) (some 1) none = (ss.drop 1).map V.int := by
  unfold cutV
  rw [show (1 : Int) = ((1 : Nat) : Int) from rfl, HT.sIx_nat, HT.sIx_none]
  cases ss with
  | nil => rfl
  | cons x r =>
    rw [List.length_map, show min 1 (x :: r).length = 1 by rw [List.length_cons]; omega, ← List.map_drop]
    refine List.take_of_length_le ?_
    rw [List.length_map, List.length_drop]
    exact Nat.le_refl _
theorem two {ss : List Int} {i : Nat} {x y : V} (hp : ss.Pairwise (· < ·)) (e1 : (ss.map V.int)[i]? = some x) (e2 : ((ss.drop 1).map V.int)[i]? = some y) : x = .int (ss.getD i 0) ∧ ∃ u, y = .int u ∧ ss.getD i 0 < u := by
  rw [List.getElem?_map] at e1 e2
  rw [List.getElem?_drop] at e2
  cases h1 : ss[i]? with
  | none => rw [h1] at e1; cases e1
  | some a =>
    cases h2 : ss[1 + i]? with
    | none => rw [h2] at e2; cases e2
    | some b =>
      rw [h1] at e1
      rw [h2] at e2
      obtain ⟨k1, q1⟩ := List.getElem?_eq_some_iff.mp h1
      obtain ⟨k2, q2⟩ := List.getElem?_eq_some_iff.mp h2
      have lt := List.pairwise_iff_getElem.mp hp i (1 + i) k1 k2 (by omega)
      rw [q1, q2] at lt
      have ed : ss.getD i 0 = a := by rw [List.getD_eq_getElem?_getD, h1]; rfl
      rw [ed]
      exact ⟨(Option.some.inj e1).symm, b, (Option.some.inj e2).symm, lt⟩
section
variable {P : Program} {w : World} {K : PySem.W.Frag} {mg : Str → Option Value} {base : Heap}
def spIntSet : Sp := fun vs H Q _ => ∃ (a : Addr) (ss : List Int), vs = [.ref a] ∧ TAt H a ss ∧ ss.Pairwise (· < ·) ∧ ss.length ≤ 1000 ∧ ∀ H', Same H H' → Q (.bl true) H'
theorem c_is_integer_set (D : At K mg "is_integer_set" s_is_integer_set ["thing"]) (c_are_integers : Cal P w K mg base 2 "are_integers" (spAreInts K)) (z_all : mg "all" = none) (z_zip : mg "zip" = none) : Cal P w K mg base 3 "is_integer_set" spIntSet := by
  refine okC D sc_is_integer_set (fun vs H Q E h => ?_) (fun f cdv A outer s H vs Q E hr h => ?_)
  · obtain ⟨a, ss, rfl, _⟩ := h
    rfl
  · obtain ⟨a, ss, rfl, ha, hp, hn2, q⟩ := h
    have nd := sc_is_integer_set.nd
    refine ⟨_, (pss_one (ps_ret (pe_and (pe_k c_are_integers hr (by decide) (by rfl) (pa_cons (pv 0) pa_nil)) (pe_one (pe_callB (cr_all rfl) (by rfl) z_all (by decide +kernel) (pa_cons (pe_lc (own := [("low", 1), ("high", 2)]) rfl nd (pi_zipA (by rfl) z_zip (pa_cons (pv 0) (pa_cons (pe_slice sl_tupA (pv 0) (po_some pe_int) po_none) pa_nil))) (blkOk_by (N := N_is_integer_set) (sc := defScope s_is_integer_set) (by decide +kernel)) (g := gTup K 2 (gCons (gName 1) (gCons (gName 2) gNil))) (fun _ _ _ _ _ => (pg_tup rfl (pgs_cons (pg_name (i := 1) nd rfl (.inl rfl)) (pgs_cons (pg_name (i := 2) nd rfl (.inl rfl)) pgs_nil)))) (fun _ _ _ _ _ => pts_nil) (fun _ _ _ _ _ => (pe_cmpR op_lt (pv 1) (pv 2) (nomark _)))) pa_nil)))))), ?_⟩
    refine ⟨_, rfl, a, ss, rfl, ha, hn2, fun H1 s1 => ⟨true, rfl, iteT ?_⟩⟩
    have ha1 := ha.same s1
    refine ⟨_, rfl, _, rfl, _, rfl, a, _, rfl, ha1.sq, fun hc => ?_, fun hc p hp0 => ?_⟩
    · have e0 : ss.drop 1 = ss := by
        have h1 := hc.1
        rw [List.length_map, show (1 : Int) = ((1 : Nat) : Int) from rfl, HT.sIx_nat] at h1
        have h2 : ss = [] := List.eq_nil_of_length_eq_zero (by omega)
        rw [h2]
        rfl
      have tb : TAt H1 a (ss.drop 1) := by
        rw [e0]
        exact ha1
      refine ⟨a, a, _, _, rfl, .inr ⟨(ha1.same (Same.refl H1)).sq, TAt.sq tb, fun R hR => lc_it (walk_zT (xs := ss.map V.int) (ys := (ss.drop 1).map V.int) (n := (ss.drop 1).length) (by rw [List.length_map, List.length_drop]; omega) (by rw [List.length_map]; omega) (.inr (by rw [List.length_map])))
        (fun i H' => Same H1 H' ∧ H' R = some (.lst ((List.replicate i true).map V.bl))) ⟨same_new hR, upd_same⟩ (fun _ _ _ z => ⟨(ha1.same ((Same.refl H1).trans z.1)).sq, TAt.sq (TAt.same z.1 tb)⟩) ?_ ?_⟩⟩
      · rintro i x G G' hi ⟨sG, eG⟩ ⟨T, x1, x2, rfl, nT, rfl, e1, e2⟩
        rw [List.length_drop] at hi
        obtain ⟨rfl, u, rfl, hlt⟩ := two hp e1 e2
        have sT := same_new (o := .tup [V.int (ss.getD i 0), .int u]) nT
        refine ⟨T, _, rfl, .inl (.inl upd_same), rfl, _, _, rfl, _, _, rfl, rfl, rfl, _, rfl, _, rfl, _, _, rfl, rfl, ?_⟩
        refine ⟨_, sT _ _ eG, ?_, same_own (sG.trans sT) hR, ?_⟩
        · rw [List.length_map, List.length_replicate]
          exact small1000 (by omega)
        · rw [upd_same, List.replicate_succ', List.map_append]
          show some (HO.lst (_ ++ [V.bl (decide (ss.getD i 0 < u))])) = _
          rw [decide_eq_true hlt]
          rfl
      · rintro G ⟨sG, eG⟩
        refine ⟨R, _, rfl, .inl (.inl eG), ?_⟩
        rw [List.all_eq_true.mpr fun b hb => by rw [List.eq_of_mem_replicate hb]; rfl]
        exact q G ((s1.trans (Same.refl H1)).trans sG)

    · have sp := same_new (o := .tup ((ss.drop 1).map V.int)) hp0
      have tb : TAt (upd H1 p (.tup ((ss.drop 1).map V.int))) p (ss.drop 1) := upd_same
      rw [cut1]
      generalize upd H1 p (.tup ((ss.drop 1).map V.int)) = G1 at sp tb ⊢
      refine ⟨a, p, _, _, rfl, .inr ⟨(ha1.same sp).sq, TAt.sq tb, fun R hR => lc_it (walk_zT (xs := ss.map V.int) (ys := (ss.drop 1).map V.int) (n := (ss.drop 1).length) (by rw [List.length_map, List.length_drop]; omega) (by rw [List.length_map]; omega) (.inr (by rw [List.length_map])))
        (fun i H' => Same G1 H' ∧ H' R = some (.lst ((List.replicate i true).map V.bl))) ⟨same_new hR, upd_same⟩ (fun _ _ _ z => ⟨(ha1.same ((sp).trans z.1)).sq, TAt.sq (TAt.same z.1 tb)⟩) ?_ ?_⟩⟩
      · rintro i x G G' hi ⟨sG, eG⟩ ⟨T, x1, x2, rfl, nT, rfl, e1, e2⟩
        rw [List.length_drop] at hi
        obtain ⟨rfl, u, rfl, hlt⟩ := two hp e1 e2
        have sT := same_new (o := .tup [V.int (ss.getD i 0), .int u]) nT
        refine ⟨T, _, rfl, .inl (.inl upd_same), rfl, _, _, rfl, _, _, rfl, rfl, rfl, _, rfl, _, rfl, _, _, rfl, rfl, ?_⟩
        refine ⟨_, sT _ _ eG, ?_, same_own (sG.trans sT) hR, ?_⟩
        · rw [List.length_map, List.length_replicate]
          exact small1000 (by omega)
        · rw [upd_same, List.replicate_succ', List.map_append]
          show some (HO.lst (_ ++ [V.bl (decide (ss.getD i 0 < u))])) = _
          rw [decide_eq_true hlt]
          rfl
      · rintro G ⟨sG, eG⟩
        refine ⟨R, _, rfl, .inl (.inl eG), ?_⟩
        rw [List.all_eq_true.mpr fun b hb => by rw [List.eq_of_mem_replicate hb]; rfl]
        exact q G ((s1.trans (sp)).trans sG)

end
end K3

set_option Elab.async false
set_option linter.all false
set_option maxRecDepth 100000
namespace K3
open PySem PySem.Spec PyProof.Rows L2 Gd Pv RZ
/-- beats of a clock, ascending -/
structure Beats (n : Nat) (ss : List Int) : Prop where
  asc : ss.Pairwise (· < ·)
  lo : ∀ s ∈ ss, 0 ≤ s
  hi : ∀ s ∈ ss, s < (n : Int)
theorem asc_len : ∀ {ss : List Int} {l : Int} {m : Nat}, ss.Pairwise (· < ·) → (∀ s ∈ ss, l ≤ s) → (∀ s ∈ ss, s < l + (m : Int)) → ss.length ≤ m
  | [], _, _, _, _, _ => Nat.zero_le _
  | x :: r, l, m, hp, hl, hh => by
    have hx1 := hl x List.mem_cons_self
    have hx2 := hh x List.mem_cons_self
    rw [List.pairwise_cons] at hp
    have ih := asc_len (l := x + 1) (m := (l + (m : Int) - (x + 1)).toNat) hp.2 (fun s hs => by have := hp.1 s hs; omega) (fun s hs => by
      have h1 := hh s (List.mem_cons_of_mem _ hs)
      have h2 := hp.1 s hs
      omega)
    rw [List.length_cons]
    omega
theorem Beats.len {n : Nat} {ss : List Int} (h : Beats n ss) : ss.length ≤ n := asc_len (l := 0) h.asc h.lo fun s hs => by
  have := h.hi s hs
  omega
section
variable {P : Program} {w : World} {K : PySem.W.Frag} {mg : Str → Option Value} {base : Heap}
def spIsBeats : Sp := fun vs H Q _ => ∃ (a : Addr) (ss : List Int) (n : Nat), vs = [.int n, .ref a] ∧ TAt H a ss ∧ Beats n ss ∧ 0 < n ∧ n ≤ 1000 ∧ ∀ H', Same H H' → Q (.bl true) H'
theorem c_is_beats (D : At K mg "is_beats" s_is_beats ["size", "thing"]) (c_is_size : Cal P w K mg base 2 "is_size" spIsSize) (c_is_integer_set : Cal P w K mg base 3 "is_integer_set" spIntSet) (c_is_beat : Cal P w K mg base 2 "is_beat" spIsBeat) (z_all : mg "all" = none) :
    Cal P w K mg base 4 "is_beats" spIsBeats := by
  refine okC D sc_is_beats (fun vs H Q E h => ?_) (fun f cdv A outer s H vs Q E hr h => ?_)
  · obtain ⟨a, ss, n, rfl, _⟩ := h
    rfl
  · obtain ⟨a, ss, n, rfl, ha, hb, hn, hn2, q⟩ := h
    have nd := sc_is_beats.nd
    have hl := hb.len
    refine ⟨_, (pss_one (ps_ret (pe_and (pe_k c_is_size hr (by decide) (by rfl) (pa_cons (pv 0) pa_nil)) (pe_and (pe_k c_is_integer_set hr (by decide) (by rfl) (pa_cons (pv 1) pa_nil)) (pe_one (pe_callB (cr_all rfl) (by rfl) z_all (by decide +kernel) (pa_cons (pe_lc (own := [("beat", 2)]) rfl nd (pi_tup (pv 1)) (blkOk_by (N := N_is_beats) (sc := defScope s_is_beats) (by decide +kernel)) (fun _ _ _ _ _ => pg_name (i := 2) nd rfl (Or.inl rfl)) (fun _ _ _ _ _ => pts_nil) (fun _ _ _ _ _ => (pe_k c_is_beat hr (by decide) (by rfl) (pa_cons (pv 0) (pa_cons (pv 2) pa_nil))))) pa_nil))))))), ?_⟩
    refine ⟨_, rfl, n, rfl, true, by rw [decide_eq_true (by omega : (1 : Int) ≤ (n : Int))], iteT ⟨_, rfl, a, ss, rfl, ha, hb.asc, by omega, fun H1 s1 => ⟨true, rfl, iteT ?_⟩⟩⟩
    have ha1 := ha.same s1
    refine ⟨_, rfl, a, rfl, ⟨_, .inl (.inl ha1)⟩, fun R hR => lcM (walk_tup (xs := ss.map V.int)) (fun _ => .bl true) hR ?_ (fun H' sm => .inl (.inl (sm _ _ ha1))) ?_ ?_⟩
    · rw [List.length_map]
      exact small1000 (by omega)
    · intro x H' R2 hx sm h1
      obtain ⟨i, hi, rfl⟩ := List.mem_map.mp hx
      have g1 := hb.lo i hi
      have g2 := hb.hi i hi
      obtain ⟨j, rfl⟩ := Int.eq_ofNat_of_zero_le g1
      exact ⟨rfl, _, rfl, _, rfl, n, j, rfl, by omega, h1 H' (Same.refl _)⟩
    · intro G sG eG
      have e : (ss.map V.int).map (fun _ => V.bl true) = (List.replicate ss.length true).map V.bl := by
        rw [List.map_map, List.map_replicate]
        exact List.map_eq_replicate_iff.mpr fun _ _ => rfl
      rw [e] at eG
      refine ⟨R, _, rfl, .inl (.inl eG), ?_⟩
      rw [List.all_eq_true.mpr fun b hb => by rw [List.eq_of_mem_replicate hb]; rfl]
      exact q G (s1.trans sG)
/-- the first i of the told beats are struck -/
theorem ind_step {n i : Nat} {ss : List Int} {s : Nat} (hi : ss[i]? = some (s : Int)) (hs : s < n) : (of n (ind n (ss.take i))).set s 1 = of n (ind n (ss.take (i + 1))) := by
  refine List.ext_getElem (by rw [List.length_set, of_len, of_len]) fun b h1 h2 => ?_
  rw [of_len] at h2
  have e2 := of_get (F := ind n (ss.take (i + 1))) h2
  rw [List.getElem?_eq_getElem (by rw [of_len]; exact h2)] at e2
  rw [Option.some.inj e2, List.getElem_set, ind_at h2, List.take_add_one, hi]
  by_cases e : s = b
  · subst e
    rw [if_pos rfl, if_pos (by simp)]
  · rw [if_neg e]
    have e1 := of_get (F := ind n (ss.take i)) h2
    rw [List.getElem?_eq_getElem (by rw [of_len]; exact h2)] at e1
    rw [Option.some.inj e1, ind_at h2]
    have nb : ¬ (b : Int) = (s : Int) := by omega
    simp [nb]
def spVoiceOf : Sp := fun vs H Q _ => ∃ (a : Addr) (ss : List Int) (n : Nat), vs = [.int n, .ref a] ∧ TAt H a ss ∧ Beats n ss ∧ 0 < n ∧ n ≤ 1000 ∧ ∀ (p : Addr) (H' : Hp), Same H H' → TAt H' p (of n (ind n ss)) → Q (.ref p) H'
theorem c_voice_of (D : At K mg "voice_of" s_voice_of ["size", "beats"]) (c_need : Cal P w K mg base 1 "need" spNeed) (c_is_size : Cal P w K mg base 2 "is_size" spIsSize) (c_is_beats : Cal P w K mg base 4 "is_beats" spIsBeats)
    (z_range : mg "range" = none) (z_tuple : mg "tuple" = none) : Cal P w K mg base 5 "voice_of" spVoiceOf := by
  refine okC D sc_voice_of (fun vs H Q E h => ?_) (fun f cdv A outer s H vs Q E hr h => ?_)
  · obtain ⟨a, ss, n, rfl, _⟩ := h
    rfl
  · obtain ⟨a, ss, n, rfl, ha, hb, hn, hn2, q⟩ := h
    have nd := sc_voice_of.nd
    refine ⟨_, (pss_cons (ps_expr (pe_k c_need hr (by decide) (by rfl) (pa_cons (pe_k c_is_size hr (by decide) (by rfl) (pa_cons (pv 0) pa_nil)) (pa_cons pe_str pa_nil))))
 (pss_cons (ps_expr (pe_k c_need hr (by decide) (by rfl) (pa_cons (pe_k c_is_beats hr (by decide) (by rfl) (pa_cons (pv 0) (pa_cons (pv 1) pa_nil))) (pa_cons pe_str pa_nil))))
 (pss_cons (ps_setLc (i := 2) (own := [("_", 4)]) rfl nd rfl rfl (sw_true rfl rfl rfl (by decide +kernel)) (pi_range1 (by rfl) z_range (pa_cons (pv 0) pa_nil)) (blkOk_by (N := N_voice_of) (sc := defScope s_voice_of) (by decide +kernel)) (fun _ _ _ _ _ => pg_name (i := 4) nd rfl (Or.inl rfl)) (fun _ _ _ _ _ => pts_nil) (fun _ _ _ _ _ => pe_int))
 (pss_cons (ps_for PassesOwn.never rfl (pi_tup (pv 1)) (pg_name (i := 3) nd rfl (.inl rfl))
 (pss_one (ps_asg pe_int (pg_sub (pv 2) (pv 3) set_list))))
 (pss_one (ps_ret (pe_tupleOf (by rfl) z_tuple (pv 2)))))))), ?_⟩
    refine ⟨_, rfl, n, rfl, _, by rw [decide_eq_true (by omega : (1 : Int) ≤ (n : Int))], ?_⟩
    refine ⟨_, rfl, _, rfl, a, ss, n, rfl, ha, hb, hn, hn2, fun H1 s1 => ⟨_, rfl, ?_⟩⟩
    have ha1 := ha.same s1
    refine ⟨_, rfl, n, rfl, by omega, by omega, fun R hR => lcR (fun _ => V.int 0) hR hn2 ?_ ?_⟩
    · intro i G R2 hi sG h4
      exact ⟨rfl, h4 G (Same.refl _)⟩
    · intro G sG eG
      have e0 : G R = some (.lst ((of n (ind n (ss.take 0))).map V.int)) := by
        rw [eG, Int.toNat_natCast, of_V n fun _ => 0]
        have z : (of n fun _ => (0 : Int)) = of n (ind n (ss.take 0)) := of_congr fun _ _ => by
          unfold ind
          rw [List.take_zero, if_neg List.not_mem_nil]
        rw [z]
      refine ⟨_, rfl, a, rfl, ⟨_, .inl (.inl (sG _ _ ha1))⟩, for_it (walk_tup (xs := ss.map V.int)) (fun i σ H' => ∃ (y3 y4 : Option V), σ = [some (.int n), some (.ref a), some (.ref R), y3, y4] ∧ Same H1 H' ∧ H' R = some (.lst ((of n (ind n (ss.take i))).map V.int)))
        ⟨_, _, rfl, sG, e0⟩ (fun _ _ _ _ z => by obtain ⟨_, _, _, sz, _⟩ := z; exact .inl (.inl (sz _ _ ha1))) ?_ ?_⟩
      · rintro i x σ G2 G2' hi ⟨y3, y4, rfl, s4, e4⟩ ⟨rfl, ex⟩
        rw [List.getElem?_map] at ex
        cases h1 : ss[i]? with
        | none => rw [h1] at ex; cases ex
        | some v =>
          rw [h1] at ex
          obtain rfl := (Option.some.inj ex).symm
          have mem := List.mem_of_getElem? h1
          have g2 := hb.hi v mem
          obtain ⟨j, rfl⟩ := Int.eq_ofNat_of_zero_le (hb.lo v mem)
          have hix : ixN ((of n (ind n (ss.take i))).map V.int).length (j : Int) = some j := by
            rw [List.length_map, of_len]
            unfold ixN
            rw [if_pos (by omega), if_pos (by omega)]
            rfl
          refine ⟨_, rfl, _, rfl, R, _, _, _, rfl, rfl, e4, hix, ?_⟩
          refine ⟨_, _, rfl, same_own s4 hR, ?_⟩
          rw [upd_same, ← ind_step h1 (by omega), List.map_set]
      · rintro σ G2 ⟨y3, y4, rfl, s4, e4⟩
        refine ⟨_, rfl, .inl ⟨R, _, rfl, .inl (.inl e4), fun p hp => q p _ ((s1.trans s4).trans (same_new hp)) ?_⟩⟩
        unfold TAt
        rw [upd_same, List.length_map, List.take_length]
end
end K3

set_option Elab.async false
set_option linter.all false
set_option maxRecDepth 100000
namespace K3
open PySem PySem.Spec PyProof.Rows L2 Gd Pv RZ
/-- the voice of beat 0, then one product after the other -/
def pw (n : Nat) (F : Int → Int) : Nat → Int → Int
  | 0 => ind n [0]
  | m + 1 => conv n (pw n F m) F
theorem per_pw {n : Nat} {xs : List Int} (hl : xs.length = n) : ∀ m, Per n (pw n (per xs) m)
  | 0 => per_ind n [0]
  | _ + 1 => per_conv (hl ▸ per_per xs)
theorem bd_of {n b : Nat} {F : Int → Int} (h : ∀ j : Nat, j < n → (F j).natAbs < 2 ^ b) : Bd b (of n F) := by
  intro x hx
  unfold of at hx
  obtain ⟨j, hj, rfl⟩ := List.mem_map.mp hx
  exact h j (List.mem_range.mp hj)
theorem abs_conv {n b c : Nat} {F G : Int → Int} (hn : n ≤ 1000) (h : ∀ i, (F i).natAbs ≤ 2 ^ b) (g : ∀ i, (G i).natAbs ≤ 2 ^ c) (i : Int) : (conv n F G i).natAbs < 2 ^ (b + c + 10) := by
  have e := conv_abs (n := n) h g i
  rw [← Nat.pow_add] at e
  have p : 0 < 2 ^ (b + c) := Nat.pow_pos (by decide)
  have e2 : n * 2 ^ (b + c) ≤ 1000 * 2 ^ (b + c) := Nat.mul_le_mul_right _ hn
  rw [Nat.pow_add 2 (b + c) 10, show (2 : Nat) ^ 10 = 1024 from rfl]
  omega
theorem Bd.per {b : Nat} {xs : List Int} (h : Bd b xs) (i : Int) : (per xs i).natAbs ≤ 2 ^ b := per_abs (fun x hx => Nat.le_of_lt (h x hx)) i
theorem abs_ind (n : Nat) (ss : List Int) (i : Int) : (ind n ss i).natAbs < 2 ^ 1 := by
  unfold ind
  split <;> decide
theorem bd_pw {n c : Nat} {xs : List Int} (hl : xs.length = n) (hb : Bd c xs) (hn : n ≤ 1000) (m : Nat) : Bd (m * (c + 10) + 1) (of n (pw n (per xs) m)) := by
  refine bd_of fun j hj => ?_
  have key : ∀ (m : Nat) (i : Int), (pw n (per xs) m i).natAbs < 2 ^ (m * (c + 10) + 1) := by
    intro m
    induction m with
    | zero =>
      intro i
      rw [Nat.zero_mul]
      exact abs_ind n [0] i
    | succ m ih =>
      intro i
      have e := abs_conv hn (fun i => Nat.le_of_lt (ih i)) hb.per i
      rw [show m * (c + 10) + 1 + c + 10 = (m + 1) * (c + 10) + 1 by rw [Nat.succ_mul]; omega] at e
      exact e
  exact key m j
section
variable {P : Program} {w : World} {K : PySem.W.Frag} {mg : Str → Option Value} {base : Heap}
def spPower : Sp := fun vs H Q _ => ∃ (a : Addr) (xs : List Int) (n m c : Nat), vs = [.ref a, .int (m : Nat)] ∧ TAt H a xs ∧ xs.length = n ∧ 0 < n ∧ n ≤ 1000 ∧ m ≤ 1000 ∧ Bd c xs ∧ 0 < c ∧ m * (c + 10) + c ≤ 90000 ∧
  ∀ (p : Addr) (H' : Hp), Same H H' → TAt H' p (of n (pw n (per xs) m)) → Q (.ref p) H'
theorem c__law_power (D : At K mg "_law_power" s__law_power ["_law_tune_here", "_law_times_in"]) (c__law_strokes : Cal P w K mg base 1 "_law_strokes" (spStrokes K)) (c__law_product : Cal P w K mg base 1 "_law_product" spProd)
    (z_len : mg "len" = none) (z_range : mg "range" = none) : Cal P w K mg base 2 "_law_power" spPower := by
  refine okC D sc__law_power (fun vs H Q E h => ?_) (fun f cdv A outer s H vs Q E hr h => ?_)
  · obtain ⟨a, xs, n, m, c, rfl, _⟩ := h
    rfl
  · obtain ⟨a, xs, n, m, c, rfl, ha, lx, hn, hn2, hm, bx, c0, hc, q⟩ := h
    have nd := sc__law_power.nd
    refine ⟨_, (pss_cons (ps_set (i := 2) nd rfl (.inl rfl) (pe_k c__law_strokes hr (by decide) (by rfl) (pa_cons (pe_callB call_len_seq (by rfl) z_len PySem.boot_len (pa_cons (pv 0) pa_nil)) (pa_cons (pe_lst (pa_cons pe_int pa_nil)) pa_nil))))
 (pss_cons (ps_for PassesOwn.never rfl (pi_range1 (by rfl) z_range (pa_cons (pv 1) pa_nil)) (pg_name (i := 3) nd rfl (.inl rfl))
 (pss_one (ps_set (i := 2) nd rfl (.inl rfl) (pe_k c__law_product hr (by decide) (by rfl) (pa_cons (pv 2) (pa_cons (pv 0) pa_nil))))))
 (pss_one (ps_ret (pv 2))))), ?_⟩
    refine ⟨_, rfl, a, _, rfl, .inr ha.sq, (by show 1 ≤ sizeLine; decide), fun l hl => ⟨l, [0], n, by rw [List.length_map, lx], .inl (.inl (.inl upd_same)), hn2, fun p0 H0 sm e0 => ?_⟩⟩
    have s0 := (same_new (o := .lst [V.int 0]) hl).trans sm
    refine ⟨_, rfl, m, rfl, by omega, by omega, for_it walk_range (fun i σ H' => ∃ (p : Addr) (y3 : Option V), σ = [some (.ref a), some (.int (m : Nat)), some (.ref p), y3] ∧ Same H H' ∧ TAt H' p (of n (pw n (per xs) i)))
      ⟨_, _, rfl, s0, e0⟩ (fun _ _ _ _ _ => True.intro) ?_ ?_⟩
    · rintro i x σ G G' hi ⟨p, y3, rfl, sG, eG⟩ ⟨eH, rfl⟩
      obtain rfl := eH.symm
      have hi2 : i < m := hi
      have hm2 : i * (c + 10) ≤ m * (c + 10) := Nat.mul_le_mul_right _ (by omega)
      refine ⟨_, rfl, _, rfl, p, a, _, xs, n, i * (c + 10) + 1, c, rfl, eG, ha.same sG, of_len _ _, lx, hn, hn2, bd_pw lx bx hn2 i, bx, by omega, c0, by omega, fun p2 H2 s2 e2 => ?_⟩
      refine ⟨p2, _, rfl, sG.trans s2, ?_⟩
      rw [show of n (pw n (per xs) (i + 1)) = of n (conv n (per (of n (pw n (per xs) i))) (per xs)) from of_congr fun b _ => (conv_congr (fun z => per_of (per_pw lx i) hn z) (fun _ => rfl) _).symm]
      exact e2
    · rintro σ G ⟨p, y3, rfl, sG, eG⟩
      exact ⟨_, rfl, q p G sG eG⟩
theorem c_power_of (D : At K mg "power_of" s_power_of ["voice", "many"]) (c_need : Cal P w K mg base 1 "need" spNeed) (c_is_voice : Cal P w K mg base 3 "is_voice" spIsVoice) (c_is_number : Cal P w K mg base 2 "is_number" spIsNum)
    (c_voice_of : Cal P w K mg base 5 "voice_of" spVoiceOf) (c_product_of : Cal P w K mg base 5 "product_of" spProd) (z_len : mg "len" = none) (z_range : mg "range" = none) : Cal P w K mg base 6 "power_of" spPower := by
  refine okC D sc_power_of (fun vs H Q E h => ?_) (fun f cdv A outer s H vs Q E hr h => ?_)
  · obtain ⟨a, xs, n, m, c, rfl, _⟩ := h
    rfl
  · obtain ⟨a, xs, n, m, c, rfl, ha, lx, hn, hn2, hm, bx, c0, hc, q⟩ := h
    have nd := sc_power_of.nd
    refine ⟨_, (pss_cons (ps_expr (pe_k c_need hr (by decide) (by rfl) (pa_cons (pe_k c_is_voice hr (by decide) (by rfl) (pa_cons (pv 0) pa_nil)) (pa_cons pe_str pa_nil))))
 (pss_cons (ps_expr (pe_k c_need hr (by decide) (by rfl) (pa_cons (pe_k c_is_number hr (by decide) (by rfl) (pa_cons (pv 1) pa_nil)) (pa_cons pe_str pa_nil))))
 (pss_cons (ps_set (i := 2) nd rfl (.inl rfl) (pe_k c_voice_of hr (by decide) (by rfl) (pa_cons (pe_callB call_len_seq (by rfl) z_len PySem.boot_len (pa_cons (pv 0) pa_nil)) (pa_cons (pe_tup (pa_cons pe_int pa_nil)) pa_nil))))
 (pss_cons (ps_for PassesOwn.never rfl (pi_range1 (by rfl) z_range (pa_cons (pv 1) pa_nil)) (pg_name (i := 3) nd rfl (.inl rfl))
 (pss_one (ps_set (i := 2) nd rfl (.inl rfl) (pe_k c_product_of hr (by decide) (by rfl) (pa_cons (pv 2) (pa_cons (pv 0) pa_nil))))))
 (pss_one (ps_ret (pv 2))))))), ?_⟩
    refine ⟨_, rfl, a, xs, rfl, ha, by omega, by omega, fun H1 s1 => ⟨_, rfl, ?_⟩⟩
    refine ⟨_, rfl, _, rfl, _, by rw [decide_eq_true (by omega : (0 : Int) ≤ (m : Int))], ?_⟩
    refine ⟨_, rfl, a, _, rfl, .inr (ha.same s1).sq, (by show 1 ≤ sizeLine; decide), fun l hl => ⟨l, [0], n, by rw [List.length_map, lx], upd_same, ⟨List.pairwise_singleton _ _, by simp, by simp; omega⟩, hn, hn2, fun p0 H0 sm e0 => ?_⟩⟩
    have s0 := s1.trans ((same_new (o := .tup [V.int 0]) hl).trans sm)
    refine ⟨_, rfl, m, rfl, by omega, by omega, for_it walk_range (fun i σ H' => ∃ (p : Addr) (y3 : Option V), σ = [some (.ref a), some (.int (m : Nat)), some (.ref p), y3] ∧ Same H H' ∧ TAt H' p (of n (pw n (per xs) i)))
      ⟨_, _, rfl, s0, e0⟩ (fun _ _ _ _ _ => True.intro) ?_ ?_⟩
    · rintro i x σ G G' hi ⟨p, y3, rfl, sG, eG⟩ ⟨eH, rfl⟩
      obtain rfl := eH.symm
      have hi2 : i < m := hi
      have hm2 : i * (c + 10) ≤ m * (c + 10) := Nat.mul_le_mul_right _ (by omega)
      refine ⟨_, rfl, _, rfl, p, a, _, xs, n, i * (c + 10) + 1, c, rfl, eG, ha.same sG, of_len _ _, lx, hn, hn2, bd_pw lx bx hn2 i, bx, by omega, c0, by omega, fun p2 H2 s2 e2 => ?_⟩
      refine ⟨p2, _, rfl, sG.trans s2, ?_⟩
      rw [show of n (pw n (per xs) (i + 1)) = of n (conv n (per (of n (pw n (per xs) i))) (per xs)) from of_congr fun b _ => (conv_congr (fun z => per_of (per_pw lx i) hn z) (fun _ => rfl) _).symm]
      exact e2
    · rintro σ G ⟨p, y3, rfl, sG, eG⟩
      exact ⟨_, rfl, q p G sG eG⟩
end
end K3

set_option Elab.async false
set_option linter.all false
set_option maxRecDepth 100000
namespace K3
open PySem PySem.Spec PyProof.Rows L2 Gd Pv RZ
/-- the beats at which F isn't 0 -/
def bts (n : Nat) (F : Int → Int) : List Int := ((List.range n).filter fun j => decide (F (j : Nat) ≠ 0)).map fun (j : Nat) => (j : Int)
theorem bts_succ (n : Nat) (F : Int → Int) : bts (n + 1) F = bts n F ++ (if F n = 0 then [] else [(n : Int)]) := by
  unfold bts
  rw [List.range_succ, List.filter_append, List.map_append]
  by_cases h : F n = 0
  · rw [if_pos h]
    simp [h]
  · rw [if_neg h]
    simp [h]
theorem bts_len (n : Nat) (F : Int → Int) : (bts n F).length ≤ n := by
  unfold bts
  rw [List.length_map]
  exact Nat.le_trans (List.length_filter_le _ _) (by rw [List.length_range]; exact Nat.le_refl _)
section
variable {P : Program} {w : World} {K : PySem.W.Frag} {mg : Str → Option Value} {base : Heap}
def spBeatsOf : Sp := fun vs H Q _ => ∃ (a : Addr) (xs : List Int) (n : Nat), vs = [.ref a] ∧ TAt H a xs ∧ xs.length = n ∧ 0 < n ∧ n ≤ 1000 ∧ ∀ (p : Addr) (H' : Hp), Same H H' → TAt H' p (bts n (per xs)) → Q (.ref p) H'
theorem c_beats_of (D : At K mg "beats_of" s_beats_of ["voice"]) (c_need : Cal P w K mg base 1 "need" spNeed) (c_is_voice : Cal P w K mg base 3 "is_voice" spIsVoice) (z_enumerate : mg "enumerate" = none) (z_tuple : mg "tuple" = none) : Cal P w K mg base 4 "beats_of" spBeatsOf := by
  refine okC D sc_beats_of (fun vs H Q E h => ?_) (fun f cdv A outer s H vs Q E hr h => ?_)
  · obtain ⟨a, xs, n, rfl, _⟩ := h
    rfl
  · obtain ⟨a, xs, n, rfl, ha, lx, hn, hn2, q⟩ := h
    have nd := sc_beats_of.nd
    refine ⟨_, (pss_cons (ps_expr (pe_k c_need hr (by decide) (by rfl) (pa_cons (pe_k c_is_voice hr (by decide) (by rfl) (pa_cons (pv 0) pa_nil)) (pa_cons pe_str pa_nil))))
 (pss_one (ps_ret (pe_tupleOf (by rfl) z_tuple (pe_lc (own := [("beat", 1), ("weight", 2)]) rfl nd (pi_enT (by rfl) z_enumerate (pa_cons (pv 0) pa_nil)) (blkOk_by (N := N_beats_of) (sc := defScope s_beats_of) (by decide +kernel)) (g := gTup K 2 (gCons (gName 1) (gCons (gName 2) gNil))) (fun _ _ _ _ _ => (pg_tup rfl (pgs_cons (pg_name (i := 1) nd rfl (.inl rfl)) (pgs_cons (pg_name (i := 2) nd rfl (.inl rfl)) pgs_nil)))) (fun _ _ _ _ _ => pts_one (pt_cmpR op_ne (pv 2) pe_int (nomark _))) (fun _ _ _ _ _ => (pv 1))))))), ?_⟩
    refine ⟨_, rfl, a, xs, rfl, ha, by omega, by omega, fun H1 s1 => ⟨_, rfl, ?_⟩⟩
    have ha1 := ha.same s1
    refine ⟨_, rfl, a, _, rfl, ha1.sq, fun R hR => lc_it walk_enT (fun i H' => Same H1 H' ∧ H' R = some (.lst ((bts i (per xs)).map V.int))) ⟨same_new hR, upd_same⟩ (fun _ _ _ z => (ha1.same z.1).sq) ?_ ?_⟩
    · rintro i x G G' hi ⟨sG, eG⟩ ⟨T, x1, x2, rfl, nT, rfl, e1, e2⟩
      rw [List.length_map] at hi
      have v1 : x1 = .int (i : Nat) := (Option.some.inj e1).symm
      have v2 : x2 = .int (per xs i) := by
        have z : (xs.map V.int)[i]? = some x2 := e2
        rw [List.getElem?_map, List.getElem?_eq_getElem hi] at z
        rw [per_get hi]
        exact (Option.some.inj z).symm
      subst v1 v2
      have sT := same_new (o := .tup [V.int (i : Nat), .int (per xs i)]) nT
      refine ⟨T, _, rfl, .inl (.inl upd_same), rfl, _, _, rfl, _, _, rfl, rfl, rfl, _, rfl, rfl, _, rfl, ?_⟩
      refine ite2 (fun e => ?_) (fun e => ?_)
      · have nz : ¬ per xs i = 0 := by
          intro z
          rw [z] at e
          exact absurd e (by decide)
        refine ⟨_, rfl, _, sT _ _ eG, ?_, same_own (sG.trans sT) hR, ?_⟩
        · rw [List.length_map]
          exact small1000 (Nat.le_trans (bts_len _ _) (by omega))
        · rw [upd_same, bts_succ, if_neg nz, List.map_append]
          rfl
      · have z0 : per xs i = 0 := by
          refine Classical.byContradiction fun z => e ?_
          rw [decide_eq_false (fun y => z (V.int.inj y))]
          rfl
        refine ⟨sG.trans sT, ?_⟩
        rw [bts_succ, if_pos z0, List.append_nil]
        exact sT _ _ eG
    · rintro G ⟨sG, eG⟩
      rw [List.length_map, lx] at eG
      exact .inl ⟨R, _, rfl, .inl (.inl eG), fun p hp => q p _ ((s1.trans sG).trans (same_new hp)) upd_same⟩
def spSize : Sp := fun vs H Q _ => ∃ (d c : Addr) (cells : List Int) (B : Nat), vs = [.ref d] ∧ FeedAt H d c cells B ∧ B ≤ 100000 ∧ ∀ (n : Nat) (H' : Hp), 1 ≤ n → n ≤ 40 → FeedAt H' d c cells (B + 2) → Kp d H H' → Q (.int (n : Nat)) H'
theorem c__law_size (D : At K mg "_law_size" s__law_size ["_law_feed_here"]) (c__law_draw : Cal P w K mg base 1 "_law_draw" spDraw) : Cal P w K mg base 2 "_law_size" spSize := by
  refine okC D sc__law_size (fun vs H Q E h => ?_) (fun f cdv A outer s H vs Q E hr h => ?_)
  · obtain ⟨d, c, cells, B, rfl, _⟩ := h
    rfl
  · obtain ⟨d, c, cells, B, rfl, F, hB, k⟩ := h
    have nd := sc__law_size.nd
    refine ⟨_, (pss_one (ps_ret (pe_ifExp (pt_cmpR op_gt (pe_k c__law_draw hr (by decide) (by rfl) (pa_cons (pv 0) (pa_cons pe_int pa_nil))) pe_int (nomark _)) (pe_op op_add pe_int (pe_k c__law_draw hr (by decide) (by rfl) (pa_cons (pv 0) (pa_cons pe_int pa_nil)))) (pe_ix ix_list (pe_lst (pa_cons pe_int (pa_cons pe_int (pa_cons pe_int (pa_cons pe_int pa_nil))))) (pe_k c__law_draw hr (by decide) (by rfl) (pa_cons (pv 0) (pa_cons pe_int pa_nil))) (fun _ _ => rfl))))), ?_⟩
    refine ⟨_, rfl, d, c, cells, B, 12, rfl, F, by omega, by decide, by decide, fun r1 H1 h1 F1 k1 => ⟨_, _, rfl, rfl, _, rfl, ite2 (fun _ => ?_) (fun _ => ?_)⟩⟩
    · refine ⟨_, rfl, d, c, cells, B + 1, 12, rfl, F1, by omega, by decide, by decide, fun r2 H2 h2 F2 k2 => ⟨_, _, rfl, rfl, ?_⟩⟩
      have e := k (1 + r2) H2 (by omega) (by omega) F2 (k1.trans k2)
      rw [Int.natCast_add] at e
      exact e
    · refine ⟨(by show 4 ≤ sizeLine; decide), fun l hl => ⟨_, rfl, d, c, cells, B + 1, 4, rfl, F1.same (same_new hl), by omega, by decide, by decide, fun r2 H2 h2 F2 k2 => ?_⟩⟩
      have u0 : (upd H1 l (.lst [V.int 24, .int 30, .int 36, .int 40])) l = some (.lst [V.int 24, .int 30, .int 36, .int 40]) := upd_same
      have el := k2 l _ ((F1.same (same_new hl)).neL u0) u0
      have kk : Kp d H H2 := (k1.trans (same_new hl).kp).trans k2
      have fin : ∀ n : Nat, 1 ≤ n → n ≤ 40 → Q (.int (n : Nat)) H2 := fun n g1 g2 => k n H2 g1 g2 F2 kk
      obtain rfl | rfl | rfl | rfl : r2 = 0 ∨ r2 = 1 ∨ r2 = 2 ∨ r2 = 3 := by omega
      · exact ⟨l, _, _, _, rfl, rfl, .inl (.inl el), atI_nat (j := 0) rfl, fin 24 (by decide) (by decide)⟩
      · exact ⟨l, _, _, _, rfl, rfl, .inl (.inl el), atI_nat (j := 1) rfl, fin 30 (by decide) (by decide)⟩
      · exact ⟨l, _, _, _, rfl, rfl, .inl (.inl el), atI_nat (j := 2) rfl, fin 36 (by decide) (by decide)⟩
      · exact ⟨l, _, _, _, rfl, rfl, .inl (.inl el), atI_nat (j := 3) rfl, fin 40 (by decide) (by decide)⟩
end
end K3

set_option Elab.async false
set_option linter.all false
set_option maxRecDepth 100000
namespace K3
open PySem PySem.Spec PyProof.Rows L2 Gd Pv RZ
/-- a comprehension over a range whose items draw from the feed -/
theorem lcDraw {lo : Int} {n m B : Nat} {d c : Addr} {cells : List Int} {g : TG} {te : TE} {vs : List Nat} {σ : L2.St} {H1 : Hp} {R : Addr} {Qd : Hp → Prop} (hR : H1 R = none) (F : FeedAt H1 d c cells B) (hn : n ≤ 1000)
    (hs : ∀ (i : Nat) (H' : Hp) (Y : V → Hp → Prop), i < n → FeedAt H' d c cells (B + m * i) → Kp d H1 H' → (∀ (z : Int) (H4 : Hp), z.natAbs < 2 ^ 137 → FeedAt H4 d c cells (B + m * i + m) → Kp d H' H4 → Y (.int z) H4) →
      g (.int (lo + (i : Nat))) (wipe σ vs) H' fun σ2 H2 => wipe σ2 vs = wipe σ vs ∧ te σ2 H2 Y)
    (hd : ∀ (xs : List Int) (H' : Hp), xs.length = n → Bd 137 xs → FeedAt H' d c cells (B + m * n) → Kp d H1 H' → H' R = some (.lst (xs.map V.int)) → Qd H') :
    ∃ W : Nat → Nat → Hp → Prop, (∃ m, W 0 m (upd H1 R (.lst []))) ∧ ∀ i m H, W i m H →
      ((Itr lo n).stop i H ∧ Qd H) ∨ ((Itr lo n).go i H ∧ ∃ Nx : Hp → Prop, (∀ H', Nx H' → ∃ m', m' < m ∧ W (i + 1) m' H') ∧ ∀ x H', (Itr lo n).yld i H x H' → g x (wipe σ vs) H' fun σ2 H2 => wipe σ2 vs = wipe σ vs ∧ tYes σ2 H2 fun b H3 =>
        if b = true then te σ2 H3 fun y H4 => ∃ acc, H4 R = some (.lst acc) ∧ acc.length < sizeLine ∧ Nx (upd H4 R (.lst (acc ++ [y]))) else Nx H3) := by
  refine lc_it walk_range (fun i H' => ∃ xs : List Int, xs.length = i ∧ Bd 137 xs ∧ FeedAt H' d c cells (B + m * i) ∧ Kp d H1 H' ∧ H' R = some (.lst (xs.map V.int)))
    ⟨[], rfl, fun x hx => absurd hx List.not_mem_nil, F.same (same_new hR), (same_new hR).kp, upd_same⟩ (fun _ _ _ _ => True.intro) ?_ (fun H' ⟨xs, h1, h2, h3, h4, h5⟩ => hd xs H' h1 h2 h3 h4 h5)
  rintro i x G G' hi ⟨xs, rfl, hb, FG, kG, eG⟩ ⟨eH, rfl⟩
  obtain rfl := eH.symm
  have nRd : R ≠ d := FG.neL eG
  refine hs xs.length G _ hi FG kG fun z H4 hz F4 k4 => ?_
  have e4 := k4 R _ nRd eG
  have nRc : c ≠ R := fun y => by
    have q1 := F.cl
    rw [y, hR] at q1
    cases q1
  refine ⟨_, e4, ?_, xs ++ [z], by rw [List.length_append]; rfl, ?_, ?_, ?_, ?_⟩
  · rw [List.length_map]
    exact small1000 (by omega)
  · intro y hy
    rcases List.mem_append.mp hy with y1 | y1
    · exact hb y y1
    · rw [List.mem_singleton.mp y1]
      exact hz
  · obtain ⟨sp, ov, tn, q1, q2⟩ := F4.ex
    have F5 : FeedAt (upd H4 R (.lst (xs.map V.int ++ [V.int z]))) d c cells (B + m * xs.length + m) := ⟨⟨sp, ov, tn, by rw [upd_ne nRd.symm]; exact q1, q2⟩, by rw [upd_ne nRc]; exact F4.cl, F4.few⟩
    rw [Nat.mul_succ, ← Nat.add_assoc]
    exact F5
  · intro b o hb' ho
    rw [upd_ne (ne_of_none ho hR)]
    exact k4 b o hb' (kG b o hb' ho)
  · rw [upd_same, List.map_append]
    rfl
def rgOk (n t : Nat) : Bool := Builtin.Range.small 0 (n : Int) (t : Int) && (decide (Builtin.Range.rangeSize 0 (n : Int) (t : Int) = ((Builtin.Range.rangeSize 0 (n : Int) (t : Int)).toNat : Int)) && decide ((Builtin.Range.rangeSize 0 (n : Int) (t : Int)).toNat ≤ 40))
theorem rg_all : ((List.range 41).all fun n => (List.range 41).all fun t => t == 0 || rgOk n t) = true := by decide +kernel
theorem rg_ok {n t : Nat} (hn : n ≤ 40) (h1 : 1 ≤ t) (h2 : t ≤ n) : ∃ m : Nat, RgC 0 (n : Int) (t : Int) m ∧ m ≤ 40 := by
  have a := List.all_eq_true.mp rg_all n (List.mem_range.mpr (by omega))
  have b := List.all_eq_true.mp a t (List.mem_range.mpr (by omega))
  rw [Bool.or_eq_true] at b
  rcases b with b | b
  · have := eq_of_beq b
    omega
  · unfold rgOk at b
    rw [Bool.and_eq_true, Bool.and_eq_true] at b
    exact ⟨_, ⟨by omega, by omega, b.1, of_decide_eq_true b.2.1⟩, of_decide_eq_true b.2.2⟩
/-- the divisors among what is walked -/
def dvO (n : Nat) (x : V) : Option V := match x with
  | .int t => if (n : Int) % t = 0 then some (.int t) else none
  | _ => none
theorem rep_flat (z : Int) : ∀ m : Nat, (List.replicate m [V.int z]).flatten = (List.replicate m z).map V.int
  | 0 => rfl
  | m + 1 => by
    rw [List.replicate_succ, List.flatten_cons, rep_flat z m]
    rfl
theorem ten9 : (10 : Int) ^ (9 : Int).toNat = 1000000000 := by decide
theorem two137 : (2 : Nat) ^ 137 = 174224571863520493293247799005065324265472 := by decide
section
variable {P : Program} {w : World} {K : PySem.W.Frag} {mg : Str → Option Value} {base : Heap}
def spTune : Sp := fun vs H Q _ => ∃ (d c : Addr) (cells : List Int) (B n : Nat), vs = [.ref d, .int (n : Nat)] ∧ FeedAt H d c cells B ∧ B ≤ 50000 ∧ 1 ≤ n ∧ n ≤ 40 ∧
  ∀ (xs : List Int) (p : Addr) (H' : Hp), xs.length = n → Bd 137 xs → FeedAt H' d c cells (B + 100) → Kp d H H' → TAt H' p xs → Q (.ref p) H'
theorem c__law_tune (D : At K mg "_law_tune" s__law_tune ["_law_feed_here", "_law_size_in"]) (c__law_draw : Cal P w K mg base 1 "_law_draw" spDraw) (c__law_any : Cal P w K mg base 2 "_law_any" spAny) (c__law_turned : Cal P w K mg base 1 "_law_turned" spTurn)
    (c__law_strokes : Cal P w K mg base 1 "_law_strokes" (spStrokes K)) (z_range : mg "range" = none) (z_int : mg "int" = none) (z_tuple : mg "tuple" = none) (z_list : mg "list" = none) : Cal P w K mg base 3 "_law_tune" spTune := by
  refine okC D sc__law_tune (fun vs H Q E h => ?_) (fun f cdv A outer s H vs Q E hr h => ?_)
  · obtain ⟨d, c, cells, B, n, rfl, _⟩ := h
    rfl
  · obtain ⟨d, c, cells, B, n, rfl, F, hB, hn, hn2, k⟩ := h
    have nd := sc__law_tune.nd
    refine ⟨_, (pss_cons (ps_set (i := 2) nd rfl (.inl rfl) (pe_k c__law_draw hr (by decide) (by rfl) (pa_cons (pv 0) (pa_cons pe_int pa_nil))))
 (pss_cons (ps_if (pt_cmpR op_eq (pv 2) pe_int (nomark _))
 (pss_one (ps_ret (pe_op op_repP (pe_tup (pa_cons (pe_op op_sub (pe_k c__law_draw hr (by decide) (by rfl) (pa_cons (pv 0) (pa_cons pe_int pa_nil))) pe_int) pa_nil)) (pv 1))))
 pss_nil)
 (pss_cons (ps_if (pt_cmpR op_eq (pv 2) pe_int (nomark _))
 (pss_cons (ps_set (i := 3) nd rfl (.inl rfl) (pe_k c__law_any hr (by decide) (by rfl) (pa_cons (pv 0) (pa_cons (pe_lc (own := [("_law_part", 6)]) rfl nd (pi_range2 (by rfl) z_range (pa_cons pe_int (pa_cons (pe_op op_add (pv 1) pe_int) pa_nil))) (blkOk_by (N := N__law_tune) (sc := defScope s__law_tune) (by decide +kernel)) (fun _ _ _ _ _ => pg_name (i := 6) nd rfl (Or.inl rfl)) (fun _ _ _ _ _ => pts_one (pt_cmpR op_eq (pe_op op_mod (pe_callTy call_int1 (by rfl) z_int (by decide +kernel) (pa_cons (pv 1) pa_nil)) (pv 6)) pe_int (nomark _))) (fun _ _ _ _ _ => (pv 6))) pa_nil))))
 (pss_one (ps_ret (pe_k c__law_turned hr (by decide) (by rfl) (pa_cons (pe_k c__law_strokes hr (by decide) (by rfl) (pa_cons (pv 1) (pa_cons (pe_listRg3 rfl (by rfl) z_list (by rfl) z_range (pa_cons pe_int (pa_cons (pv 1) (pa_cons (pv 3) pa_nil)))) pa_nil))) (pa_cons (pe_k c__law_draw hr (by decide) (by rfl) (pa_cons (pv 0) (pa_cons (pv 1) pa_nil))) pa_nil))))))
 pss_nil)
 (pss_cons (ps_if (pt_cmpR op_eq (pv 2) pe_int (nomark _))
 (pss_cons (ps_set (i := 4) nd rfl (.inr rfl) (pe_k c__law_any hr (by decide) (by rfl) (pa_cons (pv 0) (pa_cons (pe_lst (pa_cons pe_int (pa_cons (pe_op op_pow pe_int pe_int) (pa_cons (pe_op op_pow pe_int pe_int) pa_nil)))) pa_nil))))
 (pss_one (ps_ret (pe_tupleOf (by rfl) z_tuple (pe_lc (own := [("_law_j", 5)]) rfl nd (pi_range1 (by rfl) z_range (pa_cons (pv 1) pa_nil)) (blkOk_by (N := N__law_tune) (sc := defScope s__law_tune) (by decide +kernel)) (fun _ _ _ _ _ => pg_name (i := 5) nd rfl (Or.inl rfl)) (fun _ _ _ _ _ => pts_nil) (fun _ _ _ _ _ => (pe_op op_add (pe_op op_mul (pe_op op_sub (pe_k c__law_draw hr (by decide) (by rfl) (pa_cons (pv 0) (pa_cons pe_int pa_nil))) pe_int) (pv 4)) (pe_k c__law_draw hr (by decide) (by rfl) (pa_cons (pv 0) (pa_cons pe_int pa_nil))))))))))
 pss_nil)
 (pss_cons (ps_if (pt_cmpR op_eq (pv 2) pe_int (nomark _))
 (pss_one (ps_ret (pe_tupleOf (by rfl) z_tuple (pe_lc (own := [("_law_j", 5)]) rfl nd (pi_range1 (by rfl) z_range (pa_cons (pv 1) pa_nil)) (blkOk_by (N := N__law_tune) (sc := defScope s__law_tune) (by decide +kernel)) (fun _ _ _ _ _ => pg_name (i := 5) nd rfl (Or.inl rfl)) (fun _ _ _ _ _ => pts_nil) (fun _ _ _ _ _ => (pe_op op_sub (pe_k c__law_draw hr (by decide) (by rfl) (pa_cons (pv 0) (pa_cons pe_int pa_nil))) pe_int))))))
 pss_nil)
 (pss_one (ps_ret (pe_tupleOf (by rfl) z_tuple (pe_lc (own := [("_law_j", 5)]) rfl nd (pi_range1 (by rfl) z_range (pa_cons (pv 1) pa_nil)) (blkOk_by (N := N__law_tune) (sc := defScope s__law_tune) (by decide +kernel)) (fun _ _ _ _ _ => pg_name (i := 5) nd rfl (Or.inl rfl)) (fun _ _ _ _ _ => pts_nil) (fun _ _ _ _ _ => (pe_callTy call_int1 (by rfl) z_int (by decide +kernel) (pa_cons (pe_cmpR op_eq (pe_k c__law_draw hr (by decide) (by rfl) (pa_cons (pv 0) (pa_cons pe_int pa_nil))) pe_int (nomark _)) pa_nil)))))))))))), ?_⟩
    refine ⟨_, rfl, d, c, cells, B, 6, rfl, F, by omega, by decide, by decide, fun way H1 hw F1 k1 => ?_⟩
    refine ⟨_, rfl, rfl, _, rfl, ite2 (fun _ => ?_) (fun _ => ?_)⟩
    · refine ⟨_, rfl, d, c, cells, B + 1, 5, rfl, F1, by omega, by decide, by decide, fun r2 H2 h2 F2 k2 => ⟨_, _, rfl, rfl, (by show 1 ≤ sizeLine; decide), fun l hl => ⟨_, rfl, l, n, _, rfl, rfl, upd_same, by simp, by omega, by omega, (by show 1 ≤ 1000; decide), fun p H' sm hp => ?_⟩⟩⟩
      rw [Int.toNat_natCast, rep_flat] at hp
      refine k (List.replicate n ((r2 : Int) - 2)) p H' (List.length_replicate ..) ?_ (((F2.same (same_new hl)).same sm).mono (by omega)) (((k1.trans k2).trans (same_new hl).kp).trans sm.kp) hp
      intro x hx
      rw [List.eq_of_mem_replicate hx, two137]
      omega
    · refine ⟨_, rfl, rfl, _, rfl, ite2 (fun _ => ?_) (fun _ => ?_)⟩
      · refine ⟨_, rfl, _, rfl, _, _, rfl, rfl, 1, (n : Int) + 1, rfl, ⟨by omega, by omega, by omega, by omega⟩, fun R hR => ?_⟩
        have en : ((n : Int) + 1 - 1).toNat = n := by omega
        rw [en]
        refine lcF walk_rg (dvO n) hR (by rw [rgG_len]; exact small1000 (by omega)) (fun _ _ => True.intro) ?_ ?_
        · intro x H' Y Z hx sm q1 q2
          unfold rgG at hx
          obtain ⟨i, hi, rfl⟩ := List.mem_map.mp hx
          have i0 : (0 : Int) < 1 + (i : Nat) := by omega
          refine ⟨rfl, _, rfl, .inl ⟨_, rfl, _, rfl, _, _, rfl, rfl, i0, rfl, _, rfl, ite2 (fun e => ?_) (fun e => ?_)⟩⟩
          · have z : (n : Int) % (1 + (i : Nat)) = 0 := V.int.inj (of_decide_eq_true e)
            exact ⟨_, rfl, q1 _ (by unfold dvO; simp only [if_pos z]) H' (Same.refl _)⟩
          · have z : ¬ (n : Int) % (1 + (i : Nat)) = 0 := fun y => e (decide_eq_true (congrArg V.int y))
            exact q2 (by unfold dvO; simp only [if_neg z]) H' (Same.refl _)
        · intro G sG eG
          have mem1 : V.int 1 ∈ (rgG 1 n).filterMap (dvO n) := by
            refine List.mem_filterMap.mpr ⟨.int 1, ?_, ?_⟩
            · unfold rgG
              exact List.mem_map.mpr ⟨0, List.mem_range.mpr (by omega), rfl⟩
            · unfold dvO
              simp only [Int.emod_one, if_pos]
          have l1 : 1 ≤ ((rgG 1 n).filterMap (dvO n)).length := List.length_pos_of_mem mem1
          have l2 : ((rgG 1 n).filterMap (dvO n)).length ≤ 1000 := Nat.le_trans (List.length_filterMap_le _ _) (by rw [rgG_len]; omega)
          refine ⟨d, c, R, cells, B + 1, _, rfl, F1.same sG, by omega, eG, l1, l2, fun x H2 hx F2 k2 => ?_⟩
          obtain ⟨u, hu, eu⟩ := List.mem_filterMap.mp hx
          unfold rgG at hu
          obtain ⟨i, hi, rfl⟩ := List.mem_map.mp hu
          have hi2 := List.mem_range.mp hi
          have ex : x = .int (((1 + i : Nat)) : Int) := by
            unfold dvO at eu
            simp only at eu
            split at eu
            · rw [← Option.some.inj eu, Int.natCast_add]
              rfl
            · cases eu
          subst ex
          obtain ⟨m, hm, hm2⟩ := rg_ok (t := 1 + i) hn2 (by omega) (by omega)
          have kk := (k1.trans sG.kp).trans k2
          refine ⟨_, rfl, _, rfl, _, rfl, 0, (n : Int), ((1 + i : Nat) : Int), m, rfl, hm, by omega, fun l hl => ?_⟩
          have es : ((List.range m).map fun k => V.int (0 + (k : Nat) * ((1 + i : Nat) : Int))) = ((List.range m).map fun (k : Nat) => (0 : Int) + (k : Int) * ((1 + i : Nat) : Int)).map V.int := by
            rw [List.map_map]
            rfl
          rw [es]
          refine ⟨l, _, n, rfl, .inl (.inl (.inl upd_same)), by omega, fun p3 H3 s3 e3 => ?_⟩
          have F3 := (F2.same (same_new hl)).same s3
          refine ⟨_, rfl, _, rfl, d, c, cells, B + 2, n, rfl, F3, by omega, by omega, by omega, fun r4 H4 h4 F4 k4 => ?_⟩
          have e4 : TAt H4 p3 _ := k4 p3 _ (F3.neT e3) e3
          refine ⟨p3, _, n, (r4 : Int), rfl, e4, of_len _ _, by omega, by omega, fun p5 H5 s5 e5 => ?_⟩
          refine k _ p5 H5 (of_len _ _) ?_ ((F4.same s5).mono (by omega)) ((((kk.trans (same_new hl).kp).trans s3.kp).trans k4).trans s5.kp) e5
          refine bd_of fun j hj => ?_
          have pi := per_of (per_ind n ((List.range m).map fun (k : Nat) => (0 : Int) + (k : Int) * ((1 + i : Nat) : Int))) (by omega) ((j : Int) - r4)
          rw [pi]
          exact Nat.lt_of_lt_of_le (abs_ind _ _ _) (by rw [two137]; decide)
      · refine ⟨_, rfl, rfl, _, rfl, ite2 (fun _ => ?_) (fun _ => ?_)⟩
        · refine ⟨_, rfl, _, _, rfl, rfl, ⟨by decide, by decide, by decide⟩, _, _, rfl, rfl, ⟨by decide, by decide, by decide⟩, (by show 3 ≤ sizeLine; decide), fun l hl => ?_⟩
          refine ⟨d, c, l, cells, B + 1, _, rfl, F1.same (same_new hl), by omega, upd_same, (by decide), (by decide), fun x H2 hx F2 k2 => ?_⟩
          obtain ⟨gr, rfl, hg⟩ : ∃ gr : Int, x = .int gr ∧ (0 ≤ gr ∧ gr ≤ 10000000000000000000000000000000000000000) := by
            simp only [List.mem_cons, List.not_mem_nil, or_false] at hx
            rcases hx with rfl | rfl | rfl
            · exact ⟨_, rfl, by decide, by decide⟩
            · exact ⟨_, rfl, by rw [ten9]; decide, by rw [ten9]; decide⟩
            · exact ⟨_, rfl, by rw [ten40]; decide, by rw [ten40]; decide⟩
          have kk := (k1.trans (same_new hl).kp).trans k2
          refine ⟨_, rfl, n, rfl, by omega, by omega, fun R hR => lcDraw (m := 2) hR F2 (by rw [Int.toNat_natCast]; omega) ?_ ?_⟩
          · intro i G Y hi FG kG h4
            rw [Int.toNat_natCast] at hi
            refine ⟨rfl, _, rfl, d, c, cells, _, 9, rfl, FG, by omega, by decide, by decide, fun r3 H3 h3 F3 k3 => ⟨_, _, rfl, rfl, _, rfl, _, _, rfl, rfl, .inl ⟨by omega, by omega⟩, ?_⟩⟩
            refine ⟨_, rfl, d, c, cells, _, 5, rfl, F3, by omega, by decide, by decide, fun r5 H5 h5 F5 k5 => ⟨_, _, rfl, rfl, ?_⟩⟩
            refine h4 _ H5 ?_ F5 (k3.trans k5)
            rw [two137]
            have b1 : ((r3 : Int) - 4) * gr ≤ 4 * gr := Int.mul_le_mul_of_nonneg_right (by omega) hg.1
            have b2 : (-4) * gr ≤ ((r3 : Int) - 4) * gr := Int.mul_le_mul_of_nonneg_right (by omega) hg.1
            omega
          · intro xs G hl hb FG kG eG
            rw [Int.toNat_natCast] at hl FG
            exact .inl ⟨R, _, rfl, .inl (.inl eG), fun p hp => k xs p _ hl hb ((FG.same (same_new hp)).mono (by omega)) ((kk.trans kG).trans (same_new hp).kp) upd_same⟩
        · refine ⟨_, rfl, rfl, _, rfl, ite2 (fun _ => ?_) (fun _ => ?_)⟩
          · refine ⟨_, rfl, n, rfl, by omega, by omega, fun R hR => lcDraw (m := 1) hR F1 (by rw [Int.toNat_natCast]; omega) ?_ ?_⟩
            · intro i G Y hi FG kG h4
              rw [Int.toNat_natCast] at hi
              refine ⟨rfl, _, rfl, d, c, cells, _, 7, rfl, FG, by omega, by decide, by decide, fun r3 H3 h3 F3 k3 => ⟨_, _, rfl, rfl, ?_⟩⟩
              exact h4 _ H3 (by rw [two137]; omega) F3 k3
            · intro xs G hl hb FG kG eG
              rw [Int.toNat_natCast] at hl FG
              exact .inl ⟨R, _, rfl, .inl (.inl eG), fun p hp => k xs p _ hl hb ((FG.same (same_new hp)).mono (by omega)) ((k1.trans kG).trans (same_new hp).kp) upd_same⟩
          · refine ⟨_, rfl, n, rfl, by omega, by omega, fun R hR => lcDraw (m := 1) hR F1 (by rw [Int.toNat_natCast]; omega) ?_ ?_⟩
            · intro i G Y hi FG kG h4
              rw [Int.toNat_natCast] at hi
              refine ⟨rfl, _, rfl, d, c, cells, _, 3, rfl, FG, by omega, by decide, by decide, fun r3 H3 h3 F3 k3 => ⟨rfl, .inr ⟨_, rfl, ?_⟩⟩⟩
              refine h4 _ H3 ?_ F3 k3
              rw [two137]
              split <;> decide
            · intro xs G hl hb FG kG eG
              rw [Int.toNat_natCast] at hl FG
              exact .inl ⟨R, _, rfl, .inl (.inl eG), fun p hp => k xs p _ hl hb ((FG.same (same_new hp)).mono (by omega)) ((k1.trans kG).trans (same_new hp).kp) upd_same⟩
end
end K3

set_option Elab.async false
set_option linter.all false
set_option maxRecDepth 100000
namespace K3
open PySem PySem.Spec PyProof.Rows L2 Gd Pv RZ
section
variable {P : Program} {w : World} {K : PySem.W.Frag} {mg : Str → Option Value} {base : Heap}
def spSameW (K : PySem.W.Frag) : Sp := fun vs H Q _ => ∃ (a b : Addr) (d : PyData) (ds : List PyData) (n : Nat), vs = [.ref a, .ref b] ∧ Dp K H (.ref a) (.list (d :: ds)) ∧ Dp K H (.ref b) (.list (d :: ds)) ∧ OkW (d :: ds) 10 n ∧ n ≤ 15999000 ∧ Q (.bl true) H
theorem c__law_sameW (hN : base.NoDigits) (D : At K mg "_law_same" s__law_same ["_law_told", "_law_due"]) (z_repr : mg "repr" = none) : CalG P w K mg base 1 "_law_same" ["_law_told", "_law_due"] (spSameW K) := by
  refine okCG D sc__law_same (fun vs H Q E h => ?_) (fun f cdv A outer s H vs Q E hr hG h => ?_)
  · obtain ⟨a, b, d, ds, n, rfl, _⟩ := h
    rfl
  · obtain ⟨a, b, d, ds, n, rfl, ha, hb, ok, hn, k⟩ := h
    have nd := sc__law_same.nd
    refine ⟨_, (pss_one (ps_ret (pe_cmpR op_eq (pe_callB (call_reprW hr hG hN) (by rfl) z_repr (by decide +kernel) (pa_cons (pv 0) pa_nil)) (pe_callB (call_reprW hr hG hN) (by rfl) z_repr (by decide +kernel) (pa_cons (pv 1) pa_nil)) (nomark _)))), ?_⟩
    have len := ok.list (by omega)
    have dp : (PyData.list (d :: ds)).depth ≤ 20 := by
      have := ok.dp
      simp only [PyData.depth]
      omega
    refine ⟨_, rfl, a, d, ds, rfl, ha, ok.wi, dp, len, _, rfl, b, d, ds, rfl, hb, ok.wi, dp, len, rfl, ?_⟩
    rw [decide_eq_true rfl]
    exact k
end
end K3

set_option Elab.async false
set_option linter.all false
set_option maxRecDepth 100000
namespace K3
open PySem PySem.Spec PyProof.Rows L2 Gd Pv RZ
/-- a tuple of whole numbers as data -/
def dT (xs : List Int) : PyData := .tuple (xs.map PyData.int)
theorem dpT {K : PySem.W.Frag} {H : Hp} {a : Addr} {xs : List Int} (h : TAt H a xs) : Dp K H (.ref a) (dT xs) := .tup h.sq (dpInts xs)
theorem okT {xs : List Int} {b n : Nat} (h : Bd b xs) (hb : b ≤ 14000) (hl : xs.length ≤ n) : OkW [dT xs] 2 (4303 * n + 5) := by
  have e := okW_tup (okW_ints h hb)
  exact ⟨e.wi, e.dp, Nat.le_trans e.co (by have := Nat.mul_le_mul_left 4303 hl; omega)⟩
theorem _root_.Gd.OkW.mono {ds : List PyData} {k j n : Nat} (h : OkW ds k n) (hk : k ≤ j) : OkW ds j n := ⟨h.wi, Nat.le_trans h.dp hk, h.co⟩
theorem Bd.mono {b c : Nat} {xs : List Int} (h : Bd b xs) (hc : b ≤ c) : Bd c xs := fun x hx => Nat.lt_of_lt_of_le (h x hx) (Nat.pow_le_pow_right (by decide) hc)
theorem pw_one {n : Nat} {xs : List Int} (hl : xs.length = n) (hn : 0 < n) : of n (pw n (per xs) 1) = xs := by
  have e : of n (pw n (per xs) 1) = of n (per xs) := of_congr fun b _ => by
    show conv n (ind n [0]) (per xs) b = _
    have pX : Per n (per xs) := hl ▸ per_per xs
    rw [conv_comm (per_ind n [0]) pX, conv_one 0 hn pX (fun j hj => by rw [ind_at hj]; simp) (per_ind n [0])]
    congr 1
  rw [e, ← hl, of_per]
theorem pw_two {n : Nat} {xs : List Int} (hl : xs.length = n) (hn : 0 < n) : of n (pw n (per xs) 2) = of n (conv n (per xs) (per xs)) := of_congr fun b _ => by
  show conv n (pw n (per xs) 1) (per xs) b = _
  refine conv_congr (fun i => ?_) (fun _ => rfl) _
  have e := per_of (per_pw hl 1) hn i
  rw [← e, pw_one hl hn]
section
variable {P : Program} {w : World} {K : PySem.W.Frag} {mg : Str → Option Value} {base : Heap}
def spPowR : Sp := fun vs H Q _ => ∃ (d c a : Addr) (cells xs : List Int) (B n : Nat), vs = [.ref d, .ref a] ∧ FeedAt H d c cells B ∧ B ≤ 50000 ∧ TAt H a xs ∧ xs.length = n ∧ 0 < n ∧ n ≤ 40 ∧ Bd 137 xs ∧ ∀ H', FeedAt H' d c cells (B + 2) → Kp d H H' → Q (.bl true) H'
theorem c__law_are_powers_right (D : At K mg "_law_are_powers_right" s__law_are_powers_right ["_law_feed_here", "_law_tune_here"]) (c__law_draw : Cal P w K mg base 1 "_law_draw" spDraw) (c__law_power : Cal P w K mg base 2 "_law_power" spPower) (c_power_of : Cal P w K mg base 6 "power_of" spPower)
    (c__law_strokes : Cal P w K mg base 1 "_law_strokes" (spStrokes K)) (c__law_product : Cal P w K mg base 1 "_law_product" spProd) (c__law_same : CalG P w K mg base 1 "_law_same" ["_law_told", "_law_due"] (spSameW K)) (z_len : mg "len" = none) :
    CalG P w K mg base 7 "_law_are_powers_right" ["_law_feed_here", "_law_tune_here"] spPowR := by
  refine okCG D sc__law_are_powers_right (fun vs H Q E h => ?_) (fun f cdv A outer s H vs Q E hr hG h => ?_)
  · obtain ⟨d, c, a, cells, xs, B, n, rfl, _⟩ := h
    rfl
  · obtain ⟨d, c, a, cells, xs, B, n, rfl, F, hB, ha, lx, hn, hn2, bx, k⟩ := h
    have nd := sc__law_are_powers_right.nd
    refine ⟨_, (pss_cons (ps_set (i := 2) nd rfl (.inl rfl) pe_int)
 (C8.pss_cut (ps_if (PW.pt (pw_and (pt_cmpR op_lt (pe_callB call_len_seq (by rfl) z_len PySem.boot_len (pa_cons (pv 1) pa_nil)) pe_int (nomark _)) (pw_and1 (pt_cmpR op_eq (pe_k c__law_draw hr (by decide) (by rfl) (pa_cons (pv 0) (pa_cons pe_int pa_nil))) pe_int (nomark _)))))
 (pss_one (ps_set (i := 2) nd rfl (.inl rfl) pe_int))
 pss_nil)
 (pss_cons (ps_set (i := 3) nd rfl (.inl rfl) (pe_k c__law_draw hr (by decide) (by rfl) (pa_cons (pv 0) (pa_cons (pv 2) pa_nil))))
 (pss_cons (ps_set (i := 4) nd rfl (.inl rfl) (pe_k c__law_power hr (by decide) (by rfl) (pa_cons (pv 1) (pa_cons (pv 3) pa_nil))))
 (pss_cons (ps_set (i := 5) nd rfl (.inl rfl) (pe_lst (pa_cons (pe_k c_power_of hr (by decide) (by rfl) (pa_cons (pv 1) (pa_cons (pv 3) pa_nil))) (pa_cons (pe_k c_power_of hr (by decide) (by rfl) (pa_cons (pv 1) (pa_cons pe_int pa_nil))) (pa_cons (pe_k c_power_of hr (by decide) (by rfl) (pa_cons (pv 1) (pa_cons pe_int pa_nil))) (pa_cons (pe_k c_power_of hr (by decide) (by rfl) (pa_cons (pv 1) (pa_cons pe_int pa_nil))) pa_nil))))))
 (pss_one (ps_ret (pe_kG c__law_same hr hG (by decide) (by rfl) (pa_cons (pv 5) (pa_cons (pe_lst (pa_cons (pv 4) (pa_cons (pe_k c__law_strokes hr (by decide) (by rfl) (pa_cons (pe_callB call_len_seq (by rfl) z_len PySem.boot_len (pa_cons (pv 1) pa_nil)) (pa_cons (pe_lst (pa_cons pe_int pa_nil)) pa_nil))) (pa_cons (pv 1) (pa_cons (pe_k c__law_product hr (by decide) (by rfl) (pa_cons (pv 1) (pa_cons (pv 1) pa_nil))) pa_nil))))) pa_nil)))))))))), ?_⟩
    have nad : ∀ {G : Hp}, Kp d H G → TAt G a xs := fun kp => kp a _ (F.neT ha) ha
    refine ⟨fun σ H' => ∃ most : Nat, σ = [some (.ref d), some (.ref a), some (.int (most : Nat)), none, none, none] ∧ 1 ≤ most ∧ most ≤ 31 ∧ FeedAt H' d c cells (B + 1) ∧ Kp d H H', ?_, ?_⟩
    · refine ⟨_, rfl, a, _, rfl, .inr ha.sq, _, _, rfl, rfl, _, rfl, ite2 (fun _ => ?_) (fun _ => ?_)⟩
      · refine ⟨_, rfl, d, c, cells, B, 6, rfl, F, by omega, by decide, by decide, fun r H1 h1 F1 k1 => ⟨rfl, _, rfl, ite2 (fun _ => ?_) (fun _ => ?_)⟩⟩
        · exact ⟨31, rfl, by decide, by decide, F1, k1⟩
        · exact ⟨7, rfl, by decide, by decide, F1, k1⟩
      · exact iteF ⟨7, rfl, by decide, by decide, F.mono (by omega), Kp.refl _ _⟩
    · rintro σ H1 ⟨most, rfl, g1, g2, F1, k1⟩
      refine ⟨_, rfl, _, rfl, d, c, cells, B + 1, most, rfl, F1, by omega, g1, by omega, fun m H2 hm F2 k2 => ?_⟩
      have ha2 := nad (k1.trans k2)
      have hmm : m * (137 + 10) ≤ 30 * (137 + 10) := Nat.mul_le_mul_right _ (by omega)
      refine ⟨_, rfl, _, rfl, a, xs, n, m, 137, rfl, ha2, lx, hn, by omega, by omega, bx, by decide, by omega, fun p4 H4 s4 e4 => ?_⟩
      refine ⟨_, rfl, _, rfl, a, xs, n, m, 137, rfl, ha2.same s4, lx, hn, by omega, by omega, bx, by decide, by omega, fun p5 H5 s5 e5 => ?_⟩
      have s25 := s4.trans s5
      refine ⟨_, rfl, a, xs, n, 0, 137, rfl, ha2.same s25, lx, hn, by omega, by omega, bx, by decide, by omega, fun p6 H6 s6 e6 => ?_⟩
      have s26 := s25.trans s6
      refine ⟨_, rfl, a, xs, n, 1, 137, rfl, ha2.same s26, lx, hn, by omega, by omega, bx, by decide, by omega, fun p7 H7 s7 e7 => ?_⟩
      have s27 := s26.trans s7
      refine ⟨_, rfl, a, xs, n, 2, 137, rfl, ha2.same s27, lx, hn, by omega, by omega, bx, by decide, by omega, fun p8 H8 s8 e8 => ?_⟩
      have s28 := s27.trans s8
      refine ⟨(by show 4 ≤ sizeLine; decide), fun l hl => ?_⟩
      have sl := same_new (o := .lst [V.ref p5, .ref p6, .ref p7, .ref p8]) hl
      have el : (upd H8 l (.lst [V.ref p5, .ref p6, .ref p7, .ref p8])) l = some (.lst [V.ref p5, .ref p6, .ref p7, .ref p8]) := upd_same
      have s29 := s28.trans sl
      have s49 : Same H4 (upd H8 l (.lst [V.ref p5, .ref p6, .ref p7, .ref p8])) := s5.trans (s6.trans (s7.trans (s8.trans sl)))
      have s59 : Same H5 (upd H8 l (.lst [V.ref p5, .ref p6, .ref p7, .ref p8])) := s6.trans (s7.trans (s8.trans sl))
      have s69 : Same H6 (upd H8 l (.lst [V.ref p5, .ref p6, .ref p7, .ref p8])) := s7.trans (s8.trans sl)
      have sl8 : Same H8 (upd H8 l (.lst [V.ref p5, .ref p6, .ref p7, .ref p8])) := sl
      have s79 : Same H7 (upd H8 l (.lst [V.ref p5, .ref p6, .ref p7, .ref p8])) := s8.trans sl
      generalize upd H8 l (.lst [V.ref p5, .ref p6, .ref p7, .ref p8]) = G9 at *
      refine ⟨_, rfl, _, rfl, _, rfl, a, _, rfl, .inr (ha2.same s29).sq, (by show 1 ≤ sizeLine; decide), fun l0 hl0 => ?_⟩
      refine ⟨l0, [0], n, by rw [List.length_map, lx], .inl (.inl (.inl upd_same)), by omega, fun p10 H10 s10 e10 => ?_⟩
      have sA := (same_new (o := .lst [V.int 0]) hl0).trans s10
      refine ⟨_, rfl, _, rfl, _, rfl, a, a, xs, xs, n, 137, 137, rfl, (ha2.same s29).same sA, (ha2.same s29).same sA, lx, lx, hn, by omega, bx, bx, by decide, by decide, by decide, fun p11 H11 s11 e11 => ⟨(by show 4 ≤ sizeLine; decide), fun l2 hl2 => ?_⟩⟩
      have s12 := same_new (o := .lst [V.ref p4, .ref p10, .ref a, .ref p11]) hl2
      have e12 : (upd H11 l2 (.lst [V.ref p4, .ref p10, .ref a, .ref p11])) l2 = some (.lst [V.ref p4, .ref p10, .ref a, .ref p11]) := upd_same
      generalize upd H11 l2 (.lst [V.ref p4, .ref p10, .ref a, .ref p11]) = G12 at *
      have sB := (sA.trans s11).trans s12
      rw [pw_one lx hn] at e7
      rw [pw_two lx hn] at e8
      have haE := (ha2.same s29).same sB
      have b1 : Bd 4411 (of n (pw n (per xs) m)) := (bd_pw lx bx (by omega) m).mono (by omega)
      have b2 : Bd 1 (of n (pw n (per xs) 0)) := bd_of fun j _ => abs_ind n [0] j
      have b3 : Bd 284 (of n (conv n (per xs) (per xs))) := bd_of fun j _ => abs_conv (b := 137) (c := 137) (by omega) bx.per bx.per j
      refine ⟨l, l2, dT (of n (pw n (per xs) m)), [dT (of n (pw n (per xs) 0)), dT xs, dT (of n (conv n (per xs) (per xs)))], _, rfl,
        .lst (.inl (.inl (sB _ _ el))) (.cons (dpT ((e5.same s59).same sB)) (.cons (dpT ((e6.same s69).same sB)) (.cons (dpT ((e7.same s79).same sB)) (.cons (dpT ((e8.same sl8).same sB)) .nil)))),
        .lst (.inl (.inl e12)) (.cons (dpT ((e4.same s49).same sB)) (.cons (dpT ((e10.same s11).same s12)) (.cons (dpT haE) (.cons (dpT (e11.same s12)) .nil)))),
        (okW_cons (okT b1 (by decide) (Nat.le_of_eq (of_len _ _))) (okW_cons (okT b2 (by decide) (Nat.le_of_eq (of_len _ _))) (okW_cons (okT bx (by decide) (Nat.le_of_eq lx)) (okW_cons (okT b3 (by decide) (Nat.le_of_eq (of_len _ _))) (okW_nil 2))))).mono (by decide), by omega, ?_⟩
      exact k _ ((F2.same s29).same sB) (((k1.trans k2).trans s29.kp).trans sB.kp)
end
end K3

set_option Elab.async false
set_option linter.all false
set_option maxRecDepth 100000
set_option maxHeartbeats 4000000
set_option exponentiation.threshold 20000
namespace K3
open PySem PySem.Spec PyProof.Rows L2 Gd Pv RZ
section
variable {P : Program} {w : World} {K : PySem.W.Frag} {mg : Str → Option Value} {base : Heap}
def spProdR : Sp := fun vs H Q _ => ∃ (d c r a1 a2 a3 : Addr) (cells xs ys zs : List Int) (B n : Nat) (k : Int), vs = [.ref d, .ref r, .int k] ∧ FeedAt H d c cells B ∧ B ≤ 50000 ∧ H r = some (.lst [V.ref a1, .ref a2, .ref a3]) ∧
  TAt H a1 xs ∧ TAt H a2 ys ∧ TAt H a3 zs ∧ xs.length = n ∧ ys.length = n ∧ zs.length = n ∧ 0 < n ∧ n ≤ 40 ∧ Bd 137 xs ∧ Bd 137 ys ∧ Bd 137 zs ∧ ∀ H', FeedAt H' d c cells (B + 1) → Kp d H H' → Q (.bl true) H'
theorem TAt.own {H : Hp} {a l : Addr} {xs : List Int} {us : List V} {v : HO} (h : TAt H a xs) (e : H l = some (.lst us)) : TAt (upd H l v) a xs := by
  have hne : a ≠ l := fun z => by
    subst z
    have h2 : H a = some (.tup (xs.map V.int)) := h
    rw [e] at h2
    cases h2
  show upd H l v a = _
  unfold upd
  rw [if_neg hne]
  exact h
theorem zval {zs : List Int} {v : V} {n i : Nat} (lz : zs.length = n) (hi : i < n) (ez : (zs.map V.int)[i]? = some v) : v = .int (per zs i) := by
  rw [List.getElem?_map, List.getElem?_eq_getElem (by omega)] at ez
  rw [per_get (by omega)]
  exact (Option.some.inj ez).symm
theorem c__law_are_products_right (D : At K mg "_law_are_products_right" s__law_are_products_right ["_law_feed_here", "_law_rows", "_law_step"]) (c__law_draw : Cal P w K mg base 1 "_law_draw" spDraw) (c__law_product : Cal P w K mg base 1 "_law_product" spProd) (c_product_of : Cal P w K mg base 5 "product_of" spProd)
    (c_added : Cal P w K mg base 5 "added" spAdded) (c_total_of : Cal P w K mg base 4 "total_of" spTotal) (c_mirrored : Cal P w K mg base 4 "mirrored" spMirror) (c_turned : Cal P w K mg base 4 "turned" spTurn) (c_voice_of : Cal P w K mg base 5 "voice_of" spVoiceOf) (c_ones_of : Cal P w K mg base 3 "ones_of" spOnes)
    (c__law_mirror : Cal P w K mg base 1 "_law_mirror" spMirror) (c__law_turned : Cal P w K mg base 1 "_law_turned" spTurn) (c__law_same : CalG P w K mg base 1 "_law_same" ["_law_told", "_law_due"] (spSameW K)) (z_len : mg "len" = none) (z_zip : mg "zip" = none) (z_tuple : mg "tuple" = none) (z_sum : mg "sum" = none) :
    CalG P w K mg base 7 "_law_are_products_right" ["_law_feed_here", "_law_rows", "_law_step"] spProdR := by
  refine okCG D sc__law_are_products_right (fun vs H Q E h => ?_) (fun f cdv A outer s H vs Q E hr hG h => ?_)
  · obtain ⟨d, c, r, a1, a2, a3, cells, xs, ys, zs, B, n, k, rfl, _⟩ := h
    rfl
  · obtain ⟨d, c, r, a1, a2, a3, cells, xs, ys, zs, B, n, k, rfl, F, hB, er, h1, h2, h3, lx, ly, lz, hn, hn2, bx, by', bz, q⟩ := h
    have nd := sc__law_are_products_right.nd
    refine ⟨_, (pss_cons (ps_asg (pv 1) (pg_unl rfl (pgs_cons (pg_name (i := 7) nd rfl (.inl rfl)) (pgs_cons (pg_name (i := 8) nd rfl (.inl rfl)) (pgs_cons (pg_name (i := 9) nd rfl (.inl rfl)) pgs_nil)))))
 (pss_cons (ps_par (i := 10) (j := 11) rfl nd rfl rfl (by decide) rfl rfl (pa_cons (pe_k c__law_product hr (by decide) (by rfl) (pa_cons (pv 7) (pa_cons (pv 8) pa_nil))) (pa_cons (pe_callB call_len_seq (by rfl) z_len PySem.boot_len (pa_cons (pv 7) pa_nil)) pa_nil)) rfl)
 (pss_cons (ps_set (i := 3) nd rfl (.inl rfl) (pe_tupleOf (by rfl) z_tuple (pe_lc (own := [("_law_part", 12), ("_law_more", 13)]) rfl nd (pi_zipA (by rfl) z_zip (pa_cons (pv 7) (pa_cons (pv 8) pa_nil))) (blkOk_by (N := N__law_are_products_right) (sc := defScope s__law_are_products_right) (by decide +kernel)) (g := gTup K 2 (gCons (gName 12) (gCons (gName 13) gNil))) (fun _ _ _ _ _ => (pg_tup rfl (pgs_cons (pg_name (i := 12) nd rfl (.inl rfl)) (pgs_cons (pg_name (i := 13) nd rfl (.inl rfl)) pgs_nil)))) (fun _ _ _ _ _ => pts_nil) (fun _ _ _ _ _ => (pe_op op_add (pv 12) (pv 13))))))
 (pss_cons (ps_set (i := 4) nd rfl (.inl rfl) (pe_lst (pa_cons (pe_k c_product_of hr (by decide) (by rfl) (pa_cons (pv 7) (pa_cons (pv 8) pa_nil))) (pa_cons (pe_k c_product_of hr (by decide) (by rfl) (pa_cons (pv 8) (pa_cons (pv 7) pa_nil))) (pa_cons (pe_k c_added hr (by decide) (by rfl) (pa_cons (pv 7) (pa_cons (pv 8) pa_nil))) (pa_cons (pe_k c_added hr (by decide) (by rfl) (pa_cons (pv 8) (pa_cons (pv 7) pa_nil))) pa_nil))))))
 (C8.pss_cut (ps_if (pt_not (pt_val (pe_kG c__law_same hr hG (by decide) (by rfl) (pa_cons (pv 4) (pa_cons (pe_lst (pa_cons (pv 10) (pa_cons (pv 10) (pa_cons (pv 3) (pa_cons (pv 3) pa_nil))))) pa_nil)))))
 (pss_one (ps_ret pe_bl))
 pss_nil)
 (pss_cons (ps_set (i := 4) nd rfl (.inl rfl) (pe_lst (pa_cons (pe_k c_product_of hr (by decide) (by rfl) (pa_cons (pe_k c_product_of hr (by decide) (by rfl) (pa_cons (pv 7) (pa_cons (pv 8) pa_nil))) (pa_cons (pv 9) pa_nil))) (pa_cons (pe_k c_product_of hr (by decide) (by rfl) (pa_cons (pv 7) (pa_cons (pe_k c_product_of hr (by decide) (by rfl) (pa_cons (pv 8) (pa_cons (pv 9) pa_nil))) pa_nil))) pa_nil))))
 (pss_cons (ps_set (i := 5) nd rfl (.inl rfl) (pe_k c__law_product hr (by decide) (by rfl) (pa_cons (pv 10) (pa_cons (pv 9) pa_nil))))
 (C8.pss_cut (ps_if (pt_not (pt_val (pe_kG c__law_same hr hG (by decide) (by rfl) (pa_cons (pv 4) (pa_cons (pe_lst (pa_cons (pv 5) (pa_cons (pv 5) pa_nil))) pa_nil)))))
 (pss_one (ps_ret pe_bl))
 pss_nil)
 (pss_cons (ps_set (i := 4) nd rfl (.inl rfl) (pe_lst (pa_cons (pe_k c_total_of hr (by decide) (by rfl) (pa_cons (pe_k c_product_of hr (by decide) (by rfl) (pa_cons (pv 7) (pa_cons (pv 8) pa_nil))) pa_nil)) (pa_cons (pe_k c_product_of hr (by decide) (by rfl) (pa_cons (pe_k c_mirrored hr (by decide) (by rfl) (pa_cons (pv 7) pa_nil)) (pa_cons (pe_k c_mirrored hr (by decide) (by rfl) (pa_cons (pv 8) pa_nil)) pa_nil))) pa_nil))))
 (pss_cons (ps_expr (pe_bm PySem.F.plainAttrs_list PySem.F.slot_list_append PySem.F.type_list_append mt_append (pv 4) (pa_cons (pe_k c_product_of hr (by decide) (by rfl) (pa_cons (pv 7) (pa_cons (pe_k c_added hr (by decide) (by rfl) (pa_cons (pv 8) (pa_cons (pv 9) pa_nil))) pa_nil))) pa_nil)))
 (pss_cons (ps_set (i := 5) nd rfl (.inl rfl) (pe_lst (pa_cons (pe_op op_mulW (pe_callB (cr_sumT rfl) (by rfl) z_sum (by decide +kernel) (pa_cons (pv 7) pa_nil)) (pe_callB (cr_sumT rfl) (by rfl) z_sum (by decide +kernel) (pa_cons (pv 8) pa_nil))) (pa_cons (pe_k c__law_mirror hr (by decide) (by rfl) (pa_cons (pv 10) pa_nil)) pa_nil))))
 (pss_cons (ps_expr (pe_bm PySem.F.plainAttrs_list PySem.F.slot_list_append PySem.F.type_list_append mt_append (pv 5) (pa_cons (pe_tupleOf (by rfl) z_tuple (pe_lc (own := [("_law_part", 12), ("_law_more", 13)]) rfl nd (pi_zipA (by rfl) z_zip (pa_cons (pv 10) (pa_cons (pe_k c__law_product hr (by decide) (by rfl) (pa_cons (pv 7) (pa_cons (pv 9) pa_nil))) pa_nil))) (blkOk_by (N := N__law_are_products_right) (sc := defScope s__law_are_products_right) (by decide +kernel)) (g := gTup K 2 (gCons (gName 12) (gCons (gName 13) gNil))) (fun _ _ _ _ _ => (pg_tup rfl (pgs_cons (pg_name (i := 12) nd rfl (.inl rfl)) (pgs_cons (pg_name (i := 13) nd rfl (.inl rfl)) pgs_nil)))) (fun _ _ _ _ _ => pts_nil) (fun _ _ _ _ _ => (pe_op op_add (pv 12) (pv 13))))) pa_nil)))
 (C8.pss_cut (ps_if (pt_not (pt_val (pe_kG c__law_same hr hG (by decide) (by rfl) (pa_cons (pv 4) (pa_cons (pv 5) pa_nil)))))
 (pss_one (ps_ret pe_bl))
 pss_nil)
 (pss_cons (ps_set (i := 6) nd rfl (.inl rfl) (pe_k c__law_draw hr (by decide) (by rfl) (pa_cons (pv 0) (pa_cons (pv 11) pa_nil))))
 (pss_cons (ps_set (i := 4) nd rfl (.inl rfl) (pe_lst (pa_cons (pe_k c_product_of hr (by decide) (by rfl) (pa_cons (pv 7) (pa_cons (pe_k c_voice_of hr (by decide) (by rfl) (pa_cons (pv 11) (pa_cons (pe_tup (pa_cons (pv 6) pa_nil)) pa_nil))) pa_nil))) (pa_cons (pe_k c_product_of hr (by decide) (by rfl) (pa_cons (pv 7) (pa_cons (pe_k c_ones_of hr (by decide) (by rfl) (pa_cons (pv 11) pa_nil)) pa_nil))) pa_nil))))
 (pss_cons (ps_set (i := 4) nd rfl (.inl rfl) (pe_op op_cat (pv 4) (pe_lst (pa_cons (pe_k c_product_of hr (by decide) (by rfl) (pa_cons (pe_k c_turned hr (by decide) (by rfl) (pa_cons (pv 7) (pa_cons (pv 2) pa_nil))) (pa_cons (pv 8) pa_nil))) (pa_cons (pe_k c_mirrored hr (by decide) (by rfl) (pa_cons (pe_k c_product_of hr (by decide) (by rfl) (pa_cons (pv 7) (pa_cons (pv 8) pa_nil))) pa_nil)) pa_nil)))))
 (pss_cons (ps_set (i := 5) nd rfl (.inl rfl) (pe_lst (pa_cons (pe_k c__law_turned hr (by decide) (by rfl) (pa_cons (pv 7) (pa_cons (pv 6) pa_nil))) (pa_cons (pe_op op_repP (pe_tup (pa_cons (pe_callB (cr_sumT rfl) (by rfl) z_sum (by decide +kernel) (pa_cons (pv 7) pa_nil)) pa_nil)) (pv 11)) (pa_cons (pe_k c__law_turned hr (by decide) (by rfl) (pa_cons (pv 10) (pa_cons (pv 2) pa_nil))) (pa_cons (pe_k c__law_mirror hr (by decide) (by rfl) (pa_cons (pv 10) pa_nil)) pa_nil))))))
 (pss_one (ps_ret (pe_kG c__law_same hr hG (by decide) (by rfl) (pa_cons (pv 4) (pa_cons (pv 5) pa_nil)))))))))))))))))))))), ?_⟩
    have pX : Per n (per xs) := lx ▸ per_per xs
    have pY : Per n (per ys) := ly ▸ per_per ys
    have pZ : Per n (per zs) := lz ▸ per_per zs
    refine ⟨_, rfl, r, _, rfl, .inl (.inl er), rfl, _, _, rfl, _, _, rfl, _, _, rfl, rfl, ?_⟩
    refine ⟨_, rfl, _, rfl, a1, a2, xs, ys, n, 137, 137, rfl, h1, h2, lx, ly, hn, by omega, bx, by', by decide, by decide, by decide, fun pL HL sL eL => ⟨_, rfl, a1, _, rfl, .inr (h1.same sL).sq, ?_⟩⟩
    rw [List.length_map, lx]
    have sAb : ∀ {us : List Int}, Bd 137 us → (S n (per us)).natAbs < 2 ^ 147 := fun {us} hu => by
      have h1 := S_abs (n := n) (F := per us) (B := 2 ^ 137) fun j _ => hu.per (j : Nat)
      have h2 : n * 2 ^ 137 ≤ 40 * 2 ^ 137 := Nat.mul_le_mul_right _ hn2
      have h3 : 40 * 2 ^ 137 < 2 ^ 147 := by decide
      omega
    have g1 := h1.same sL
    have g2 := h2.same sL
    have g3 := h3.same sL
    refine ⟨_, _, rfl, ?_⟩
    refine ⟨_, rfl, _, rfl, a1, a2, _, _, rfl, .inr ⟨g1.sq, g2.sq, fun R hR => lc_it (walk_zT (xs := xs.map V.int) (ys := ys.map V.int) (n := n) (by rw [List.length_map]; omega) (by rw [List.length_map]; omega) (.inl (by rw [List.length_map]; omega)))
      (fun i H' => Same HL H' ∧ H' R = some (.lst ((List.range i).map fun j => V.int (per xs (j : Nat) + per ys (j : Nat))))) ⟨same_new hR, upd_same⟩ (fun _ _ _ z => ⟨(g1.same z.1).sq, (g2.same z.1).sq⟩) ?_ ?_⟩⟩
    · rintro i x G G' hi ⟨sG, eG⟩ ⟨T, x1, x2, rfl, nT, rfl, e1, e2⟩
      obtain rfl := zval lx hi e1
      obtain rfl := zval ly hi e2
      have sT := same_new (o := .tup [V.int (per xs i), .int (per ys i)]) nT
      refine ⟨T, _, rfl, .inl (.inl upd_same), rfl, _, _, rfl, _, _, rfl, rfl, rfl, _, rfl, _, rfl, _, _, rfl, rfl, ?_⟩
      exact ⟨_, sT _ _ eG, by rw [List.length_map, List.length_range]; exact small1000 (by omega), same_own (sG.trans sT) hR, by rw [upd_same, List.range_succ, List.map_append]; rfl⟩
    rintro G0 ⟨sG, eG⟩
    rw [of_V n fun b => per xs b + per ys b] at eG
    refine .inl ⟨R, _, rfl, .inl (.inl eG), fun pB hB => ?_⟩
    have sB := sG.trans (same_new (o := .tup ((of n fun b => per xs b + per ys b).map V.int)) hB)
    have eB : TAt (upd G0 pB (.tup ((of n fun b => per xs b + per ys b).map V.int))) pB (of n fun b => per xs b + per ys b) := upd_same
    generalize upd G0 pB (.tup ((of n fun b => per xs b + per ys b).map V.int)) = HB at *
    clear eG sG
    have k1 := g1.same sB
    have k2 := g2.same sB
    have k3 := g3.same sB
    have eL2 := eL.same sB
    have s0B := sL.trans sB
    have hC : ∀ {F G : Int → Int} {b c : Nat}, (∀ i, (F i).natAbs ≤ 2 ^ b) → (∀ i, (G i).natAbs ≤ 2 ^ c) → ∀ i, (conv n F G i).natAbs < 2 ^ (b + c + 10) := fun h g i => abs_conv (by omega) h g i
    have bC : Bd 284 (of n (conv n (per xs) (per ys))) := bd_of fun j _ => hC (b := 137) (c := 137) bx.per by'.per j
    -- the four told ahead
    refine ⟨_, rfl, _, rfl, a1, a2, xs, ys, n, 137, 137, rfl, k1, k2, lx, ly, hn, by omega, bx, by', by decide, by decide, by decide, fun p1 H1 s1 e1 => ?_⟩
    refine ⟨_, rfl, _, rfl, a2, a1, ys, xs, n, 137, 137, rfl, k2.same s1, k1.same s1, ly, lx, hn, by omega, by', bx, by decide, by decide, by decide, fun p2 H2 s2 e2 => ?_⟩
    have s12 := s1.trans s2
    refine ⟨_, rfl, _, rfl, a1, a2, xs, ys, n, rfl, k1.same s12, k2.same s12, lx, ly, hn, by omega, fun p3 H3 s3 e3 => ?_⟩
    have s13 := s12.trans s3
    refine ⟨_, rfl, _, rfl, a2, a1, ys, xs, n, rfl, k2.same s13, k1.same s13, ly, lx, hn, by omega, fun p4 H4 s4 e4 => ⟨(by show 4 ≤ sizeLine; decide), fun l hl => ?_⟩⟩
    rw [← t_comm pX pY] at e2
    rw [show (of n fun i => per ys i + per xs i) = of n (fun i => per xs i + per ys i) from of_congr fun _ _ => Int.add_comm _ _] at e4
    have sl := same_new (o := .lst [V.ref p1, .ref p2, .ref p3, .ref p4]) hl
    have el : (upd H4 l (.lst [V.ref p1, .ref p2, .ref p3, .ref p4])) l = some (.lst [V.ref p1, .ref p2, .ref p3, .ref p4]) := upd_same
    generalize upd H4 l (.lst [V.ref p1, .ref p2, .ref p3, .ref p4]) = H5 at *
    have s45 := s4.trans sl
    have s35 := s3.trans s45
    have s25 := s2.trans s35
    have s15 := s1.trans s25
    replace e1 := e1.same s25
    replace e2 := e2.same s35
    replace e3 := e3.same s45
    replace e4 := e4.same sl
    refine ⟨fun σ H' => ∃ (pL : Addr) (vB vT vD : Option V), σ = [some (.ref d), some (.ref r), some (.int k), vB, vT, vD, none, some (.ref a1), some (.ref a2), some (.ref a3), some (.ref pL), some (.int (n : Nat)), none, none] ∧ Same H H' ∧ TAt H' pL (of n (conv n (per xs) (per ys))), ?_, ?_⟩
    · skip
      refine ⟨_, rfl, _, rfl, _, rfl, _, rfl, _, rfl, (by show 4 ≤ sizeLine; decide), fun l2 hl2 => ?_⟩
      have sm := same_new (o := .lst [V.ref pL, .ref pL, .ref pB, .ref pB]) hl2
      have em : (upd H5 l2 (.lst [V.ref pL, .ref pL, .ref pB, .ref pB])) l2 = some (.lst [V.ref pL, .ref pL, .ref pB, .ref pB]) := upd_same
      generalize upd H5 l2 (.lst [V.ref pL, .ref pL, .ref pB, .ref pB]) = H6 at *
      have sB6 := s15.trans sm
      have eL6 := eL2.same sB6
      have eB6 := eB.same sB6
      have bS : Bd 139 (of n fun i => per xs i + per ys i) := bd_of fun j _ => by
        have h1 := bx.per (j : Nat)
        have h2 := by'.per (j : Nat)
        have h3 : (2 : Nat) ^ 139 = 4 * 2 ^ 137 := by decide
        have h4 : 0 < (2 : Nat) ^ 137 := by decide
        show (per xs (j : Nat) + per ys (j : Nat)).natAbs < 2 ^ 139
        omega
      refine ⟨l, l2, dT (of n (conv n (per xs) (per ys))), [dT (of n (conv n (per xs) (per ys))), dT (of n fun i => per xs i + per ys i), dT (of n fun i => per xs i + per ys i)], _, rfl,
        .lst (.inl (.inl (sm _ _ el))) (.cons (dpT (e1.same sm)) (.cons (dpT (e2.same sm)) (.cons (dpT (e3.same sm)) (.cons (dpT (e4.same sm)) .nil)))),
        .lst (.inl (.inl em)) (.cons (dpT eL6) (.cons (dpT eL6) (.cons (dpT eB6) (.cons (dpT eB6) .nil)))),
        (okW_cons (okT bC (by decide) (Nat.le_of_eq (of_len _ _))) (okW_cons (okT bC (by decide) (Nat.le_of_eq (of_len _ _))) (okW_cons (okT bS (by decide) (Nat.le_of_eq (of_len _ _))) (okW_cons (okT bS (by decide) (Nat.le_of_eq (of_len _ _))) (okW_nil 2))))).mono (by decide), by omega, ?_⟩
      refine ⟨_, rfl, iteF ?_⟩
      exact ⟨pL, _, _, _, rfl, s0B.trans sB6, eL6⟩
    rintro σ H0 ⟨pL, vB, vT, vD, rfl, s06, eL6⟩
    have k1' := h1.same s06
    have k2' := h2.same s06
    have k3' := h3.same s06
    -- whichever way three are put together
    have hT : ∀ i, (conv n (conv n (per xs) (per ys)) (per zs) i).natAbs < 2 ^ 431 := hC (b := 284) (c := 137) (fun i => Nat.le_of_lt (hC (b := 137) (c := 137) bx.per by'.per i)) bz.per
    refine ⟨_, rfl, _, rfl, a1, a2, xs, ys, n, 137, 137, rfl, k1', k2', lx, ly, hn, by omega, bx, by', by decide, by decide, by decide, fun p1 H1 s1 e1 => ?_⟩
    refine ⟨_, rfl, p1, a3, _, zs, n, 284, 137, rfl, e1, k3'.same s1, of_len _ _, lz, hn, by omega, bC, bz, by decide, by decide, by decide, fun p2 H2 s2 e2 => ?_⟩
    have s12 := s1.trans s2
    refine ⟨_, rfl, _, rfl, _, rfl, a2, a3, ys, zs, n, 137, 137, rfl, k2'.same s12, k3'.same s12, ly, lz, hn, by omega, by', bz, by decide, by decide, by decide, fun p3 H3 s3 e3 => ?_⟩
    have s13 := s12.trans s3
    have bD : Bd 284 (of n (conv n (per ys) (per zs))) := bd_of fun j _ => hC (b := 137) (c := 137) by'.per bz.per j
    refine ⟨a1, p3, xs, _, n, 137, 284, rfl, k1'.same s13, e3, lx, of_len _ _, hn, by omega, bx, bD, by decide, by decide, by decide, fun p4 H4 s4 e4 => ⟨(by show 2 ≤ sizeLine; decide), fun l hl => ?_⟩⟩
    have s14 := s13.trans s4
    rw [t_assL pY hn] at e2
    rw [t_assR pY pZ hn] at e4
    have sl := same_new (o := .lst [V.ref p2, .ref p4]) hl
    have el : (upd H4 l (.lst [V.ref p2, .ref p4])) l = some (.lst [V.ref p2, .ref p4]) := upd_same
    generalize upd H4 l (.lst [V.ref p2, .ref p4]) = H5 at *
    have s15 := s14.trans sl
    replace e2 := e2.same ((s3.trans s4).trans sl)
    replace e4 := e4.same sl
    refine ⟨_, rfl, _, rfl, pL, a3, _, zs, n, 284, 137, rfl, eL6.same s15, k3'.same s15, of_len _ _, lz, hn, by omega, bC, bz, by decide, by decide, by decide, fun p7 H7 s7 e7 => ?_⟩
    rw [t_assL pY hn] at e7
    refine ⟨fun σ H' => ∃ (pL : Addr) (vB vT vD : Option V), σ = [some (.ref d), some (.ref r), some (.int k), vB, vT, vD, none, some (.ref a1), some (.ref a2), some (.ref a3), some (.ref pL), some (.int (n : Nat)), none, none] ∧ Same H H' ∧ TAt H' pL (of n (conv n (per xs) (per ys))), ?_, ?_⟩
    · skip
      refine ⟨_, rfl, _, rfl, _, rfl, (by show 2 ≤ sizeLine; decide), fun l2 hl2 => ?_⟩
      have sm := same_new (o := .lst [V.ref p7, .ref p7]) hl2
      have em : (upd H7 l2 (.lst [V.ref p7, .ref p7])) l2 = some (.lst [V.ref p7, .ref p7]) := upd_same
      generalize upd H7 l2 (.lst [V.ref p7, .ref p7]) = H8 at *
      have s78 := s7.trans sm
      have s18 := s15.trans s78
      have bT : Bd 431 (of n (conv n (conv n (per xs) (per ys)) (per zs))) := bd_of fun j _ => hT j
      have oT := okT bT (by decide) (Nat.le_of_eq (of_len n (conv n (conv n (per xs) (per ys)) (per zs))))
      refine ⟨l, l2, dT (of n (conv n (conv n (per xs) (per ys)) (per zs))), [dT (of n (conv n (conv n (per xs) (per ys)) (per zs)))], _, rfl,
        .lst (.inl (.inl (s78 _ _ el))) (.cons (dpT (e2.same s78)) (.cons (dpT (e4.same s78)) .nil)), .lst (.inl (.inl em)) (.cons (dpT (e7.same sm)) (.cons (dpT (e7.same sm)) .nil)),
        (okW_cons oT (okW_cons oT (okW_nil 2))).mono (by decide), by omega, ?_⟩
      refine ⟨_, rfl, iteF ?_⟩
      exact ⟨pL, _, _, _, rfl, s06.trans s18, eL6.same s18⟩
    rintro σ H0 ⟨pL, vB, vT, vD, rfl, s08, jL⟩
    have j1 := h1.same s08
    have j2 := h2.same s08
    have j3 := h3.same s08
    -- the total, the mirror, the product with a sum
    have bM1 : Bd 138 (of n fun b => per xs (-b)) := bd_of fun j _ => Nat.lt_of_le_of_lt (bx.per _) (by decide)
    have bM2 : Bd 138 (of n fun b => per ys (-b)) := bd_of fun j _ => Nat.lt_of_le_of_lt (by'.per _) (by decide)
    have bA : Bd 139 (of n fun i => per ys i + per zs i) := bd_of fun j _ => by
      have h1 := by'.per (j : Nat)
      have h2 := bz.per (j : Nat)
      have h3 : (2 : Nat) ^ 139 = 4 * 2 ^ 137 := by decide
      have h4 : 0 < (2 : Nat) ^ 137 := by decide
      show (per ys (j : Nat) + per zs (j : Nat)).natAbs < 2 ^ 139
      omega
    refine ⟨_, rfl, _, rfl, a1, a2, xs, ys, n, 137, 137, rfl, j1, j2, lx, ly, hn, by omega, bx, by', by decide, by decide, by decide, fun p1 H1 s1 e1 => ⟨p1, _, rfl, e1, by rw [of_len]; exact hn, by rw [of_len]; omega, fun H2 s2 => ?_⟩⟩
    rw [t_total pY hn]
    have s12 := s1.trans s2
    refine ⟨_, rfl, a1, xs, n, rfl, j1.same s12, lx, hn, by omega, fun p3 H3 s3 e3 => ?_⟩
    have s13 := s12.trans s3
    refine ⟨_, rfl, a2, ys, n, rfl, j2.same s13, ly, hn, by omega, fun p4 H4 s4 e4 => ?_⟩
    have s14 := s13.trans s4
    refine ⟨p3, p4, _, _, n, 138, 138, rfl, e3.same s4, e4, of_len _ _, of_len _ _, hn, by omega, bM1, bM2, by decide, by decide, by decide, fun p5 H5 s5 e5 => ⟨(by show 2 ≤ sizeLine; decide), fun l hl => ?_⟩⟩
    rw [t_mirL pX pY hn] at e5
    have s15 := s14.trans s5
    have sl := same_new (o := .lst [V.int (S n (per xs) * S n (per ys)), .ref p5]) hl
    have el : (upd H5 l (.lst [V.int (S n (per xs) * S n (per ys)), .ref p5])) l = some (.lst [V.int (S n (per xs) * S n (per ys)), .ref p5]) := upd_same
    generalize upd H5 l (.lst [V.int (S n (per xs) * S n (per ys)), .ref p5]) = H6 at *
    have s16 := s15.trans sl
    refine ⟨_, rfl, .inl ⟨rfl, _, .inl (.inl el)⟩, _, rfl, _, rfl, _, rfl, a2, a3, ys, zs, n, rfl, j2.same s16, j3.same s16, ly, lz, hn, by omega, fun p6 H7 s6 e6 => ?_⟩
    have s17 := s16.trans s6
    refine ⟨a1, p6, xs, _, n, 137, 139, rfl, j1.same s17, e6, lx, of_len _ _, hn, by omega, bx, bA, by decide, by decide, by decide, fun p7 H8 s7 e7 => ?_⟩
    rw [t_disL pY pZ hn] at e7
    have s68 := s6.trans s7
    refine ⟨l, _, _, rfl, rfl, s68 _ _ el, (by show 2 < sizeLine; decide), ?_⟩
    have eo : (upd H8 l (.lst ([V.int (S n (per xs) * S n (per ys)), .ref p5] ++ [.ref p7]))) l = some (.lst ([V.int (S n (per xs) * S n (per ys)), .ref p5] ++ [.ref p7])) := upd_same
    have so : Same H5 (upd H8 l (.lst ([V.int (S n (per xs) * S n (per ys)), .ref p5] ++ [.ref p7]))) := same_own (sl.trans s68) hl
    have e7' := e7.own (v := .lst ([V.int (S n (per xs) * S n (per ys)), .ref p5] ++ [.ref p7])) (s68 _ _ el)
    generalize upd H8 l (.lst ([V.int (S n (per xs) * S n (per ys)), .ref p5] ++ [.ref p7])) = H9 at *
    have s19 := s15.trans so
    have e5' := e5.same so
    clear e1 e3 e4 e5 e6 e7 el s1 s2 s3 s4 s5 s12 s13 s14 s15 s16 s17 sl s6 s7 s68 so hl
    refine ⟨_, rfl, a1, _, rfl, (j1.same s19).sq, _, rfl, a2, _, rfl, (j2.same s19).sq, ?_⟩
    rw [sum_S, sum_S, lx, ly]
    refine ⟨_, _, rfl, rfl, wide_mul (a := 147) (b := 147) (sAb bx) (sAb by') (by decide) (by decide) (by decide), ?_⟩
    refine ⟨_, rfl, pL, _, n, rfl, jL.same s19, of_len _ _, hn, by omega, fun pM HM sM eM => ⟨(by show 2 ≤ sizeLine; decide), fun l2 hl2 => ?_⟩⟩
    rw [t_mirR pY hn] at eM
    have sl := same_new (o := .lst [V.int (S n (per xs) * S n (per ys)), .ref pM]) hl2
    have el : (upd HM l2 (.lst [V.int (S n (per xs) * S n (per ys)), .ref pM])) l2 = some (.lst [V.int (S n (per xs) * S n (per ys)), .ref pM]) := upd_same
    generalize upd HM l2 (.lst [V.int (S n (per xs) * S n (per ys)), .ref pM]) = HN at *
    have s1N := s19.trans (sM.trans sl)
    refine ⟨_, rfl, .inl ⟨rfl, _, .inl (.inl el)⟩, _, rfl, _, rfl, _, rfl, a1, a3, xs, zs, n, 137, 137, rfl, j1.same s1N, j3.same s1N, lx, lz, hn, by omega, bx, bz, by decide, by decide, by decide, fun pP HP sP eP => ?_⟩
    have g1 := (jL.same s1N).same sP
    refine ⟨pL, pP, _, _, rfl, .inr ⟨g1.sq, eP.sq, fun R hR => lc_it (walk_zT (xs := (of n (conv n (per xs) (per ys))).map V.int) (ys := (of n (conv n (per xs) (per zs))).map V.int) (n := n) (by rw [List.length_map, of_len]; omega) (by rw [List.length_map, of_len]; omega) (.inl (by rw [List.length_map, of_len])))
      (fun i H' => Same HP H' ∧ H' R = some (.lst ((List.range i).map fun j => V.int (per (of n (conv n (per xs) (per ys))) (j : Nat) + per (of n (conv n (per xs) (per zs))) (j : Nat))))) ⟨same_new hR, upd_same⟩ (fun _ _ _ z => ⟨(g1.same z.1).sq, (eP.same z.1).sq⟩) ?_ ?_⟩⟩
    · rintro i x G G' hi ⟨sG, eG⟩ ⟨T, x1, x2, rfl, nT, rfl, f1, f2⟩
      obtain rfl := zval (of_len _ _) hi f1
      obtain rfl := zval (of_len _ _) hi f2
      have sT := same_new (o := .tup [V.int (per (of n (conv n (per xs) (per ys))) i), .int (per (of n (conv n (per xs) (per zs))) i)]) nT
      refine ⟨T, _, rfl, .inl (.inl upd_same), rfl, _, _, rfl, _, _, rfl, rfl, rfl, _, rfl, _, rfl, _, _, rfl, rfl, ?_⟩
      exact ⟨_, sT _ _ eG, by rw [List.length_map, List.length_range]; exact small1000 (by omega), same_own (sG.trans sT) hR, by rw [upd_same, List.range_succ, List.map_append]; rfl⟩
    rintro G0 ⟨sG, eG⟩
    rw [of_V n fun b => per (of n (conv n (per xs) (per ys))) b + per (of n (conv n (per xs) (per zs))) b, t_disR pY pZ hn] at eG
    refine .inl ⟨R, _, rfl, .inl (.inl eG), fun pB2 hB2 => ?_⟩
    have sB2 := sG.trans (same_new (o := .tup ((of n fun b => conv n (per xs) (per ys) b + conv n (per xs) (per zs) b).map V.int)) hB2)
    have eB2 : TAt (upd G0 pB2 (.tup ((of n fun b => conv n (per xs) (per ys) b + conv n (per xs) (per zs) b).map V.int))) pB2 (of n fun b => conv n (per xs) (per ys) b + conv n (per xs) (per zs) b) := upd_same
    generalize upd G0 pB2 (.tup ((of n fun b => conv n (per xs) (per ys) b + conv n (per xs) (per zs) b).map V.int)) = HB2 at *
    clear eG sG
    have sPB := sP.trans sB2
    refine ⟨l2, _, _, rfl, rfl, sPB _ _ el, (by show 2 < sizeLine; decide), ?_⟩
    have ep : (upd HB2 l2 (.lst ([V.int (S n (per xs) * S n (per ys)), .ref pM] ++ [.ref pB2]))) l2 = some (.lst ([V.int (S n (per xs) * S n (per ys)), .ref pM] ++ [.ref pB2])) := upd_same
    have sp : Same HM (upd HB2 l2 (.lst ([V.int (S n (per xs) * S n (per ys)), .ref pM] ++ [.ref pB2]))) := same_own (sl.trans sPB) hl2
    have eB3 := eB2.own (v := .lst ([V.int (S n (per xs) * S n (per ys)), .ref pM] ++ [.ref pB2])) (sPB _ _ el)
    generalize upd HB2 l2 (.lst ([V.int (S n (per xs) * S n (per ys)), .ref pM] ++ [.ref pB2])) = HQ at *
    have s9Q := sM.trans sp
    have bO : (S n (per xs) * S n (per ys)).natAbs < 10 ^ 4300 := by
      rw [Int.natAbs_mul]
      exact Nat.lt_of_lt_of_le (Nat.mul_lt_mul'' (sAb bx) (sAb by')) (by decide +kernel)
    have bV : Bd 284 (of n fun b => conv n (per xs) (per ys) (-b)) := bd_of fun j _ => hC (b := 137) (c := 137) bx.per by'.per _
    have bW : Bd 286 (of n fun b => conv n (per xs) (per ys) b + conv n (per xs) (per zs) b) := bd_of fun j _ => by
      have h1 := hC (b := 137) (c := 137) bx.per by'.per (j : Nat)
      have h2 := hC (b := 137) (c := 137) bx.per bz.per (j : Nat)
      have h3 : (2 : Nat) ^ 286 = 4 * 2 ^ (137 + 137 + 10) := by decide
      have h4 : 0 < (2 : Nat) ^ (137 + 137 + 10) := by decide
      show (conv n (per xs) (per ys) (j : Nat) + conv n (per xs) (per zs) (j : Nat)).natAbs < 2 ^ 286
      omega
    refine ⟨fun σ H' => ∃ (pL : Addr) (vB vT vD : Option V), σ = [some (.ref d), some (.ref r), some (.int k), vB, vT, vD, none, some (.ref a1), some (.ref a2), some (.ref a3), some (.ref pL), some (.int (n : Nat)), none, none] ∧ Same H H' ∧ TAt H' pL (of n (conv n (per xs) (per ys))), ?_, ?_⟩
    · skip
      refine ⟨_, rfl, _, rfl, l, l2, .int (S n (per xs) * S n (per ys)), [dT (of n fun b => conv n (per xs) (per ys) (-b)), dT (of n fun b => conv n (per xs) (per ys) b + conv n (per xs) (per zs) b)], _, rfl,
        .lst (.inl (.inl (s9Q _ _ eo))) (.cons (.int _) (.cons (dpT (e5'.same s9Q)) (.cons (dpT (e7'.same s9Q)) .nil))), .lst (.inl (.inl ep)) (.cons (.int _) (.cons (dpT (eM.same sp)) (.cons (dpT eB3) .nil))),
        (okW_cons (okW_int (k := 2) bO) (okW_cons (okT bV (by decide) (Nat.le_of_eq (of_len _ _))) (okW_cons (okT bW (by decide) (Nat.le_of_eq (of_len _ _))) (okW_nil 2)))).mono (by decide), by omega, ?_⟩
      refine ⟨_, rfl, iteF ?_⟩
      exact ⟨pL, _, _, _, rfl, s08.trans (s19.trans s9Q), jL.same (s19.trans s9Q)⟩
    rintro σ H0 ⟨pL, vB, vT, vD, rfl, s08, jL⟩
    have i1 := h1.same s08
    have i2 := h2.same s08
    have iF := F.same s08
    refine ⟨_, rfl, _, rfl, d, c, cells, B, n, rfl, iF, by omega, by omega, by omega, fun sp H1 hsp F1 k1 => ?_⟩
    have j1 : TAt H1 a1 xs := k1 _ _ (iF.neT i1) i1
    have j2 : TAt H1 a2 ys := k1 _ _ (iF.neT i2) i2
    have j3 : TAt H1 pL (of n (conv n (per xs) (per ys))) := k1 _ _ (iF.neT jL) jL
    have kp1 : Kp d H H1 := s08.kp.trans k1
    have bI : Bd 1 (of n (ind n [(sp : Int)])) := bd_of fun j _ => abs_ind n _ _
    have bU : Bd 1 (of n fun _ => 1) := bd_of fun j _ => by decide
    have bT1 : Bd 138 (of n fun b => per xs (b - k)) := bd_of fun j _ => Nat.lt_of_le_of_lt (bx.per _) (by decide)
    refine ⟨_, rfl, _, rfl, _, rfl, (by show 1 ≤ sizeLine; decide), fun t ht => ⟨t, [(sp : Int)], n, rfl, upd_same, ⟨List.pairwise_singleton _ _, fun x hx => by rw [List.mem_singleton] at hx; omega, fun x hx => by rw [List.mem_singleton] at hx; omega⟩, hn, by omega, fun pv Hv sv ev => ?_⟩⟩
    have sA := (same_new (o := .tup [V.int (sp : Int)]) ht).trans sv
    refine ⟨a1, pv, xs, _, n, 137, 1, rfl, j1.same sA, ev, lx, of_len _ _, hn, by omega, bx, bI, by decide, by decide, by decide, fun p1 H2 s2 e1 => ?_⟩
    rw [t_spot (s := sp) hsp pX (fun j hj => by
      rw [ind_at hj]
      by_cases e : j = sp
      · subst e
        simp
      · rw [if_neg e, if_neg (by rw [List.mem_singleton]; omega)]) (per_ind n [(sp : Int)]) hn] at e1
    have sB := sA.trans s2
    refine ⟨_, rfl, _, rfl, n, rfl, hn, by omega, fun po Ho so eo => ?_⟩
    have sC := sB.trans so
    refine ⟨a1, po, xs, _, n, 137, 1, rfl, j1.same sC, eo, lx, of_len _ _, hn, by omega, bx, bU, by decide, by decide, by decide, fun p2 H3 s3 e2 => ⟨(by show 2 ≤ sizeLine; decide), fun l hl => ?_⟩⟩
    rw [t_ones hn] at e2
    have sl := same_new (o := .lst [V.ref p1, .ref p2]) hl
    have el : (upd H3 l (.lst [V.ref p1, .ref p2])) l = some (.lst [V.ref p1, .ref p2]) := upd_same
    generalize upd H3 l (.lst [V.ref p1, .ref p2]) = H4 at *
    replace e1 := e1.same (so.trans (s3.trans sl))
    replace e2 := e2.same sl
    have sD := sC.trans (s3.trans sl)
    clear so s3 sl eo ev sv s2
    refine ⟨_, rfl, _, rfl, _, rfl, a1, xs, n, k, rfl, j1.same sD, lx, hn, by omega, fun pt Ht st et => ?_⟩
    refine ⟨_, rfl, pt, a2, _, ys, n, 138, 137, rfl, et, j2.same (sD.trans st), of_len _ _, ly, hn, by omega, bT1, by', by decide, by decide, by decide, fun p3 H5 s5 e3 => ?_⟩
    rw [t_turnL pX pY k hn] at e3
    have sE := sD.trans (st.trans s5)
    refine ⟨_, rfl, _, rfl, a1, a2, xs, ys, n, 137, 137, rfl, j1.same sE, j2.same sE, lx, ly, hn, by omega, bx, by', by decide, by decide, by decide, fun pp H6 s6 e6 => ⟨pp, _, n, rfl, e6, of_len _ _, hn, by omega, fun p4 H7 s7 e4 => ⟨(by show 2 ≤ sizeLine; decide), fun l3 hl3 => ?_⟩⟩⟩
    rw [t_mirR pY hn] at e4
    have sm := same_new (o := .lst [V.ref p3, .ref p4]) hl3
    have em : (upd H7 l3 (.lst [V.ref p3, .ref p4])) l3 = some (.lst [V.ref p3, .ref p4]) := upd_same
    generalize upd H7 l3 (.lst [V.ref p3, .ref p4]) = H8 at *
    have s78 := s7.trans sm
    have s58 := s6.trans s78
    have s48 := (st.trans s5).trans s58
    refine ⟨l, l3, _, _, rfl, rfl, s48 _ _ el, em, (by show 4 ≤ sizeLine; decide), fun l4 hl4 => ?_⟩
    have sn := same_new (o := .lst ([V.ref p1, .ref p2] ++ [.ref p3, .ref p4])) hl4
    have en : (upd H8 l4 (.lst ([V.ref p1, .ref p2] ++ [.ref p3, .ref p4]))) l4 = some (.lst ([V.ref p1, .ref p2] ++ [.ref p3, .ref p4])) := upd_same
    generalize upd H8 l4 (.lst ([V.ref p1, .ref p2] ++ [.ref p3, .ref p4])) = H9 at *
    replace e1 := e1.same (s48.trans sn)
    replace e2 := e2.same (s48.trans sn)
    replace e3 := e3.same (s58.trans sn)
    replace e4 := e4.same (sm.trans sn)
    have sF := sD.trans (s48.trans sn)
    clear st s5 s6 s7 s78 s58 s48 sn sm em el et e6 sE sD sC sB sA
    refine ⟨_, rfl, _, rfl, a1, xs, n, (sp : Int), rfl, j1.same sF, lx, hn, by omega, fun q1 Hq1 sq1 eq1 => ?_⟩
    refine ⟨_, rfl, a1, _, rfl, ((j1.same sF).same sq1).sq, ?_⟩
    rw [sum_S, lx]
    refine ⟨(by show 1 ≤ sizeLine; decide), fun t2 ht2 => ⟨_, rfl, t2, n, _, rfl, rfl, upd_same, by simp, by omega, by omega, (by show 1 ≤ 1000; decide), fun q2 Hq2 sq2 eq2 => ?_⟩⟩
    replace eq2 : TAt Hq2 q2 (List.replicate n (S n (per xs))) := by
      rw [Int.toNat_natCast, rep_flat] at eq2
      exact eq2
    have sG := (sq1.trans (same_new (o := .tup [V.int (S n (per xs))]) ht2)).trans sq2
    refine ⟨_, rfl, _, rfl, pL, _, n, k, rfl, j3.same (sF.trans sG), of_len _ _, hn, by omega, fun q3 Hq3 sq3 eq3 => ?_⟩
    rw [t_turnR pY k hn] at eq3
    refine ⟨_, rfl, pL, _, n, rfl, (j3.same (sF.trans sG)).same sq3, of_len _ _, hn, by omega, fun q4 Hq4 sq4 eq4 => ⟨(by show 4 ≤ sizeLine; decide), fun l5 hl5 => ?_⟩⟩
    rw [t_mirR pY hn] at eq4
    have sr := same_new (o := .lst [V.ref q1, .ref q2, .ref q3, .ref q4]) hl5
    have er5 : (upd Hq4 l5 (.lst [V.ref q1, .ref q2, .ref q3, .ref q4])) l5 = some (.lst [V.ref q1, .ref q2, .ref q3, .ref q4]) := upd_same
    generalize upd Hq4 l5 (.lst [V.ref q1, .ref q2, .ref q3, .ref q4]) = HZ at *
    have sH := sG.trans (sq3.trans (sq4.trans sr))
    replace eq1 := eq1.same (((same_new (o := .tup [V.int (S n (per xs))]) ht2).trans sq2).trans (sq3.trans (sq4.trans sr)))
    have bR : Bd 147 (List.replicate n (S n (per xs))) := fun x hx => by
      rw [(List.mem_replicate.mp hx).2]
      exact sAb bx
    have bP : Bd 138 (of n fun b => per xs (b - (sp : Nat))) := bd_of fun j _ => Nat.lt_of_le_of_lt (bx.per _) (by decide)
    have bK : Bd 284 (of n fun b => conv n (per xs) (per ys) (b - k)) := bd_of fun j _ => hC (b := 137) (c := 137) bx.per by'.per _
    have bN : Bd 284 (of n fun b => conv n (per xs) (per ys) (-b)) := bd_of fun j _ => hC (b := 137) (c := 137) bx.per by'.per _
    refine ⟨_, rfl, _, rfl, l4, l5, dT (of n fun b => per xs (b - (sp : Nat))), [dT (List.replicate n (S n (per xs))), dT (of n fun b => conv n (per xs) (per ys) (b - k)), dT (of n fun b => conv n (per xs) (per ys) (-b))], _, rfl,
      .lst (.inl (.inl (sH _ _ en))) (.cons (dpT (e1.same sH)) (.cons (dpT (e2.same sH)) (.cons (dpT (e3.same sH)) (.cons (dpT (e4.same sH)) .nil)))),
      .lst (.inl (.inl er5)) (.cons (dpT eq1) (.cons (dpT (eq2.same (sq3.trans (sq4.trans sr)))) (.cons (dpT (eq3.same (sq4.trans sr))) (.cons (dpT (eq4.same sr)) .nil)))),
      (okW_cons (okT bP (by decide) (Nat.le_of_eq (of_len _ _))) (okW_cons (okT bR (by decide) (Nat.le_of_eq (List.length_replicate))) (okW_cons (okT bK (by decide) (Nat.le_of_eq (of_len _ _))) (okW_cons (okT bN (by decide) (Nat.le_of_eq (of_len _ _))) (okW_nil 2))))).mono (by decide), by omega, ?_⟩
    exact q _ ((F1.same sF).same sH) (kp1.trans (sF.trans sH).kp)
end
end K3

set_option Elab.async false
set_option linter.all false
set_option maxRecDepth 100000
/-! Lists of whole numbers and tuples of such, told item by item. -/
namespace K3
open PySem PySem.Spec PyProof.Rows L2 Gd Pv RZ
inductive TD where
  | i (x : Int)
  | t (xs : List Int)
def TD.data : TD → PyData
  | .i x => .int x
  | .t xs => dT xs
def OneAt (H : Hp) : V → TD → Prop
  | v, .i x => v = .int x
  | v, .t xs => ∃ a, v = .ref a ∧ TAt H a xs
def AllAt (H : Hp) : List V → List TD → Prop
  | [], [] => True
  | v :: vs, d :: ds => OneAt H v d ∧ AllAt H vs ds
  | _, _ => False
theorem OneAt.same {H H' : Hp} (s : Same H H') : ∀ {v : V} {d : TD}, OneAt H v d → OneAt H' v d
  | _, .i _, h => h
  | _, .t _, ⟨a, e, h⟩ => ⟨a, e, h.same s⟩
theorem AllAt.same {H H' : Hp} (s : Same H H') : ∀ {vs : List V} {ds : List TD}, AllAt H vs ds → AllAt H' vs ds
  | [], [], h => h
  | _ :: _, _ :: _, ⟨h, t⟩ => ⟨h.same s, t.same s⟩
  | [], _ :: _, h => h.elim
  | _ :: _, [], h => h.elim
theorem OneAt.own {H : Hp} {l : Addr} {us : List V} {o : HO} (e : H l = some (.lst us)) : ∀ {v : V} {d : TD}, OneAt H v d → OneAt (upd H l o) v d
  | _, .i _, h => h
  | _, .t _, ⟨a, e1, h⟩ => ⟨a, e1, h.own e⟩
theorem AllAt.own {H : Hp} {l : Addr} {us : List V} {o : HO} (e : H l = some (.lst us)) : ∀ {vs : List V} {ds : List TD}, AllAt H vs ds → AllAt (upd H l o) vs ds
  | [], [], h => h
  | _ :: _, _ :: _, ⟨h, t⟩ => ⟨h.own e, t.own e⟩
  | [], _ :: _, h => h.elim
  | _ :: _, [], h => h.elim
theorem AllAt.append {H : Hp} : ∀ {vs us : List V} {ds es : List TD}, AllAt H vs ds → AllAt H us es → AllAt H (vs ++ us) (ds ++ es)
  | [], _, [], _, _, h => h
  | _ :: _, _, _ :: _, _, ⟨h, t⟩, u => ⟨h, t.append u⟩
  | [], _, _ :: _, _, h, _ => h.elim
  | _ :: _, _, [], _, h, _ => h.elim
theorem AllAt.len {H : Hp} : ∀ {vs : List V} {ds : List TD}, AllAt H vs ds → vs.length = ds.length
  | [], [], _ => rfl
  | _ :: _, _ :: _, ⟨_, t⟩ => by rw [List.length_cons, List.length_cons, t.len]
  | [], _ :: _, h => h.elim
  | _ :: _, [], h => h.elim
theorem OneAt.dp {K : PySem.W.Frag} {H : Hp} : ∀ {v : V} {d : TD}, OneAt H v d → Dp K H v d.data
  | _, .i _, rfl => .int _
  | _, .t _, ⟨_, rfl, h⟩ => dpT h
theorem AllAt.dp {K : PySem.W.Frag} {H : Hp} : ∀ {vs : List V} {ds : List TD}, AllAt H vs ds → DpAll K H vs (ds.map TD.data)
  | [], [], _ => .nil
  | _ :: _, _ :: _, ⟨h, t⟩ => .cons h.dp t.dp
  | [], _ :: _, h => h.elim
  | _ :: _, [], h => h.elim
/-- small enough to be told -/
def TD.Ok : TD → Prop
  | .i x => x.natAbs < 2 ^ 14000
  | .t xs => Bd 14000 xs ∧ xs.length ≤ 40
theorem okTD {d : TD} (h : d.Ok) : OkW [d.data] 2 172125 := by
  cases d with
  | i x => exact ⟨(okW_int (k := 2) (Nat.lt_of_lt_of_le h ten_two)).wi, (okW_int (k := 2) (Nat.lt_of_lt_of_le h ten_two)).dp, Nat.le_trans (okW_int (k := 2) (Nat.lt_of_lt_of_le h ten_two)).co (by decide)⟩
  | t xs => exact okT h.1 (by decide) h.2
theorem okTDs : ∀ {ds : List TD}, (∀ d ∈ ds, d.Ok) → OkW (ds.map TD.data) 2 (172125 * ds.length)
  | [], _ => okW_nil 2
  | d :: ds, h => by
    have e := okW_cons (okTD (h d List.mem_cons_self)) (okTDs fun x hx => h x (List.mem_cons_of_mem _ hx))
    rw [List.length_cons, Nat.mul_succ, Nat.add_comm]
    exact e
theorem TD.ok_t {xs : List Int} {b : Nat} (h : Bd b xs) (hb : b ≤ 14000) (hl : xs.length ≤ 40) : (TD.t xs).Ok := ⟨h.mono hb, hl⟩
/-! ### mathematics of the plain ones -/
theorem bts_ind {n : Nat} {ss : List Int} (h : Beats n ss) : bts n (ind n ss) = ss := by
  have asc : ∀ F : Int → Int, ∀ m : Nat, (bts m F).Pairwise (· < ·) ∧ ∀ x ∈ bts m F, x < (m : Int) := by
    intro F m
    induction m with
    | zero => exact ⟨List.Pairwise.nil, fun x hx => absurd hx List.not_mem_nil⟩
    | succ m ih =>
      rw [bts_succ]
      by_cases e : F m = 0
      · rw [if_pos e, List.append_nil]
        exact ⟨ih.1, fun x hx => by have := ih.2 x hx; omega⟩
      · rw [if_neg e]
        refine ⟨List.pairwise_append.mpr ⟨ih.1, List.pairwise_singleton _ _, fun x hx y hy => ?_⟩, fun x hx => ?_⟩
        · rw [List.mem_singleton] at hy
          subst hy
          exact ih.2 x hx
        · rcases List.mem_append.mp hx with z | z
          · have := ih.2 x z
            omega
          · rw [List.mem_singleton] at z
            omega
  have mem : ∀ x : Int, x ∈ bts n (ind n ss) ↔ x ∈ ss := by
    intro x
    unfold bts
    rw [List.mem_map]
    constructor
    · rintro ⟨j, hj, rfl⟩
      obtain ⟨h1, h2⟩ := List.mem_filter.mp hj
      have h3 := List.mem_range.mp h1
      have h4 := of_decide_eq_true h2
      rw [ind_at h3] at h4
      by_cases z : (j : Int) ∈ ss
      · exact z
      · rw [if_neg z] at h4
        exact absurd rfl h4
    · intro hx
      obtain ⟨j, rfl⟩ := Int.eq_ofNat_of_zero_le (h.lo x hx)
      have hj := h.hi _ hx
      refine ⟨j, List.mem_filter.mpr ⟨List.mem_range.mpr (by omega), ?_⟩, rfl⟩
      rw [ind_at (by omega), if_pos hx]
      decide
  have uniq : ∀ {as bs : List Int}, as.Pairwise (· < ·) → bs.Pairwise (· < ·) → (∀ x, x ∈ as ↔ x ∈ bs) → as = bs := by
    intro as
    induction as with
    | nil =>
      intro bs _ _ hm
      cases bs with
      | nil => rfl
      | cons b bs => exact absurd ((hm b).mpr List.mem_cons_self) List.not_mem_nil
    | cons a as ih =>
      intro bs pa pb hm
      cases bs with
      | nil => exact absurd ((hm a).mp List.mem_cons_self) List.not_mem_nil
      | cons b bs =>
        rw [List.pairwise_cons] at pa pb
        have e : a = b := by
          rcases List.mem_cons.mp ((hm a).mp List.mem_cons_self) with z | z
          · exact z
          · rcases List.mem_cons.mp ((hm b).mpr List.mem_cons_self) with y | y
            · exact y.symm
            · have := pb.1 a z
              have := pa.1 b y
              omega
        subst e
        refine congrArg _ (ih pa.2 pb.2 fun x => ⟨fun hx => ?_, fun hx => ?_⟩)
        · rcases List.mem_cons.mp ((hm x).mp (List.mem_cons_of_mem _ hx)) with z | z
          · subst z
            have := pa.1 x hx
            omega
          · exact z
        · rcases List.mem_cons.mp ((hm x).mpr (List.mem_cons_of_mem _ hx)) with z | z
          · subst z
            have := pb.1 x hx
            omega
          · exact z
  exact uniq (asc _ n).1 h.asc mem
theorem bts_per (n : Nat) (hn : 0 < n) {F : Int → Int} (f : Per n F) : bts n (per (of n F)) = bts n F := by
  unfold bts
  congr 1
  refine List.filter_congr fun j _ => ?_
  rw [per_of f hn]
theorem turn_back {n : Nat} {xs : List Int} (hl : xs.length = n) (hn : 0 < n) (k : Int) : of n (fun b => per (of n fun b => per xs (b - k)) (b - -k)) = xs := by
  have p : Per n (per xs) := hl ▸ per_per xs
  have e : of n (fun b => per (of n fun b => per xs (b - k)) (b - -k)) = of n (per xs) := of_congr fun j _ => by
    rw [per_of (p.turn k) hn]
    congr 1
    omega
  rw [e, ← hl, of_per]
theorem mirror_back {n : Nat} {xs : List Int} (hl : xs.length = n) (hn : 0 < n) : of n (fun b => per (of n fun b => per xs (-b)) (-b)) = xs := by
  have p : Per n (per xs) := hl ▸ per_per xs
  have e : of n (fun b => per (of n fun b => per xs (-b)) (-b)) = of n (per xs) := of_congr fun j _ => by
    rw [per_of p.mir hn]
    congr 1
    omega
  rw [e, ← hl, of_per]
theorem turn_all {n : Nat} {xs : List Int} (hl : xs.length = n) : of n (fun b => per xs (b - (n : Int))) = xs := by
  have p : Per n (per xs) := hl ▸ per_per xs
  have e : of n (fun b => per xs (b - (n : Int))) = of n (per xs) := of_congr fun j _ => by
    have := p ((j : Int) - n)
    rw [← this]
    congr 1
    omega
  rw [e, ← hl, of_per]
end K3

set_option Elab.async false
set_option linter.all false
set_option maxRecDepth 100000
set_option maxHeartbeats 4000000
set_option exponentiation.threshold 20000
namespace K3
open PySem PySem.Spec PyProof.Rows L2 Gd Pv RZ
section
variable {P : Program} {w : World} {K : PySem.W.Frag} {mg : Str → Option Value} {base : Heap}
def spPlainR : Sp := fun vs H Q _ => ∃ (d c a : Addr) (cells xs : List Int) (B n : Nat) (k : Int), vs = [.ref d, .ref a, .int k] ∧ FeedAt H d c cells B ∧ B ≤ 50000 ∧ TAt H a xs ∧ xs.length = n ∧ 0 < n ∧ n ≤ 40 ∧ Bd 137 xs ∧ k.natAbs < 2 ^ 137 ∧
  ∀ H', FeedAt H' d c cells (B + n) → Kp d H H' → Q (.bl true) H'
theorem c__law_are_plain_right (D : At K mg "_law_are_plain_right" s__law_are_plain_right ["_law_feed_here", "_law_tune_here", "_law_step"]) (c__law_draw : Cal P w K mg base 1 "_law_draw" spDraw) (c_beats_of : Cal P w K mg base 4 "beats_of" spBeatsOf)
    (c_total_of : Cal P w K mg base 4 "total_of" spTotal) (c_mirrored : Cal P w K mg base 4 "mirrored" spMirror) (c_turned : Cal P w K mg base 4 "turned" spTurn) (c_multiplied : Cal P w K mg base 4 "multiplied" spMult) (c_voice_of : Cal P w K mg base 5 "voice_of" spVoiceOf) (c_ones_of : Cal P w K mg base 3 "ones_of" spOnes)
    (c__law_mirror : Cal P w K mg base 1 "_law_mirror" spMirror) (c__law_turned : Cal P w K mg base 1 "_law_turned" spTurn) (c__law_strokes : Cal P w K mg base 1 "_law_strokes" (spStrokes K)) (c__law_same : CalG P w K mg base 1 "_law_same" ["_law_told", "_law_due"] (spSameW K))
    (z_len : mg "len" = none) (z_range : mg "range" = none) (z_tuple : mg "tuple" = none) :
    CalG P w K mg base 7 "_law_are_plain_right" ["_law_feed_here", "_law_tune_here", "_law_step"] spPlainR := by
  refine okCG D sc__law_are_plain_right (fun vs H Q E h => ?_) (fun f cdv A outer s H vs Q E hr hG h => ?_)
  · obtain ⟨d, c, a, cells, xs, B, n, k, rfl, _⟩ := h
    rfl
  · obtain ⟨d, c, a, cells, xs, B, n, k, rfl, F, hB, ha, lx, hn, hn2, bx, hk, q⟩ := h
    have nd := sc__law_are_plain_right.nd
    refine ⟨_, (pss_cons (ps_par (i := 7) (j := 8) rfl nd rfl rfl (by decide) rfl rfl (pa_cons (pe_callB call_len_seq (by rfl) z_len PySem.boot_len (pa_cons (pv 1) pa_nil)) (pa_cons pe_int pa_nil)) rfl)
 (pss_cons (ps_for PassesOwn.never rfl (pi_tup (pv 1)) (pg_name (i := 3) nd rfl (.inl rfl))
 (pss_one (ps_set (i := 8) nd rfl (.inl rfl) (pe_op op_add (pv 8) (pv 3)))))
 (C8.pss_cut (ps_set (i := 4) nd rfl (.inl rfl) (pe_tupleOf (by rfl) z_tuple (pe_lc (own := [("_law_j", 9)]) rfl nd (pi_range1 (by rfl) z_range (pa_cons (pv 7) pa_nil)) (blkOk_by (N := N__law_are_plain_right) (sc := defScope s__law_are_plain_right) (by decide +kernel)) (fun _ _ _ _ _ => pg_name (i := 9) nd rfl (Or.inl rfl)) (fun _ _ _ _ _ => pts_one (pt_cmpR op_eq (pe_k c__law_draw hr (by decide) (by rfl) (pa_cons (pv 0) (pa_cons pe_int pa_nil))) pe_int (by rfl))) (fun _ _ _ _ _ => (pv 9)))))
 (pss_cons (ps_set (i := 5) nd rfl (.inl rfl) (pe_lst (pa_cons (pe_k c_beats_of hr (by decide) (by rfl) (pa_cons (pv 1) pa_nil)) (pa_cons (pe_k c_total_of hr (by decide) (by rfl) (pa_cons (pv 1) pa_nil)) (pa_cons (pe_k c_mirrored hr (by decide) (by rfl) (pa_cons (pv 1) pa_nil)) (pa_cons (pe_k c_turned hr (by decide) (by rfl) (pa_cons (pv 1) (pa_cons (pv 2) pa_nil))) (pa_cons (pe_k c_multiplied hr (by decide) (by rfl) (pa_cons (pv 1) (pa_cons (pv 2) pa_nil))) pa_nil)))))))
 (pss_cons (ps_set (i := 6) nd rfl (.inl rfl) (pe_lst (pa_cons (pe_tupleOf (by rfl) z_tuple (pe_lc (own := [("_law_j", 9)]) rfl nd (pi_range1 (by rfl) z_range (pa_cons (pv 7) pa_nil)) (blkOk_by (N := N__law_are_plain_right) (sc := defScope s__law_are_plain_right) (by decide +kernel)) (fun _ _ _ _ _ => pg_name (i := 9) nd rfl (Or.inl rfl)) (fun _ _ _ _ _ => pts_one (pt_cmpR op_ne (pe_ix (r := rIxT K) ix_tup (pv 1) (pv 9) (fun _ _ => rfl)) pe_int (by rfl))) (fun _ _ _ _ _ => (pv 9)))) (pa_cons (pv 8) (pa_cons (pe_k c__law_mirror hr (by decide) (by rfl) (pa_cons (pv 1) pa_nil)) (pa_cons (pe_k c__law_turned hr (by decide) (by rfl) (pa_cons (pv 1) (pa_cons (pv 2) pa_nil))) pa_nil))))))
 (C8.pss_cut (ps_expr (pe_bm PySem.F.plainAttrs_list PySem.F.slot_list_append PySem.F.type_list_append mt_append (pv 6) (pa_cons (pe_tupleOf (by rfl) z_tuple (pe_lc (own := [("_law_part", 3)]) rfl nd (pi_tup (pv 1)) (blkOk_by (N := N__law_are_plain_right) (sc := defScope s__law_are_plain_right) (by decide +kernel)) (fun _ _ _ _ _ => pg_name (i := 3) nd rfl (Or.inl rfl)) (fun _ _ _ _ _ => pts_nil) (fun _ _ _ _ _ => (pe_op op_mulW (pv 3) (pv 2))))) pa_nil)))
 (pss_cons (ps_set (i := 5) nd rfl (.inl rfl) (pe_op op_cat (pv 5) (pe_lst (pa_cons (pe_k c_voice_of hr (by decide) (by rfl) (pa_cons (pv 7) (pa_cons (pv 4) pa_nil))) (pa_cons (pe_k c_beats_of hr (by decide) (by rfl) (pa_cons (pe_k c_voice_of hr (by decide) (by rfl) (pa_cons (pv 7) (pa_cons (pv 4) pa_nil))) pa_nil)) (pa_cons (pe_k c_ones_of hr (by decide) (by rfl) (pa_cons (pv 7) pa_nil)) pa_nil))))))
 (C8.pss_cut (ps_set (i := 6) nd rfl (.inl rfl) (pe_op op_cat (pv 6) (pe_lst (pa_cons (pe_k c__law_strokes hr (by decide) (by rfl) (pa_cons (pv 7) (pa_cons (pv 4) pa_nil))) (pa_cons (pv 4) (pa_cons (pe_op op_repP (pe_tup (pa_cons pe_int pa_nil)) (pv 7)) pa_nil))))))
 (pss_cons (ps_set (i := 5) nd rfl (.inl rfl) (pe_op op_cat (pv 5) (pe_lst (pa_cons (pe_k c_turned hr (by decide) (by rfl) (pa_cons (pe_k c_turned hr (by decide) (by rfl) (pa_cons (pv 1) (pa_cons (pv 2) pa_nil))) (pa_cons (pe_un un_neg (pv 2)) pa_nil))) (pa_cons (pe_k c_mirrored hr (by decide) (by rfl) (pa_cons (pe_k c_mirrored hr (by decide) (by rfl) (pa_cons (pv 1) pa_nil)) pa_nil)) (pa_cons (pe_k c_turned hr (by decide) (by rfl) (pa_cons (pv 1) (pa_cons (pv 7) pa_nil))) pa_nil))))))
 (C8.pss_cut (ps_expr (pe_bm PySem.F.plainAttrs_list PySem.F.slot_list_append PySem.F.type_list_append mt_append (pv 5) (pa_cons (pe_k c_voice_of hr (by decide) (by rfl) (pa_cons (pv 7) (pa_cons (pe_tup pa_nil) pa_nil))) pa_nil)))
 (pss_one (ps_ret (pe_kG c__law_same hr hG (by decide) (by rfl) (pa_cons (pv 5) (pa_cons (pe_op op_cat (pv 6) (pe_lst (pa_cons (pv 1) (pa_cons (pv 1) (pa_cons (pv 1) (pa_cons (pe_op op_repP (pe_tup (pa_cons pe_int pa_nil)) (pv 7)) pa_nil)))))) pa_nil))))))))))))))), ?_⟩
    have pX : Per n (per xs) := lx ▸ per_per xs
    refine ⟨_, rfl, a, _, rfl, .inr ha.sq, ?_⟩
    rw [List.length_map, lx]
    refine ⟨_, _, rfl, ?_⟩
    refine ⟨_, rfl, a, rfl, ⟨_, .inl (.inl ha)⟩, for_it (walk_tup (xs := xs.map V.int)) (fun i σ H' => ∃ y3 : Option V, σ = [some (.ref d), some (.ref a), some (.int k), y3, none, none, none, some (.int (n : Nat)), some (.int (S i (per xs))), none] ∧ H' = H)
      ⟨_, rfl, rfl⟩ (fun _ _ _ _ z => by obtain ⟨_, _, rfl⟩ := z; exact .inl (.inl ha)) ?_ ?_⟩
    · rintro i x σ G2 G2' hi ⟨y3, rfl, rfl⟩ ⟨rfl, ex⟩
      rw [List.length_map] at hi
      obtain rfl := zval rfl hi ex
      exact ⟨_, rfl, _, rfl, _, _, rfl, rfl, _, rfl, rfl⟩
    rintro σ G2 ⟨y3, rfl, rfl⟩
    rw [List.length_map, lx]
    refine ⟨fun σ H' => ∃ (pS : Addr) (ss : List Int), σ = [some (.ref d), some (.ref a), some (.int k), y3, some (.ref pS), none, none, some (.int (n : Nat)), some (.int (S n (per xs))), none] ∧ FeedAt H' d c cells (B + n) ∧ Kp d G2 H' ∧ TAt H' pS ss ∧ Beats n ss, ?_, ?_⟩
    · refine ⟨_, rfl, n, rfl, by omega, by omega, fun R hR => ?_⟩
      have nRc : c ≠ R := fun y => by
        have q1 := F.cl
        rw [y, hR] at q1
        cases q1
      refine lc_it walk_range (fun i H' => ∃ ss : List Int, ss.Pairwise (· < ·) ∧ (∀ s ∈ ss, 0 ≤ s ∧ s < (i : Int)) ∧ ss.length ≤ i ∧ FeedAt H' d c cells (B + i) ∧ Kp d G2 H' ∧ H' R = some (.lst (ss.map V.int)))
        ⟨[], .nil, fun x hx => absurd hx List.not_mem_nil, Nat.le_refl _, F.same (same_new hR), (same_new hR).kp, upd_same⟩ (fun _ _ _ _ => True.intro) ?_ ?_
      · rintro i x G G' hi ⟨ss, h1, h2, h3, FG, kG, eG⟩ ⟨eH, rfl⟩
        obtain rfl := eH.symm
        rw [Int.toNat_natCast] at hi
        have nRd : R ≠ d := FG.neL eG
        refine ⟨rfl, _, rfl, d, c, cells, B + i, 3, rfl, FG, by omega, by decide, by decide, fun r H4 hr4 F4 k4 => ⟨rfl, _, rfl, ?_⟩⟩
        have e4 := k4 R _ nRd eG
        refine ite2 (fun _ => ?_) (fun _ => ?_)
        · refine ⟨_, rfl, _, e4, by rw [List.length_map]; exact small1000 (by omega), ss ++ [((0 : Int) + (i : Nat))], ?_, ?_, by rw [List.length_append]; exact Nat.succ_le_succ h3, ?_, ?_, ?_⟩
          · refine List.pairwise_append.mpr ⟨h1, List.pairwise_singleton _ _, fun x hx y hy => ?_⟩
            rw [List.mem_singleton] at hy
            have := h2 x hx
            omega
          · intro x hx
            rcases List.mem_append.mp hx with z | z
            · have := h2 x z
              omega
            · rw [List.mem_singleton] at z
              omega
          · obtain ⟨sp, ov, tn, q1, q2⟩ := F4.ex
            exact ⟨⟨sp, ov, tn, by rw [upd_ne nRd.symm]; exact q1, q2⟩, by rw [upd_ne nRc]; exact F4.cl, F4.few⟩
          · intro b o hb' ho
            rw [upd_ne (ne_of_none ho hR)]
            exact k4 b o hb' (kG b o hb' ho)
          · rw [upd_same, List.map_append]
            rfl
        · exact ⟨ss, h1, fun x hx => by have := h2 x hx; omega, by omega, F4, fun b o hb' ho => k4 b o hb' (kG b o hb' ho), e4⟩
      · rintro G ⟨ss, h1, h2, h3, FG, kG, eG⟩
        rw [Int.toNat_natCast] at h2 h3 FG
        exact .inl ⟨R, _, rfl, .inl (.inl eG), fun p hp => ⟨p, ss, rfl, FG.same (same_new hp), kG.trans (same_new hp).kp, upd_same, ⟨h1, fun x hx => (h2 x hx).1, fun x hx => (h2 x hx).2⟩⟩⟩
    rintro σ H0 ⟨pS, ss, rfl, F0, k0, eS, hB2⟩
    have a0 : TAt H0 a xs := k0 _ _ (F.neT ha) ha
    have bM : Bd 138 (of n fun b => per xs (-b)) := bd_of fun j _ => Nat.lt_of_le_of_lt (bx.per _) (by decide)
    have bT : Bd 138 (of n fun b => per xs (b - k)) := bd_of fun j _ => Nat.lt_of_le_of_lt (bx.per _) (by decide)
    refine ⟨_, rfl, a, xs, n, rfl, a0, lx, hn, by omega, fun p1 H1 s1 e1 => ?_⟩
    refine ⟨_, rfl, a, xs, rfl, a0.same s1, by omega, by omega, fun H2 s2 => ?_⟩
    rw [lx]
    have s12 := s1.trans s2
    refine ⟨_, rfl, a, xs, n, rfl, a0.same s12, lx, hn, by omega, fun p3 H3 s3 e3 => ?_⟩
    have s13 := s12.trans s3
    refine ⟨_, rfl, _, rfl, a, xs, n, k, rfl, a0.same s13, lx, hn, by omega, fun p4 H4 s4 e4 => ?_⟩
    have s14 := s13.trans s4
    refine ⟨_, rfl, _, rfl, a, xs, n, k, 137, rfl, a0.same s14, lx, hn, by omega, bx, hk, by decide, by decide, fun p5 H5 s5 e5 => ⟨(by show 5 ≤ sizeLine; decide), fun l1 hl1 => ?_⟩⟩
    have sl := same_new (o := .lst [V.ref p1, .int (S n (per xs)), .ref p3, .ref p4, .ref p5]) hl1
    have el : (upd H5 l1 (.lst [V.ref p1, .int (S n (per xs)), .ref p3, .ref p4, .ref p5])) l1 = some (.lst [V.ref p1, .int (S n (per xs)), .ref p3, .ref p4, .ref p5]) := upd_same
    generalize upd H5 l1 (.lst [V.ref p1, .int (S n (per xs)), .ref p3, .ref p4, .ref p5]) = H6 at *
    have A1 : AllAt H6 [V.ref p1, .int (S n (per xs)), .ref p3, .ref p4, .ref p5] [.t (bts n (per xs)), .i (S n (per xs)), .t (of n fun b => per xs (-b)), .t (of n fun b => per xs (b - k)), .t (of n fun b => per xs b * k)] :=
      ⟨⟨p1, rfl, e1.same (s2.trans (s3.trans (s4.trans (s5.trans sl))))⟩, rfl, ⟨p3, rfl, e3.same (s4.trans (s5.trans sl))⟩, ⟨p4, rfl, e4.same (s5.trans sl)⟩, ⟨p5, rfl, e5.same sl⟩, trivial⟩
    have s16 := s14.trans (s5.trans sl)
    have a6 := a0.same s16
    clear s1 s2 s3 s4 s5 sl s12 s13 s14 e1 e3 e4 e5
    refine ⟨_, rfl, n, rfl, by omega, by omega, fun R hR => lc_it walk_range (fun i H' => Same H6 H' ∧ H' R = some (.lst ((bts i (per xs)).map V.int))) ⟨same_new hR, upd_same⟩ (fun _ _ _ _ => True.intro) ?_ ?_⟩
    · rintro i x G G' hi ⟨sG, eG⟩ ⟨eH, rfl⟩
      obtain rfl := eH.symm
      rw [Int.toNat_natCast] at hi
      have at0 : atI (xs.map V.int) (0 + (i : Int)) = some (.int (per xs i)) := by
        have := at_per lx hn (i : Int)
        rw [Int.emod_eq_of_lt (by omega) (by omega)] at this
        rw [Int.zero_add]
        exact this
      refine ⟨rfl, _, rfl, _, rfl, a, _, _, _, rfl, rfl, .inl (.inl (sG _ _ a6)), at0, ?_⟩
      refine ⟨rfl, _, rfl, ?_⟩
      refine ite2 (fun e => ?_) (fun e => ?_)
      · have nz : ¬ per xs i = 0 := by
          intro z
          rw [z] at e
          exact absurd e (by decide)
        refine ⟨_, rfl, _, eG, ?_, same_own sG hR, ?_⟩
        · rw [List.length_map]
          exact small1000 (Nat.le_trans (bts_len _ _) (by omega))
        · rw [upd_same, bts_succ, if_neg nz, List.map_append]
          show some (HO.lst (_ ++ [V.int (0 + (i : Int))])) = _
          rw [Int.zero_add]
          rfl
      · have z0 : per xs i = 0 := by
          refine Classical.byContradiction fun z => e ?_
          rw [decide_eq_false (fun y => z (V.int.inj y))]
          rfl
        refine ⟨sG, ?_⟩
        rw [bts_succ, if_pos z0, List.append_nil]
        exact eG
    rintro G0 ⟨sG, eG⟩
    rw [Int.toNat_natCast] at eG
    refine .inl ⟨R, _, rfl, .inl (.inl eG), fun q1 hq1 => ?_⟩
    have s7 := sG.trans (same_new (o := .tup ((bts n (per xs)).map V.int)) hq1)
    have eq1 : TAt (upd G0 q1 (.tup ((bts n (per xs)).map V.int))) q1 (bts n (per xs)) := upd_same
    generalize upd G0 q1 (.tup ((bts n (per xs)).map V.int)) = H7 at *
    clear eG sG
    have a7 := a6.same s7
    refine ⟨_, rfl, _, rfl, a, xs, n, rfl, a7, lx, hn, by omega, fun q3 H8 s8 eq3 => ?_⟩
    refine ⟨_, rfl, _, rfl, a, xs, n, k, rfl, a7.same s8, lx, hn, by omega, fun q4 H9 s9 eq4 => ⟨(by show 4 ≤ sizeLine; decide), fun l2 hl2 => ?_⟩⟩
    have sl := same_new (o := .lst [V.ref q1, .int (S n (per xs)), .ref q3, .ref q4]) hl2
    have el2 : (upd H9 l2 (.lst [V.ref q1, .int (S n (per xs)), .ref q3, .ref q4])) l2 = some (.lst [V.ref q1, .int (S n (per xs)), .ref q3, .ref q4]) := upd_same
    generalize upd H9 l2 (.lst [V.ref q1, .int (S n (per xs)), .ref q3, .ref q4]) = H10 at *
    have A2 : AllAt H9 [V.ref q1, .int (S n (per xs)), .ref q3, .ref q4] [.t (bts n (per xs)), .i (S n (per xs)), .t (of n fun b => per xs (-b)), .t (of n fun b => per xs (b - k))] :=
      ⟨⟨q1, rfl, eq1.same (s8.trans s9)⟩, rfl, ⟨q3, rfl, eq3.same s9⟩, ⟨q4, rfl, eq4⟩, trivial⟩
    have s6A := s7.trans (s8.trans s9)
    have aA := (a6.same s6A).same sl
    clear eq1 eq3 eq4 s7 s8 s9
    refine ⟨fun σ H' => ∃ (l1 l2 : Addr) (v1 v2 : List V), σ = [some (.ref d), some (.ref a), some (.int k), y3, some (.ref pS), some (.ref l1), some (.ref l2), some (.int (n : Nat)), some (.int (S n (per xs))), none] ∧ Same H0 H' ∧ H' l1 = some (.lst v1) ∧ AllAt H' v1 [.t (bts n (per xs)), .i (S n (per xs)), .t (of n fun b => per xs (-b)), .t (of n fun b => per xs (b - k)), .t (of n fun b => per xs b * k)] ∧ H' l2 = some (.lst v2) ∧ AllAt H' v2 [.t (bts n (per xs)), .i (S n (per xs)), .t (of n fun b => per xs (-b)), .t (of n fun b => per xs (b - k)), .t (of n fun b => per xs b * k)], ?_, ?_⟩
    · refine ⟨_, rfl, .inl ⟨rfl, _, .inl (.inl el2)⟩, ?_⟩
      refine ⟨_, rfl, a, rfl, ⟨_, .inl (.inl aA)⟩, fun R2 hR2 => lcM (walk_tup (xs := xs.map V.int)) (fun x => match x with | .int i => .int (i * k) | v => v) hR2 ?_ (fun H' sm => .inl (.inl (sm _ _ aA))) ?_ ?_⟩
      · rw [List.length_map]
        exact small1000 (by omega)
      · intro x H' Y hx sm h1
        obtain ⟨i, hi, rfl⟩ := List.mem_map.mp hx
        exact ⟨rfl, _, rfl, _, rfl, _, _, rfl, rfl, wide_mul (bx i hi) hk (by decide) (by decide) (by decide), h1 H' (Same.refl _)⟩
      · intro G sG eG
        have e : (xs.map V.int).map (fun x => match x with | .int i => .int (i * k) | v => v) = (of n fun b => per xs b * k).map V.int := by
          rw [← map_of lx fun x => x * k, List.map_map, List.map_map]
          rfl
        rw [e] at eG
        refine .inl ⟨R2, _, rfl, .inl (.inl eG), fun p hp => ?_⟩
        have sp := sG.trans (same_new (o := .tup ((of n fun b => per xs b * k).map V.int)) hp)
        have ep : TAt (upd G p (.tup ((of n fun b => per xs b * k).map V.int))) p (of n fun b => per xs b * k) := upd_same
        generalize upd G p (.tup ((of n fun b => per xs b * k).map V.int)) = H11 at *
        refine ⟨l2, _, _, rfl, rfl, sp _ _ el2, (by show 4 < sizeLine; decide), ?_⟩
        have so : Same H9 (upd H11 l2 (.lst ([V.ref q1, .int (S n (per xs)), .ref q3, .ref q4] ++ [.ref p]))) := same_own (sl.trans sp) hl2
        refine ⟨l1, l2, _, _, rfl, s16.trans (s6A.trans so), so _ _ (s6A _ _ el), A1.same (s6A.trans so), upd_same, ?_⟩
        exact (A2.same so).append (us := [.ref p]) (es := [.t (of n fun b => per xs b * k)]) ⟨⟨p, rfl, ep.own (sp _ _ el2)⟩, trivial⟩
    clear A1 A2 el el2 s16 s6A sl aA a6 a7 hl1 hl2 hq1 hR
    rintro σ H1 ⟨l1, l2, v1, v2, rfl, s01, el1, A1, el2, A2⟩
    have a1 := a0.same s01
    have eS1 := eS.same s01
    have n1 : v1.length = 5 := A1.len
    have n2 : v2.length = 5 := A2.len
    refine ⟨_, rfl, _, rfl, _, rfl, pS, ss, n, rfl, eS1, hB2, hn, by omega, fun p1 H2 s1 e1 => ?_⟩
    refine ⟨_, rfl, _, rfl, pS, ss, n, rfl, eS1.same s1, hB2, hn, by omega, fun p2 H3 s2 e2 => ⟨p2, _, n, rfl, e2, of_len _ _, hn, by omega, fun p3 H4 s3 e3 => ?_⟩⟩
    rw [bts_per n hn (per_ind n ss), bts_ind hB2] at e3
    refine ⟨_, rfl, n, rfl, hn, by omega, fun p4 H5 s4 e4 => ⟨(by show 3 ≤ sizeLine; decide), fun l3 hl3 => ?_⟩⟩
    have sm := same_new (o := .lst [V.ref p1, .ref p3, .ref p4]) hl3
    have s15 := s1.trans (s2.trans (s3.trans (s4.trans sm)))
    refine ⟨l1, l3, _, _, rfl, rfl, s15 _ _ el1, upd_same, (by rw [n1]; show 8 ≤ sizeLine; decide), fun l4 hl4 => ?_⟩
    have sn := same_new (o := .lst (v1 ++ [V.ref p1, .ref p3, .ref p4])) hl4
    have en : (upd (upd H5 l3 (.lst [V.ref p1, .ref p3, .ref p4])) l4 (.lst (v1 ++ [V.ref p1, .ref p3, .ref p4]))) l4 = some (.lst (v1 ++ [V.ref p1, .ref p3, .ref p4])) := upd_same
    generalize upd (upd H5 l3 (.lst [V.ref p1, .ref p3, .ref p4])) l4 (.lst (v1 ++ [V.ref p1, .ref p3, .ref p4])) = H6 at *
    have s16 := s15.trans sn
    have A3 := (A1.same s16).append (us := [V.ref p1, .ref p3, .ref p4]) (es := [.t (of n (ind n ss)), .t ss, .t (of n fun _ => 1)]) ⟨⟨p1, rfl, e1.same (s2.trans (s3.trans (s4.trans (sm.trans sn))))⟩, ⟨p3, rfl, e3.same (s4.trans (sm.trans sn))⟩, ⟨p4, rfl, e4.same (sm.trans sn)⟩, trivial⟩
    have A4 := A2.same s16
    have el2' := s16 _ _ el2
    have eS2 := eS1.same s16
    have s06 := s01.trans s16
    clear s1 s2 s3 s4 sm sn s15 e1 e2 e3 e4 s16 A1 A2 el1 el2
    refine ⟨fun σ H' => ∃ (l1 l2 : Addr) (v1 v2 : List V), σ = [some (.ref d), some (.ref a), some (.int k), y3, some (.ref pS), some (.ref l1), some (.ref l2), some (.int (n : Nat)), some (.int (S n (per xs))), none] ∧ Same H0 H' ∧ H' l1 = some (.lst v1) ∧ AllAt H' v1 ([.t (bts n (per xs)), .i (S n (per xs)), .t (of n fun b => per xs (-b)), .t (of n fun b => per xs (b - k)), .t (of n fun b => per xs b * k)] ++ [.t (of n (ind n ss)), .t ss, .t (of n fun _ => 1)]) ∧ H' l2 = some (.lst v2) ∧ AllAt H' v2 ([.t (bts n (per xs)), .i (S n (per xs)), .t (of n fun b => per xs (-b)), .t (of n fun b => per xs (b - k)), .t (of n fun b => per xs b * k)] ++ [.t (of n (ind n ss)), .t ss, .t (of n fun _ => 1)]), ?_, ?_⟩
    · refine ⟨_, rfl, _, rfl, _, rfl, pS, ss, n, rfl, .inr eS2.sq, by omega, fun q1 H7 s7 eq1 => ⟨_, rfl, (by show 1 ≤ sizeLine; decide), fun t ht => ?_⟩⟩
      have st := same_new (o := .tup [V.int 1]) ht
      refine ⟨_, rfl, t, n, _, rfl, rfl, upd_same, by simp, by omega, by omega, (by show 1 ≤ 1000; decide), fun q3 H8 s8 eq3 => ⟨(by show 3 ≤ sizeLine; decide), fun l5 hl5 => ?_⟩⟩
      replace eq3 : TAt H8 q3 (of n fun _ => 1) := by
        rw [Int.toNat_natCast, rep_flat, ← of_const] at eq3
        exact eq3
      have sm := same_new (o := .lst [V.ref q1, .ref pS, .ref q3]) hl5
      have s68 := s7.trans (st.trans (s8.trans sm))
      refine ⟨l2, l5, _, _, rfl, rfl, s68 _ _ el2', upd_same, (by rw [n2]; show 8 ≤ sizeLine; decide), fun l6 hl6 => ?_⟩
      have sn := same_new (o := .lst (v2 ++ [V.ref q1, .ref pS, .ref q3])) hl6
      have s69 := s68.trans sn
      refine ⟨l4, l6, _, _, rfl, s06.trans s69, s69 _ _ en, A3.same s69, upd_same, ?_⟩
      exact (A4.same s69).append (us := [V.ref q1, .ref pS, .ref q3]) (es := [.t (of n (ind n ss)), .t ss, .t (of n fun _ => 1)]) ⟨⟨q1, rfl, eq1.same (st.trans (s8.trans (sm.trans sn)))⟩, ⟨pS, rfl, eS2.same s69⟩, ⟨q3, rfl, eq3.same (sm.trans sn)⟩, trivial⟩
    clear A3 A4 en el2' eS2 s06 hl3 hl4 eS1 a1 n1 n2 s01
    rintro σ H1 ⟨l1, l2, v1, v2, rfl, s01, el1, A1, el2, A2⟩
    have a1 := a0.same s01
    have n1 : v1.length = 8 := A1.len
    have n2 : v2.length = 8 := A2.len
    refine ⟨_, rfl, _, rfl, _, rfl, a, xs, n, k, rfl, a1, lx, hn, by omega, fun p1 H2 s1 e1 => ⟨_, rfl, _, rfl, p1, _, n, -k, rfl, e1, of_len _ _, hn, by omega, fun p2 H3 s2 e2 => ?_⟩⟩
    rw [turn_back lx hn] at e2
    have s12 := s1.trans s2
    refine ⟨_, rfl, a, xs, n, rfl, a1.same s12, lx, hn, by omega, fun p3 H4 s3 e3 => ⟨p3, _, n, rfl, e3, of_len _ _, hn, by omega, fun p4 H5 s4 e4 => ?_⟩⟩
    rw [mirror_back lx hn] at e4
    have s14 := s12.trans (s3.trans s4)
    refine ⟨_, rfl, _, rfl, a, xs, n, (n : Int), rfl, a1.same s14, lx, hn, by omega, fun p5 H6 s5 e5 => ⟨(by show 3 ≤ sizeLine; decide), fun l3 hl3 => ?_⟩⟩
    rw [turn_all lx] at e5
    have sm := same_new (o := .lst [V.ref p2, .ref p4, .ref p5]) hl3
    have s15 := s14.trans (s5.trans sm)
    refine ⟨l1, l3, _, _, rfl, rfl, s15 _ _ el1, upd_same, (by rw [n1]; show 11 ≤ sizeLine; decide), fun l4 hl4 => ?_⟩
    have sn := same_new (o := .lst (v1 ++ [V.ref p2, .ref p4, .ref p5])) hl4
    have en : (upd (upd H6 l3 (.lst [V.ref p2, .ref p4, .ref p5])) l4 (.lst (v1 ++ [V.ref p2, .ref p4, .ref p5]))) l4 = some (.lst (v1 ++ [V.ref p2, .ref p4, .ref p5])) := upd_same
    have hq4 : (upd H6 l3 (.lst [V.ref p2, .ref p4, .ref p5])) l4 = none := hl4
    generalize hG7 : upd H6 l3 (.lst [V.ref p2, .ref p4, .ref p5]) = G7 at *
    have e7 := e2.same (s3.trans (s4.trans (s5.trans sm)))
    have e8 := e4.same (s5.trans sm)
    have e9 := e5.same sm
    have A3 := (A1.same s15).append (us := [V.ref p2, .ref p4, .ref p5]) (es := [.t xs, .t xs, .t xs]) ⟨⟨p2, rfl, e7⟩, ⟨p4, rfl, e8⟩, ⟨p5, rfl, e9⟩, trivial⟩
    have el27 := s15 _ _ el2
    have A27 := A2.same s15
    have s07 := s01.trans s15
    clear s1 s2 s3 s4 s5 sm s12 s14 e1 e2 e3 e4 e5 e7 e8 e9 s15 A1 A2 el1 el2 hG7
    generalize upd G7 l4 (.lst (v1 ++ [V.ref p2, .ref p4, .ref p5])) = G8 at *
    refine ⟨fun σ H' => ∃ (l1 l2 : Addr) (v1 v2 : List V), σ = [some (.ref d), some (.ref a), some (.int k), y3, some (.ref pS), some (.ref l1), some (.ref l2), some (.int (n : Nat)), some (.int (S n (per xs))), none] ∧ Same H0 H' ∧ H' l1 = some (.lst v1) ∧ AllAt H' v1 (([.t (bts n (per xs)), .i (S n (per xs)), .t (of n fun b => per xs (-b)), .t (of n fun b => per xs (b - k)), .t (of n fun b => per xs b * k)] ++ [.t (of n (ind n ss)), .t ss, .t (of n fun _ => 1)]) ++ [.t xs, .t xs, .t xs, .t (of n (ind n []))]) ∧ H' l2 = some (.lst v2) ∧ AllAt H' v2 ([.t (bts n (per xs)), .i (S n (per xs)), .t (of n fun b => per xs (-b)), .t (of n fun b => per xs (b - k)), .t (of n fun b => per xs b * k)] ++ [.t (of n (ind n ss)), .t ss, .t (of n fun _ => 1)]), ?_, ?_⟩
    · refine ⟨_, rfl, .inl ⟨rfl, _, .inl (.inl en)⟩, _, rfl, (by show 0 ≤ sizeLine; decide), fun t ht => ?_⟩
      have st := same_new (o := .tup []) ht
      refine ⟨t, [], n, rfl, upd_same, ⟨.nil, fun x hx => absurd hx List.not_mem_nil, fun x hx => absurd hx List.not_mem_nil⟩, hn, by omega, fun p H9 s9 e9 => ?_⟩
      have s89 := st.trans s9
      refine ⟨l4, _, _, rfl, rfl, s89 _ _ en, (by rw [List.length_append, n1]; show 11 < sizeLine; decide), ?_⟩
      have so : Same G7 (upd H9 l4 (.lst ((v1 ++ [V.ref p2, .ref p4, .ref p5]) ++ [.ref p]))) := same_own (sn.trans s89) hq4
      refine ⟨l4, l2, _, _, rfl, s07.trans so, upd_same, ?_, so _ _ el27, A27.same so⟩
      rw [List.append_assoc]
      have z := (A3.same so).append (us := [V.ref p]) (es := [.t (of n (ind n []))]) ⟨⟨p, rfl, e9.own (s89 _ _ en)⟩, trivial⟩
      rw [List.append_assoc] at z
      exact z
    clear A3 A27 en el27 hq4 hl4 hl3 sn s07 a1 n1 n2 s01
    rintro σ H1 ⟨l1, l2, v1, v2, rfl, s01, el1, A1, el2, A2⟩
    have a1 := a0.same s01
    have n2 : v2.length = 8 := A2.len
    refine ⟨_, rfl, _, rfl, _, rfl, _, rfl, _, rfl, (by show 1 ≤ sizeLine; decide), fun t ht => ?_⟩
    have st := same_new (o := .tup [V.int 0]) ht
    refine ⟨_, rfl, t, n, _, rfl, rfl, upd_same, by simp, by omega, by omega, (by show 1 ≤ 1000; decide), fun q3 H8 s8 eq3 => ⟨(by show 4 ≤ sizeLine; decide), fun l5 hl5 => ?_⟩⟩
    replace eq3 : TAt H8 q3 (of n (ind n [])) := by
      rw [Int.toNat_natCast, rep_flat, ← of_const] at eq3
      rw [show of n (ind n []) = of n fun _ => 0 from of_congr fun _ _ => by unfold ind; rw [if_neg List.not_mem_nil]]
      exact eq3
    have sm := same_new (o := .lst [V.ref a, .ref a, .ref a, .ref q3]) hl5
    have s68 := st.trans (s8.trans sm)
    refine ⟨l2, l5, _, _, rfl, rfl, s68 _ _ el2, upd_same, (by rw [n2]; show 12 ≤ sizeLine; decide), fun l6 hl6 => ?_⟩
    have sn := same_new (o := .lst (v2 ++ [V.ref a, .ref a, .ref a, .ref q3])) hl6
    have s69 := s68.trans sn
    have a9 := a1.same s69
    have A5 := (A2.same s69).append (us := [V.ref a, .ref a, .ref a, .ref q3]) (es := [.t xs, .t xs, .t xs, .t (of n (ind n []))]) ⟨⟨a, rfl, a9⟩, ⟨a, rfl, a9⟩, ⟨a, rfl, a9⟩, ⟨q3, rfl, eq3.same (sm.trans sn)⟩, trivial⟩
    have ok : OkW ((([.t (bts n (per xs)), .i (S n (per xs)), .t (of n fun b => per xs (-b)), .t (of n fun b => per xs (b - k)), .t (of n fun b => per xs b * k)] ++ [.t (of n (ind n ss)), .t ss, .t (of n fun _ => 1)]) ++ [.t xs, .t xs, .t xs, .t (of n (ind n []))] : List TD).map TD.data) 2 (172125 * 12) := okTDs fun x hx => by
      have bS : Bd 14000 ss := fun y hy => by
        have h1 := hB2.lo y hy
        have h2 := hB2.hi y hy
        have h3 : (40 : Nat) < 2 ^ 14000 := Nat.lt_of_lt_of_le (by decide : 40 < 2 ^ 6) (Nat.pow_le_pow_right (by decide) (by decide))
        omega
      have bB : Bd 14000 (bts n (per xs)) := fun y hy => by
        unfold bts at hy
        obtain ⟨j, hj, rfl⟩ := List.mem_map.mp hy
        have h1 := List.mem_range.mp (List.mem_filter.mp hj).1
        have h3 : (40 : Nat) < 2 ^ 14000 := Nat.lt_of_lt_of_le (by decide : 40 < 2 ^ 6) (Nat.pow_le_pow_right (by decide) (by decide))
        omega
      have ol : ∀ G : Int → Int, (of n G).length ≤ 40 := fun G => by rw [of_len]; exact hn2
      simp only [List.mem_append, List.mem_cons, List.not_mem_nil, or_false] at hx
      rcases hx with ((rfl | rfl | rfl | rfl | rfl) | (rfl | rfl | rfl)) | (rfl | rfl | rfl | rfl)
      · exact ⟨bB, Nat.le_trans (bts_len _ _) hn2⟩
      · have h1 := S_abs (n := n) (F := per xs) (B := 2 ^ 137) fun j _ => bx.per (j : Nat)
        have h2 : n * 2 ^ 137 ≤ 40 * 2 ^ 137 := Nat.mul_le_mul_right _ hn2
        have h3 : 40 * 2 ^ 137 < 2 ^ 147 := by decide
        exact Nat.lt_of_lt_of_le (Nat.lt_of_le_of_lt (Nat.le_trans h1 h2) h3) (Nat.pow_le_pow_right (by decide) (by decide))
      · exact TD.ok_t bM (by decide) (ol _)
      · exact TD.ok_t bT (by decide) (ol _)
      · refine TD.ok_t (b := 274) (bd_of fun j _ => ?_) (by decide) (ol _)
        rw [Int.natAbs_mul]
        have h1 := bx.per (j : Nat)
        have h2 : (per xs (j : Nat)).natAbs * k.natAbs ≤ 2 ^ 137 * k.natAbs := Nat.mul_le_mul_right _ h1
        have h3 : 2 ^ 137 * k.natAbs < 2 ^ 137 * 2 ^ 137 := Nat.mul_lt_mul_of_pos_left hk (by decide)
        have h4 : 2 ^ 137 * 2 ^ 137 = 2 ^ 274 := by decide
        omega
      · exact TD.ok_t (b := 1) (bd_of fun j _ => abs_ind n _ _) (by decide) (ol _)
      · exact ⟨bS, Nat.le_trans hB2.len hn2⟩
      · exact TD.ok_t (b := 1) (bd_of fun j _ => by decide) (by decide) (ol _)
      · exact TD.ok_t bx (by decide) (by omega)
      · exact TD.ok_t bx (by decide) (by omega)
      · exact TD.ok_t bx (by decide) (by omega)
      · exact TD.ok_t (b := 1) (bd_of fun j _ => abs_ind n _ _) (by decide) (ol _)
    refine ⟨l1, l6, _, _, _, rfl, .lst (.inl (.inl (s69 _ _ el1))) (A1.same s69).dp, .lst (.inl (.inl upd_same)) A5.dp, ok.mono (by decide), by decide, ?_⟩
    exact q _ (F0.same (s01.trans s69)) (k0.trans (s01.trans s69).kp)
end
end K3

set_option Elab.async false
set_option linter.all false
set_option maxRecDepth 100000
set_option maxHeartbeats 4000000
set_option exponentiation.threshold 20000
namespace K3
open PySem PySem.Spec PyProof.Rows L2 Gd Pv RZ
/-- the list of three voices -/
def RowsAt (H : Hp) (r a1 a2 a3 : Addr) (xs ys zs : List Int) : Prop := H r = some (.lst [V.ref a1, .ref a2, .ref a3]) ∧ TAt H a1 xs ∧ TAt H a2 ys ∧ TAt H a3 zs
theorem RowsAt.kp {H H' : Hp} {d c r a1 a2 a3 : Addr} {xs ys zs cells : List Int} {B : Nat} (h : RowsAt H r a1 a2 a3 xs ys zs) (F : FeedAt H d c cells B) (k : Kp d H H') : RowsAt H' r a1 a2 a3 xs ys zs :=
  ⟨k _ _ (F.neL h.1) h.1, k _ _ (F.neT h.2.1) h.2.1, k _ _ (F.neT h.2.2.1) h.2.2.1, k _ _ (F.neT h.2.2.2) h.2.2.2⟩
theorem RowsAt.same {H H' : Hp} {r a1 a2 a3 : Addr} {xs ys zs : List Int} (h : RowsAt H r a1 a2 a3 xs ys zs) (s : Same H H') : RowsAt H' r a1 a2 a3 xs ys zs := ⟨s _ _ h.1, h.2.1.same s, h.2.2.1.same s, h.2.2.2.same s⟩
theorem RowsAt.dp {K : PySem.W.Frag} {H : Hp} {r a1 a2 a3 : Addr} {xs ys zs : List Int} (h : RowsAt H r a1 a2 a3 xs ys zs) : Dp K H (.ref r) (.list [dT xs, dT ys, dT zs]) :=
  .lst (.inl (.inl h.1)) (.cons (dpT h.2.1) (.cons (dpT h.2.2.1) (.cons (dpT h.2.2.2) .nil)))
theorem big_k {x : V} (hx : x ∈ [V.int 0, .int 1, .int (-1), .int 5, .int (-13), .int 100, .int ((10 : Int) ^ (40 : Int).toNat + 3), .int (-(10 : Int) ^ (40 : Int).toNat)]) : ∃ k : Int, x = .int k ∧ k.natAbs < 2 ^ 137 := by
  rw [ten40] at hx
  simp only [List.mem_cons, List.not_mem_nil, or_false] at hx
  rcases hx with rfl | rfl | rfl | rfl | rfl | rfl | rfl | rfl <;> exact ⟨_, rfl, by decide⟩
section
variable {P : Program} {w : World} {K : PySem.W.Frag} {mg : Str → Option Value} {base : Heap}
def spLaw (K : PySem.W.Frag) : Sp := fun vs H Q _ => ∃ (a : Addr) (ns : List Int), vs = [.ref a] ∧ SqL K H a (ns.map V.int) ∧ ns.length ≤ 63 ∧ ∀ H', Q (.bl true) H'
theorem okG_law (hN : base.NoDigits) {f : Addr} {fd : FuncData} (F : Fun K "law" "law" s_law f fd) (c__law_feed : Cal P w K mg base 1 "_law_feed" (spFeed K)) (c__law_draw : Cal P w K mg base 1 "_law_draw" spDraw) (c__law_size : Cal P w K mg base 2 "_law_size" spSize) (c__law_tune : Cal P w K mg base 3 "_law_tune" spTune)
    (c__law_any : Cal P w K mg base 2 "_law_any" spAny) (c__law_are_products_right : CalG P w K mg base 7 "_law_are_products_right" ["_law_feed_here", "_law_rows", "_law_step"] spProdR)
    (c__law_are_plain_right : CalG P w K mg base 7 "_law_are_plain_right" ["_law_feed_here", "_law_tune_here", "_law_step"] spPlainR) (c__law_are_powers_right : CalG P w K mg base 7 "_law_are_powers_right" ["_law_feed_here", "_law_tune_here"] spPowR) (z_range : mg "range" = none) (z_repr : mg "repr" = none) :
    FnG P w K mg base 8 f fd ["_law_script"] (spLaw K) := by
  refine okG F sc_law (fun vs H Q E h => ?_) (fun cdv A outer s H vs Q E hr hG h => ?_)
  · obtain ⟨a, ns, rfl, _⟩ := h
    rfl
  · obtain ⟨a0, ns0, rfl, ha, hz, k⟩ := h
    have nd := sc_law.nd
    have hu64 := hr.units
    refine ⟨_, (pss_cons (ps_set (i := 1) nd rfl (.inr rfl) (pe_k c__law_feed hr (by decide) (by rfl) (pa_cons (pv 0) pa_nil)))
 (pss_cons (ps_for PassesOwn.never rfl (pi_range1 (by rfl) z_range (pa_cons pe_int pa_nil)) (pg_name (i := 2) nd rfl (.inl rfl))
 (C8.pss_cut (ps_set (i := 3) nd rfl (.inr rfl) (pe_ifExp (pt_cmpR op_eq (pv 2) pe_int (nomark _)) (pe_k c__law_size hr (by decide) (by rfl) (pa_cons (pv 1) pa_nil)) (pe_op op_add pe_int (pe_k c__law_draw hr (by decide) (by rfl) (pa_cons (pv 1) (pa_cons pe_int pa_nil))))))
 (C8.pss_cut (ps_setLc (i := 4) (own := [("_law_turn", 5)]) rfl nd rfl rfl (sw_true rfl rfl rfl (by decide +kernel)) (pi_range1 (by rfl) z_range (pa_cons pe_int pa_nil)) (blkOk_by (N := N_law) (sc := defScope s_law) (by decide +kernel)) (fun _ _ _ _ _ => pg_name (i := 5) nd rfl (Or.inl rfl)) (fun _ _ _ _ _ => pts_nil) (fun _ _ _ _ _ => (pe_k c__law_tune hr (by decide) (by rfl) (pa_cons (pv 1) (pa_cons (pv 3) pa_nil)))))
 (C8.pss_cut (ps_par (i := 6) (j := 7) rfl nd rfl rfl (by decide) rfl rfl (pa_cons (pe_callB (call_reprW hr hG hN) (by rfl) z_repr (by decide +kernel) (pa_cons (pv 4) pa_nil)) (pa_cons (pe_k c__law_any hr (by decide) (by rfl) (pa_cons (pv 1) (pa_cons (pe_lst (pa_cons pe_int (pa_cons pe_int (pa_cons (pe_un un_neg pe_int) (pa_cons pe_int (pa_cons (pe_un un_neg pe_int) (pa_cons pe_int (pa_cons (pe_op op_add (pe_op op_pow pe_int pe_int) pe_int) (pa_cons (pe_un un_neg (pe_op op_pow pe_int pe_int)) pa_nil))))))))) pa_nil))) pa_nil)) rfl)
 (pss_cons (ps_for PassesOwn.never rfl (pi_range1 (by rfl) z_range (pa_cons pe_int pa_nil)) (pg_name (i := 5) nd rfl (.inl rfl))
 (pss_one (ps_if (pt_not (pt_val (pe_kG c__law_are_products_right hr hG (by decide) (by rfl) (pa_cons (pv 1) (pa_cons (pv 4) (pa_cons (pv 7) pa_nil))))))
 (pss_one (ps_ret pe_bl))
 pss_nil)))
 (C8.pss_cut (ps_if (PW.pt (pw_or (pt_not (pt_val (pe_kG c__law_are_plain_right hr hG (by decide) (by rfl) (pa_cons (pv 1) (pa_cons (pe_ix ix_list (pv 4) pe_int (fun _ _ => rfl)) (pa_cons (pv 7) pa_nil)))))) (pw_or1 (pt_cmpR op_ne (pe_callB (call_reprW hr hG hN) (by rfl) z_repr (by decide +kernel) (pa_cons (pv 4) pa_nil)) (pv 6) (nomark _)))))
 (pss_one (ps_ret pe_bl))
 pss_nil)
 (pss_one (ps_if (PW.pt (pw_and (pt_cmpR op_lt (pv 3) pe_int (nomark _)) (pw_and1 (pt_not (pt_val (pe_kG c__law_are_powers_right hr hG (by decide) (by rfl) (pa_cons (pv 1) (pa_cons (pe_ix ix_list (pv 4) pe_int (fun _ _ => rfl)) pa_nil))))))))
 (pss_one (ps_ret pe_bl))
 pss_nil))))))))
 (pss_one (ps_ret pe_bl)))), ?_⟩
    refine ⟨_, rfl, a0, ns0, rfl, ha, hz, fun d c cells H1 F1 s1 => ?_⟩
    refine ⟨4, rfl, by decide, by decide, for_it walk_range (fun i σ H' => ∃ (y2 y3 y4 y5 y6 y7 : Option V), σ = [some (.ref a0), some (.ref d), y2, y3, y4, y5, y6, y7] ∧ FeedAt H' d c cells (0 + 400 * i))
        ⟨_, _, _, _, _, _, rfl, F1⟩ (fun _ _ _ _ _ => True.intro) ?_ ?_⟩
    · rintro i x σ H6 H' hi ⟨y2, y3, y4, y5, y6, y7, rfl, F6⟩ ⟨eH, rfl⟩
      obtain rfl := eH.symm
      have hi6 : i < 4 := hi
      refine ⟨fun σ G => ∃ n : Nat, σ = [some (.ref a0), some (.ref d), some (.int (0 + (i : Int))), some (.int (n : Nat)), y4, y5, y6, y7] ∧ 1 ≤ n ∧ n ≤ 40 ∧ FeedAt G d c cells (0 + 400 * i + 2), ?_, ?_⟩
      · refine ⟨_, rfl, rfl, _, rfl, ite2 (fun _ => ?_) (fun _ => ?_)⟩
        · exact ⟨_, rfl, d, c, cells, _, rfl, F6, by omega, fun n H7 g1 g2 F7 k7 => ⟨n, rfl, g1, g2, F7⟩⟩
        · exact ⟨_, rfl, d, c, cells, _, 9, rfl, F6, by omega, by decide, by decide, fun r H7 hr7 F7 k7 => ⟨_, _, rfl, rfl, 1 + r, by rw [Int.natCast_add]; rfl, by omega, by omega, F7.mono (by omega)⟩⟩
      rintro σ G1 ⟨n, rfl, g1, g2, F7⟩
      refine ⟨fun σ G => ∃ (R a1 a2 a3 : Addr) (xs ys zs : List Int), σ = [some (.ref a0), some (.ref d), some (.int (0 + (i : Int))), some (.int (n : Nat)), some (.ref R), y5, y6, y7] ∧ RowsAt G R a1 a2 a3 xs ys zs ∧ xs.length = n ∧ ys.length = n ∧ zs.length = n ∧ Bd 137 xs ∧ Bd 137 ys ∧ Bd 137 zs ∧ FeedAt G d c cells (0 + 400 * i + 302), ?_, ?_⟩
      · refine ⟨3, rfl, by decide, by decide, fun R hR => ?_⟩
        have nRc : c ≠ R := fun y => by
          have q1 := F7.cl
          rw [y, hR] at q1
          cases q1
        refine lc_it walk_range (fun j G => ∃ as : List Addr, as.length = j ∧ G R = some (.lst (as.map V.ref)) ∧ FeedAt G d c cells (0 + 400 * i + 2 + 100 * j) ∧ ∀ a ∈ as, ∃ us : List Int, TAt G a us ∧ us.length = n ∧ Bd 137 us)
          ⟨[], rfl, upd_same, F7.same (same_new hR), fun a ha => absurd ha List.not_mem_nil⟩ (fun _ _ _ _ => True.intro) ?_ ?_
        · rintro j x G G' hj ⟨as, rfl, eG, FG, hA⟩ ⟨eH, rfl⟩
          obtain rfl := eH.symm
          have hj3 : as.length < 3 := hj
          have nRd : R ≠ d := FG.neL eG
          refine ⟨rfl, _, rfl, _, rfl, d, c, cells, _, n, rfl, FG, by omega, g1, g2, fun us p H4 lu bu F4 k4 e4 => ?_⟩
          have eG4 := k4 R _ nRd eG
          refine ⟨_, eG4, by rw [List.length_map]; exact small1000 (by omega), as ++ [p], by rw [List.length_append]; rfl, by rw [upd_same, List.map_append]; rfl, ?_, ?_⟩
          · obtain ⟨sp, ov, tn, q1, q2⟩ := F4.ex
            exact ⟨⟨sp, ov, tn, by rw [upd_ne nRd.symm]; exact q1, q2⟩, by rw [upd_ne nRc]; exact F4.cl, F4.few⟩
          · intro a hma
            rcases List.mem_append.mp hma with z | z
            · obtain ⟨vs, z1, z2, z3⟩ := hA a z
              exact ⟨vs, TAt.own (k4 _ _ (FG.neT z1) z1) eG4, z2, z3⟩
            · rw [List.mem_singleton.mp z]
              exact ⟨us, TAt.own e4 eG4, lu, bu⟩
        · rintro G ⟨as, l3, eG, FG, hA⟩
          match as, l3, eG, hA with
          | [a1, a2, a3], _, eG, hA =>
            obtain ⟨xs, x1, x2, x3⟩ := hA a1 (by simp)
            obtain ⟨ys, z1, z2, z3⟩ := hA a2 (by simp)
            obtain ⟨zs, u1, u2, u3⟩ := hA a3 (by simp)
            exact ⟨R, a1, a2, a3, xs, ys, zs, rfl, ⟨eG, x1, z1, u1⟩, x2, z2, u2, x3, z3, u3, FG⟩
      rintro σ G2 ⟨R, a1, a2, a3, xs, ys, zs, rfl, RW, lx, ly, lz, bx, by', bz, F8⟩
      have okR : OkW [dT xs, dT ys, dT zs] 2 (172125 * 3) :=
        okTDs (ds := [.t xs, .t ys, .t zs]) fun x hx => by
          simp only [List.mem_cons, List.not_mem_nil, or_false] at hx
          rcases hx with rfl | rfl | rfl
          · exact TD.ok_t bx (by decide) (by omega)
          · exact TD.ok_t by' (by decide) (by omega)
          · exact TD.ok_t bz (by decide) (by omega)
      have lenR := okR.list (by decide)
      have dpR : (PyData.list [dT xs, dT ys, dT zs]).depth ≤ 20 := by
        have := okR.dp
        simp only [PyData.depth]
        omega
      refine ⟨fun σ G => ∃ k : Int, σ = [some (.ref a0), some (.ref d), some (.int (0 + (i : Int))), some (.int (n : Nat)), some (.ref R), y5, some (.str (PyData.list [dT xs, dT ys, dT zs]).shown), some (.int k)] ∧ k.natAbs < 2 ^ 137 ∧ RowsAt G R a1 a2 a3 xs ys zs ∧ FeedAt G d c cells (0 + 400 * i + 303), ?_, ?_⟩
      · refine ⟨_, rfl, R, _, _, rfl, RW.dp, okR.wi, dpR, lenR, ?_⟩
        refine ⟨_, rfl, _, rfl, _, rfl, _, _, rfl, rfl, ⟨by decide, by decide, by decide⟩, _, _, rfl, rfl, _, _, rfl, rfl, ⟨by decide, by decide, by decide⟩, _, rfl, (by show 8 ≤ sizeLine; decide), fun l hl => ?_⟩
        refine ⟨d, c, l, cells, _, _, rfl, F8.same (same_new hl), by omega, upd_same, (by decide), (by decide), fun x H9 hx F9 k9 => ?_⟩
        obtain ⟨k, rfl, hk⟩ := big_k hx
        exact ⟨_, _, rfl, k, rfl, hk, (RW.same (same_new hl)).kp (F8.same (same_new hl)) k9, F9⟩
      rintro σ G3 ⟨k, rfl, hk, RW3, F9⟩
      clear RW F8 F7 F6 F1
      refine ⟨2, rfl, by decide, by decide, for_it walk_range (fun j σ G => ∃ y5 : Option V, σ = [some (.ref a0), some (.ref d), some (.int (0 + (i : Int))), some (.int (n : Nat)), some (.ref R), y5, some (.str (PyData.list [dT xs, dT ys, dT zs]).shown), some (.int k)] ∧ RowsAt G R a1 a2 a3 xs ys zs ∧ FeedAt G d c cells (0 + 400 * i + 303 + j))
        ⟨_, rfl, RW3, F9⟩ (fun _ _ _ _ _ => True.intro) ?_ ?_⟩
      · rintro j x σ G G' hj ⟨y5, rfl, RG, FG⟩ ⟨eH, rfl⟩
        obtain rfl := eH.symm
        have hj2 : j < 2 := hj
        refine ⟨_, rfl, _, rfl, _, rfl, d, c, R, a1, a2, a3, cells, xs, ys, zs, _, n, k, rfl, FG, by omega, RG.1, RG.2.1, RG.2.2.1, RG.2.2.2, lx, ly, lz, by omega, g2, bx, by', bz, fun H4 F4 k4 => ⟨true, rfl, iteF ?_⟩⟩
        exact ⟨_, rfl, RG.kp FG k4, F4⟩
      rintro σ G4 ⟨y5, rfl, RW4, F10⟩
      refine ⟨fun σ G => σ = [some (.ref a0), some (.ref d), some (.int (0 + (i : Int))), some (.int (n : Nat)), some (.ref R), y5, some (.str (PyData.list [dT xs, dT ys, dT zs]).shown), some (.int k)] ∧ RowsAt G R a1 a2 a3 xs ys zs ∧ FeedAt G d c cells (0 + 400 * i + 345), ?_, ?_⟩
      · refine ⟨_, rfl, _, rfl, R, _, _, _, rfl, rfl, .inl (.inl RW4.1), rfl, _, rfl, d, c, a1, cells, xs, _, n, k, rfl, F10, by omega, RW4.2.1, lx, by omega, g2, bx, hk, fun H5 F5 k5 => ?_⟩
        have RW5 := RW4.kp F10 k5
        refine ⟨true, rfl, ?_⟩
        refine iteF ⟨_, rfl, R, _, _, rfl, RW5.dp, okR.wi, dpR, lenR, _, rfl, rfl, ?_⟩
        rw [decide_eq_true rfl]
        refine ⟨_, rfl, iteF ?_⟩
        exact ⟨rfl, RW5, F5.mono (by omega)⟩
      rintro σ G5 ⟨rfl, RW5, F11⟩
      refine ⟨_, rfl, _, _, rfl, rfl, _, rfl, ite2 (fun e => ?_) (fun e => ?_)⟩
      · refine ⟨_, rfl, _, rfl, R, _, _, _, rfl, rfl, .inl (.inl RW5.1), rfl, d, c, a2, cells, ys, _, n, rfl, F11, by omega, RW5.2.2.1, ly, by omega, g2, by', fun H5 F5 k5 => ?_⟩
        refine ⟨true, rfl, iteF ?_⟩
        exact ⟨_, _, _, _, _, _, rfl, F5.mono (by omega)⟩
      · exact iteF ⟨_, _, _, _, _, _, rfl, F11.mono (by omega)⟩
    · rintro σ H6 ⟨y2, y3, y4, y5, y6, y7, rfl, F6⟩
      exact k H6
end
end K3

set_option Elab.async false
set_option linter.all false
set_option maxRecDepth 100000
namespace K3
open PySem PySem.Spec PyProof.Rows L2 Gd Pv RZ
section
variable {w : World} {K : PySem.W.Frag} {h : Heap} {mg : Str → Option Value}
theorem at1 {x a1 : String} {st : Stmt} {f : Addr} {od an : Option Addr} {sl : Array (Option Value)} {oc kV dc pm cd ct : Value} (X : K.In h) (G : h.Ns mainGlobals mg)
    (a : PySem.W.nsIn K mainGlobals x = some (some (.ref f))) (l : K.lookup f = some ⟨oc, od, .func (PySem.W.fnOf x x (defArgs st) (defBody st) (defScope st) .none kV dc pm an cd ct), sl⟩) (c : PySem.W.codeIn K cd x = true) (k : PySem.W.keepIn K (.ref f) = true)
    (hb : ∀ (kV doc pm : Value) (an : Option Addr) (cdv ct u : Value), bindArgs (PySem.W.fnOf x x (defArgs st) (defBody st) (defScope st) .none kV doc pm an cdv ct) ⟨[u], []⟩ = pure [((a1 : Str), u)]) : At K mg x st [(a1 : Str)] :=
  ⟨f, _, PySem.W.mg_of X G a, fun_mk l c k, (fun_mk l c k).binds fun kV doc pm an cdv ct us hl => match us, hl with | [u], _ => hb kV doc pm an cdv ct u⟩
theorem at2 {x a1 a2 : String} {st : Stmt} {f : Addr} {od an : Option Addr} {sl : Array (Option Value)} {oc kV dc pm cd ct : Value} (X : K.In h) (G : h.Ns mainGlobals mg)
    (a : PySem.W.nsIn K mainGlobals x = some (some (.ref f))) (l : K.lookup f = some ⟨oc, od, .func (PySem.W.fnOf x x (defArgs st) (defBody st) (defScope st) .none kV dc pm an cd ct), sl⟩) (c : PySem.W.codeIn K cd x = true) (k : PySem.W.keepIn K (.ref f) = true)
    (hb : ∀ (kV doc pm : Value) (an : Option Addr) (cdv ct u v : Value), bindArgs (PySem.W.fnOf x x (defArgs st) (defBody st) (defScope st) .none kV doc pm an cdv ct) ⟨[u, v], []⟩ = pure [((a1 : Str), u), ((a2 : Str), v)]) : At K mg x st [(a1 : Str), (a2 : Str)] :=
  ⟨f, _, PySem.W.mg_of X G a, fun_mk l c k, (fun_mk l c k).binds fun kV doc pm an cdv ct us hl => match us, hl with | [u, v], _ => hb kV doc pm an cdv ct u v⟩
theorem at3 {x a1 a2 a3 : String} {st : Stmt} {f : Addr} {od an : Option Addr} {sl : Array (Option Value)} {oc kV dc pm cd ct : Value} (X : K.In h) (G : h.Ns mainGlobals mg)
    (a : PySem.W.nsIn K mainGlobals x = some (some (.ref f))) (l : K.lookup f = some ⟨oc, od, .func (PySem.W.fnOf x x (defArgs st) (defBody st) (defScope st) .none kV dc pm an cd ct), sl⟩) (c : PySem.W.codeIn K cd x = true) (k : PySem.W.keepIn K (.ref f) = true)
    (hb : ∀ (kV doc pm : Value) (an : Option Addr) (cdv ct u v z : Value), bindArgs (PySem.W.fnOf x x (defArgs st) (defBody st) (defScope st) .none kV doc pm an cdv ct) ⟨[u, v, z], []⟩ = pure [((a1 : Str), u), ((a2 : Str), v), ((a3 : Str), z)]) : At K mg x st [(a1 : Str), (a2 : Str), (a3 : Str)] :=
  ⟨f, _, PySem.W.mg_of X G a, fun_mk l c k, (fun_mk l c k).binds fun kV doc pm an cdv ct us hl => match us, hl with | [u, v, z], _ => hb kV doc pm an cdv ct u v z⟩
theorem atS {x pv : String} {st : Stmt} {f : Addr} {od an : Option Addr} {sl : Array (Option Value)} {oc kV dc pm cd ct : Value} (X : K.In h) (G : h.Ns mainGlobals mg)
    (a : PySem.W.nsIn K mainGlobals x = some (some (.ref f))) (l : K.lookup f = some ⟨oc, od, .func (PySem.W.fnOf x x (defArgs st) (defBody st) (defScope st) .none kV dc pm an cd ct), sl⟩) (c : PySem.W.codeIn K cd x = true) (k : PySem.W.keepIn K (.ref f) = true)
    (hb : ∀ (kV doc pm : Value) (an : Option Addr) (cdv ct : Value), bindArgs (PySem.W.fnOf x x (defArgs st) (defBody st) (defScope st) .none kV doc pm an cdv ct) ⟨[], []⟩ = (newTuple [] >>= fun t => pure [((pv : Str), t)]))
    (hb' : ∀ (kV doc pm : Value) (an : Option Addr) (cdv ct u : Value) (us : List Value), bindArgs (PySem.W.fnOf x x (defArgs st) (defBody st) (defScope st) .none kV doc pm an cdv ct) ⟨u :: us, []⟩ = (newTuple (u :: us) >>= fun t => pure [((pv : Str), t)])) : AtS K mg x st pv :=
  ⟨f, _, PySem.W.mg_of X G a, fun_mk l c k, fun rest => match rest with
    | [] => hb kV dc pm an cd ct
    | u :: us => hb' kV dc pm an cd ct u us⟩
variable {P : Program}
theorem all_mk {fa : Addr} (hfa : mg "law" = some (.ref fa)) (D_need : At K mg "need" s_need ["fits", "word"]) (D_is_integer : At K mg "is_integer" s_is_integer ["thing"]) (z_isinstance : mg "isinstance" = none) (z_int : mg "int" = none) (z_bool : mg "bool" = none) (D_is_size : At K mg "is_size" s_is_size ["thing"]) (D_are_integers : At K mg "are_integers" s_are_integers ["thing"]) (z_tuple : mg "tuple" = none) (z_all : mg "all" = none) (D__law_feed : At K mg "_law_feed" s__law_feed ["_law_script"]) (D__law_draw : At K mg "_law_draw" s__law_draw ["_law_feed_here", "_law_limit"]) (z_len : mg "len" = none) (D__law_any : At K mg "_law_any" s__law_any ["_law_feed_here", "_law_some"]) (D_is_number : At K mg "is_number" s_is_number ["thing"]) (D_is_voice : At K mg "is_voice" s_is_voice ["thing"]) (D_is_voice_of : At K mg "is_voice_of" s_is_voice_of ["size", "thing"]) (D_is_beat : At K mg "is_beat" s_is_beat ["size", "thing"]) (D_product_of : At K mg "product_of" s_product_of ["one", "other"]) (z_range : mg "range" = none) (z_enumerate : mg "enumerate" = none) (D__law_product : At K mg "_law_product" s__law_product ["_law_first", "_law_second"]) (D_turned : At K mg "turned" s_turned ["voice", "k"]) (D_mirrored : At K mg "mirrored" s_mirrored ["voice"]) (D__law_turned : At K mg "_law_turned" s__law_turned ["_law_tune_here", "_law_step"]) (D__law_mirror : At K mg "_law_mirror" s__law_mirror ["_law_tune_here"]) (D__law_strokes : At K mg "_law_strokes" s__law_strokes ["_law_size_in", "_law_spots"]) (D_ones_of : At K mg "ones_of" s_ones_of ["size"]) (D_total_of : At K mg "total_of" s_total_of ["voice"]) (z_sum : mg "sum" = none) (D_multiplied : At K mg "multiplied" s_multiplied ["voice", "k"]) (D_added : At K mg "added" s_added ["one", "other"]) (z_zip : mg "zip" = none) (D_is_integer_set : At K mg "is_integer_set" s_is_integer_set ["thing"]) (D_is_beats : At K mg "is_beats" s_is_beats ["size", "thing"]) (D_voice_of : At K mg "voice_of" s_voice_of ["size", "beats"]) (D__law_power : At K mg "_law_power" s__law_power ["_law_tune_here", "_law_times_in"]) (D_power_of : At K mg "power_of" s_power_of ["voice", "many"]) (D_beats_of : At K mg "beats_of" s_beats_of ["voice"]) (D__law_size : At K mg "_law_size" s__law_size ["_law_feed_here"]) (D__law_tune : At K mg "_law_tune" s__law_tune ["_law_feed_here", "_law_size_in"]) (z_list : mg "list" = none) (D__law_sameW : At K mg "_law_same" s__law_same ["_law_told", "_law_due"]) (z_repr : mg "repr" = none) (D__law_are_powers_right : At K mg "_law_are_powers_right" s__law_are_powers_right ["_law_feed_here", "_law_tune_here"]) (D__law_are_products_right : At K mg "_law_are_products_right" s__law_are_products_right ["_law_feed_here", "_law_rows", "_law_step"]) (D__law_are_plain_right : At K mg "_law_are_plain_right" s__law_are_plain_right ["_law_feed_here", "_law_tune_here", "_law_step"]) (D_law : At K mg "law" s_law ["_law_script"]) :
    ∃ fd : FuncData, (∀ (s : Shared) (v : Value), BindsTo s fd ⟨[v], []⟩ [("_law_script", v)]) ∧ ∀ base : Heap, K.In base → base.Ns mainGlobals mg → base.NoDigits → FnG P w K mg base 8 fa fd ["_law_script"] (spLaw K) := by
  obtain ⟨f, fd, hm, F, _⟩ := D_law.ex
  cases hfa.symm.trans hm
  refine ⟨fd, ?_, fun base _ _ hN => ?_⟩
  · obtain ⟨oc, od, kV, doc, pm, an, cdv, ct, osl, rfl, lk, hcd⟩ := F.ex
    exact fun s v => .of_eq rfl
  have c_need : Cal P w K mg base 1 "need" spNeed := K3.c_need (P := P) (w := w) (base := base) D_need
  have c_is_integer : Cal P w K mg base 1 "is_integer" spIsInt := K3.c_is_integer (P := P) (w := w) (base := base) D_is_integer z_isinstance z_int z_bool
  have c_is_size : Cal P w K mg base 2 "is_size" spIsSize := K3.c_is_size (P := P) (w := w) (base := base) D_is_size c_is_integer
  have c_are_integers : Cal P w K mg base 2 "are_integers" (spAreInts K) := K3.c_are_integers (P := P) (w := w) (base := base) D_are_integers c_is_integer z_isinstance z_tuple z_all
  have c__law_feed : Cal P w K mg base 1 "_law_feed" (spFeed K) := K3.c__law_feed (P := P) (w := w) (base := base) D__law_feed z_int
  have c__law_draw : Cal P w K mg base 1 "_law_draw" spDraw := K3.c__law_draw (P := P) (w := w) (base := base) D__law_draw z_int z_len
  have c__law_any : Cal P w K mg base 2 "_law_any" spAny := K3.c__law_any (P := P) (w := w) (base := base) D__law_any c__law_draw z_len
  have c_is_number : Cal P w K mg base 2 "is_number" spIsNum := K3.c_is_number (P := P) (w := w) (base := base) D_is_number c_is_integer
  have c_is_voice : Cal P w K mg base 3 "is_voice" spIsVoice := K3.c_is_voice (P := P) (w := w) (base := base) D_is_voice c_are_integers z_len
  have c_is_voice_of : Cal P w K mg base 4 "is_voice_of" spIsVoiceOf := K3.c_is_voice_of (P := P) (w := w) (base := base) D_is_voice_of c_is_voice z_len
  have c_is_beat : Cal P w K mg base 2 "is_beat" spIsBeat := K3.c_is_beat (P := P) (w := w) (base := base) D_is_beat c_is_integer
  have c_product_of : Cal P w K mg base 5 "product_of" spProd := K3.c_product_of (P := P) (w := w) (base := base) D_product_of c_need c_is_voice c_is_voice_of z_len z_range z_enumerate z_tuple
  have c__law_product : Cal P w K mg base 1 "_law_product" spProd := K3.c__law_product (P := P) (w := w) (base := base) D__law_product z_len z_range z_int z_tuple
  have c_turned : Cal P w K mg base 4 "turned" spTurn := K3.c_turned (P := P) (w := w) (base := base) D_turned c_need c_is_voice c_is_integer z_len z_range z_tuple
  have c_mirrored : Cal P w K mg base 4 "mirrored" spMirror := K3.c_mirrored (P := P) (w := w) (base := base) D_mirrored c_need c_is_voice z_len z_range z_tuple
  have c__law_turned : Cal P w K mg base 1 "_law_turned" spTurn := K3.c__law_turned (P := P) (w := w) (base := base) D__law_turned z_len z_range z_int z_tuple
  have c__law_mirror : Cal P w K mg base 1 "_law_mirror" spMirror := K3.c__law_mirror (P := P) (w := w) (base := base) D__law_mirror z_len z_range z_int z_tuple
  have c__law_strokes : Cal P w K mg base 1 "_law_strokes" (spStrokes K) := K3.c__law_strokes (P := P) (w := w) (base := base) D__law_strokes z_range z_int z_tuple
  have c_ones_of : Cal P w K mg base 3 "ones_of" spOnes := K3.c_ones_of (P := P) (w := w) (base := base) D_ones_of c_need c_is_size
  have c_total_of : Cal P w K mg base 4 "total_of" spTotal := K3.c_total_of (P := P) (w := w) (base := base) D_total_of c_need c_is_voice z_sum
  have c_multiplied : Cal P w K mg base 4 "multiplied" spMult := K3.c_multiplied (P := P) (w := w) (base := base) D_multiplied c_need c_is_voice c_is_integer z_tuple
  have c_added : Cal P w K mg base 5 "added" spAdded := K3.c_added (P := P) (w := w) (base := base) D_added c_need c_is_voice c_is_voice_of z_len z_zip z_tuple
  have c_is_integer_set : Cal P w K mg base 3 "is_integer_set" spIntSet := K3.c_is_integer_set (P := P) (w := w) (base := base) D_is_integer_set c_are_integers z_all z_zip
  have c_is_beats : Cal P w K mg base 4 "is_beats" spIsBeats := K3.c_is_beats (P := P) (w := w) (base := base) D_is_beats c_is_size c_is_integer_set c_is_beat z_all
  have c_voice_of : Cal P w K mg base 5 "voice_of" spVoiceOf := K3.c_voice_of (P := P) (w := w) (base := base) D_voice_of c_need c_is_size c_is_beats z_range z_tuple
  have c__law_power : Cal P w K mg base 2 "_law_power" spPower := K3.c__law_power (P := P) (w := w) (base := base) D__law_power c__law_strokes c__law_product z_len z_range
  have c_power_of : Cal P w K mg base 6 "power_of" spPower := K3.c_power_of (P := P) (w := w) (base := base) D_power_of c_need c_is_voice c_is_number c_voice_of c_product_of z_len z_range
  have c_beats_of : Cal P w K mg base 4 "beats_of" spBeatsOf := K3.c_beats_of (P := P) (w := w) (base := base) D_beats_of c_need c_is_voice z_enumerate z_tuple
  have c__law_size : Cal P w K mg base 2 "_law_size" spSize := K3.c__law_size (P := P) (w := w) (base := base) D__law_size c__law_draw
  have c__law_tune : Cal P w K mg base 3 "_law_tune" spTune := K3.c__law_tune (P := P) (w := w) (base := base) D__law_tune c__law_draw c__law_any c__law_turned c__law_strokes z_range z_int z_tuple z_list
  have c__law_same : CalG P w K mg base 1 "_law_same" ["_law_told", "_law_due"] (spSameW K) := K3.c__law_sameW (P := P) (w := w) (base := base) hN D__law_sameW z_repr
  have c__law_are_powers_right : CalG P w K mg base 7 "_law_are_powers_right" ["_law_feed_here", "_law_tune_here"] spPowR := K3.c__law_are_powers_right (P := P) (w := w) (base := base) D__law_are_powers_right c__law_draw c__law_power c_power_of c__law_strokes c__law_product c__law_same z_len
  have c__law_are_products_right : CalG P w K mg base 7 "_law_are_products_right" ["_law_feed_here", "_law_rows", "_law_step"] spProdR := K3.c__law_are_products_right (P := P) (w := w) (base := base) D__law_are_products_right c__law_draw c__law_product c_product_of c_added c_total_of c_mirrored c_turned c_voice_of c_ones_of c__law_mirror c__law_turned c__law_same z_len z_zip z_tuple z_sum
  have c__law_are_plain_right : CalG P w K mg base 7 "_law_are_plain_right" ["_law_feed_here", "_law_tune_here", "_law_step"] spPlainR := K3.c__law_are_plain_right (P := P) (w := w) (base := base) D__law_are_plain_right c__law_draw c_beats_of c_total_of c_mirrored c_turned c_multiplied c_voice_of c_ones_of c__law_mirror c__law_turned c__law_strokes c__law_same z_len z_range z_tuple
  exact okG_law hN F c__law_feed c__law_draw c__law_size c__law_tune c__law_any c__law_are_products_right c__law_are_plain_right c__law_are_powers_right z_range z_repr
end
end K3

set_option Elab.async false
set_option linter.all false
open PySem PySem.W PyProof.Rows
set_option maxRecDepth 100000 in
set_option maxHeartbeats 0 in
theorem PySem.Challenge.cw_silentbeats_k03_whole_voices_holds : PySem.Challenge.rw_silentbeats_k03_whole_voices.Holds := by
  w_on; o_law; k_head; (case hw => w_witness2)
  k_fill
  refine Gd.walkGD (l := PySem.Challenge.rw_silentbeats_k03_whole_voices) (n := 63) (k := 8) (x := "_law_script") (sp := K3.spLaw) rfl (by decide) rfl ⟨rfl, by decide, by decide⟩ (fun w h Y => PySem.W.kIn_of Y) ?F (fun _ _ a ns hl _ hS => ⟨a, ns, rfl, hS, hl, fun _ => rfl⟩)
  case F =>
    intro w mg fa h KX G hmg
    refine' K3.all_mk hmg (K3.at2 (x := "need") (st := K3.s_need) KX G ?a1 ?l1 ?c1 ?k1 (fun _ _ _ _ _ _ _ _ => rfl)) (K3.at1 (x := "is_integer") (st := K3.s_is_integer) KX G ?a2 ?l2 ?c2 ?k2 (fun _ _ _ _ _ _ _ => rfl)) (PySem.W.mg_none_of KX G ?z3) (PySem.W.mg_none_of KX G ?z4) (PySem.W.mg_none_of KX G ?z5) (K3.at1 (x := "is_size") (st := K3.s_is_size) KX G ?a6 ?l6 ?c6 ?k6 (fun _ _ _ _ _ _ _ => rfl)) (K3.at1 (x := "are_integers") (st := K3.s_are_integers) KX G ?a7 ?l7 ?c7 ?k7 (fun _ _ _ _ _ _ _ => rfl)) (PySem.W.mg_none_of KX G ?z8) (PySem.W.mg_none_of KX G ?z9) (K3.at1 (x := "_law_feed") (st := K3.s__law_feed) KX G ?a10 ?l10 ?c10 ?k10 (fun _ _ _ _ _ _ _ => rfl)) (K3.at2 (x := "_law_draw") (st := K3.s__law_draw) KX G ?a11 ?l11 ?c11 ?k11 (fun _ _ _ _ _ _ _ _ => rfl)) (PySem.W.mg_none_of KX G ?z12) (K3.at2 (x := "_law_any") (st := K3.s__law_any) KX G ?a13 ?l13 ?c13 ?k13 (fun _ _ _ _ _ _ _ _ => rfl)) (K3.at1 (x := "is_number") (st := K3.s_is_number) KX G ?a14 ?l14 ?c14 ?k14 (fun _ _ _ _ _ _ _ => rfl)) (K3.at1 (x := "is_voice") (st := K3.s_is_voice) KX G ?a15 ?l15 ?c15 ?k15 (fun _ _ _ _ _ _ _ => rfl)) (K3.at2 (x := "is_voice_of") (st := K3.s_is_voice_of) KX G ?a16 ?l16 ?c16 ?k16 (fun _ _ _ _ _ _ _ _ => rfl)) (K3.at2 (x := "is_beat") (st := K3.s_is_beat) KX G ?a17 ?l17 ?c17 ?k17 (fun _ _ _ _ _ _ _ _ => rfl)) (K3.at2 (x := "product_of") (st := K3.s_product_of) KX G ?a18 ?l18 ?c18 ?k18 (fun _ _ _ _ _ _ _ _ => rfl)) (PySem.W.mg_none_of KX G ?z19) (PySem.W.mg_none_of KX G ?z20) (K3.at2 (x := "_law_product") (st := K3.s__law_product) KX G ?a21 ?l21 ?c21 ?k21 (fun _ _ _ _ _ _ _ _ => rfl)) (K3.at2 (x := "turned") (st := K3.s_turned) KX G ?a22 ?l22 ?c22 ?k22 (fun _ _ _ _ _ _ _ _ => rfl)) (K3.at1 (x := "mirrored") (st := K3.s_mirrored) KX G ?a23 ?l23 ?c23 ?k23 (fun _ _ _ _ _ _ _ => rfl)) (K3.at2 (x := "_law_turned") (st := K3.s__law_turned) KX G ?a24 ?l24 ?c24 ?k24 (fun _ _ _ _ _ _ _ _ => rfl)) (K3.at1 (x := "_law_mirror") (st := K3.s__law_mirror) KX G ?a25 ?l25 ?c25 ?k25 (fun _ _ _ _ _ _ _ => rfl)) (K3.at2 (x := "_law_strokes") (st := K3.s__law_strokes) KX G ?a26 ?l26 ?c26 ?k26 (fun _ _ _ _ _ _ _ _ => rfl)) (K3.at1 (x := "ones_of") (st := K3.s_ones_of) KX G ?a27 ?l27 ?c27 ?k27 (fun _ _ _ _ _ _ _ => rfl)) (K3.at1 (x := "total_of") (st := K3.s_total_of) KX G ?a28 ?l28 ?c28 ?k28 (fun _ _ _ _ _ _ _ => rfl)) (PySem.W.mg_none_of KX G ?z29) (K3.at2 (x := "multiplied") (st := K3.s_multiplied) KX G ?a30 ?l30 ?c30 ?k30 (fun _ _ _ _ _ _ _ _ => rfl)) (K3.at2 (x := "added") (st := K3.s_added) KX G ?a31 ?l31 ?c31 ?k31 (fun _ _ _ _ _ _ _ _ => rfl)) (PySem.W.mg_none_of KX G ?z32) (K3.at1 (x := "is_integer_set") (st := K3.s_is_integer_set) KX G ?a33 ?l33 ?c33 ?k33 (fun _ _ _ _ _ _ _ => rfl)) (K3.at2 (x := "is_beats") (st := K3.s_is_beats) KX G ?a34 ?l34 ?c34 ?k34 (fun _ _ _ _ _ _ _ _ => rfl)) (K3.at2 (x := "voice_of") (st := K3.s_voice_of) KX G ?a35 ?l35 ?c35 ?k35 (fun _ _ _ _ _ _ _ _ => rfl)) (K3.at2 (x := "_law_power") (st := K3.s__law_power) KX G ?a36 ?l36 ?c36 ?k36 (fun _ _ _ _ _ _ _ _ => rfl)) (K3.at2 (x := "power_of") (st := K3.s_power_of) KX G ?a37 ?l37 ?c37 ?k37 (fun _ _ _ _ _ _ _ _ => rfl)) (K3.at1 (x := "beats_of") (st := K3.s_beats_of) KX G ?a38 ?l38 ?c38 ?k38 (fun _ _ _ _ _ _ _ => rfl)) (K3.at1 (x := "_law_size") (st := K3.s__law_size) KX G ?a39 ?l39 ?c39 ?k39 (fun _ _ _ _ _ _ _ => rfl)) (K3.at2 (x := "_law_tune") (st := K3.s__law_tune) KX G ?a40 ?l40 ?c40 ?k40 (fun _ _ _ _ _ _ _ _ => rfl)) (PySem.W.mg_none_of KX G ?z41) (K3.at2 (x := "_law_same") (st := K3.s__law_same) KX G ?a42 ?l42 ?c42 ?k42 (fun _ _ _ _ _ _ _ _ => rfl)) (PySem.W.mg_none_of KX G ?z43) (K3.at2 (x := "_law_are_powers_right") (st := K3.s__law_are_powers_right) KX G ?a44 ?l44 ?c44 ?k44 (fun _ _ _ _ _ _ _ _ => rfl)) (K3.at3 (x := "_law_are_products_right") (st := K3.s__law_are_products_right) KX G ?a45 ?l45 ?c45 ?k45 (fun _ _ _ _ _ _ _ _ _ => rfl)) (K3.at3 (x := "_law_are_plain_right") (st := K3.s__law_are_plain_right) KX G ?a46 ?l46 ?c46 ?k46 (fun _ _ _ _ _ _ _ _ _ => rfl)) (K3.at1 (x := "law") (st := K3.s_law) KX G ?a47 ?l47 ?c47 ?k47 (fun _ _ _ _ _ _ _ => rfl))
    (case a1 => k_is); (case l1 => k_is); (case c1 => k_is); (case k1 => k_is); (case a2 => k_is); (case l2 => k_is); (case c2 => k_is); (case k2 => k_is); (case z3 => k_is); (case z4 => k_is); (case z5 => k_is); (case a6 => k_is); (case l6 => k_is); (case c6 => k_is); (case k6 => k_is); (case a7 => k_is); (case l7 => k_is); (case c7 => k_is); (case k7 => k_is); (case z8 => k_is); (case z9 => k_is); (case a10 => k_is); (case l10 => k_is); (case c10 => k_is); (case k10 => k_is); (case a11 => k_is); (case l11 => k_is); (case c11 => k_is); (case k11 => k_is); (case z12 => k_is); (case a13 => k_is); (case l13 => k_is); (case c13 => k_is); (case k13 => k_is); (case a14 => k_is); (case l14 => k_is); (case c14 => k_is); (case k14 => k_is); (case a15 => k_is); (case l15 => k_is); (case c15 => k_is); (case k15 => k_is); (case a16 => k_is); (case l16 => k_is); (case c16 => k_is); (case k16 => k_is); (case a17 => k_is); (case l17 => k_is); (case c17 => k_is); (case k17 => k_is); (case a18 => k_is); (case l18 => k_is); (case c18 => k_is); (case k18 => k_is); (case z19 => k_is); (case z20 => k_is); (case a21 => k_is); (case l21 => k_is); (case c21 => k_is); (case k21 => k_is); (case a22 => k_is); (case l22 => k_is); (case c22 => k_is); (case k22 => k_is); (case a23 => k_is); (case l23 => k_is); (case c23 => k_is); (case k23 => k_is); (case a24 => k_is); (case l24 => k_is); (case c24 => k_is); (case k24 => k_is); (case a25 => k_is); (case l25 => k_is); (case c25 => k_is); (case k25 => k_is); (case a26 => k_is); (case l26 => k_is); (case c26 => k_is); (case k26 => k_is); (case a27 => k_is); (case l27 => k_is); (case c27 => k_is); (case k27 => k_is); (case a28 => k_is); (case l28 => k_is); (case c28 => k_is); (case k28 => k_is); (case z29 => k_is); (case a30 => k_is); (case l30 => k_is); (case c30 => k_is); (case k30 => k_is); (case a31 => k_is); (case l31 => k_is); (case c31 => k_is); (case k31 => k_is); (case z32 => k_is); (case a33 => k_is); (case l33 => k_is); (case c33 => k_is); (case k33 => k_is); (case a34 => k_is); (case l34 => k_is); (case c34 => k_is); (case k34 => k_is); (case a35 => k_is); (case l35 => k_is); (case c35 => k_is); (case k35 => k_is); (case a36 => k_is); (case l36 => k_is); (case c36 => k_is); (case k36 => k_is); (case a37 => k_is); (case l37 => k_is); (case c37 => k_is); (case k37 => k_is); (case a38 => k_is); (case l38 => k_is); (case c38 => k_is); (case k38 => k_is); (case a39 => k_is); (case l39 => k_is); (case c39 => k_is); (case k39 => k_is); (case a40 => k_is); (case l40 => k_is); (case c40 => k_is); (case k40 => k_is); (case z41 => k_is); (case a42 => k_is); (case l42 => k_is); (case c42 => k_is); (case k42 => k_is); (case z43 => k_is); (case a44 => k_is); (case l44 => k_is); (case c44 => k_is); (case k44 => k_is); (case a45 => k_is); (case l45 => k_is); (case c45 => k_is); (case k45 => k_is); (case a46 => k_is); (case l46 => k_is); (case c46 => k_is); (case k46 => k_is); (case a47 => k_is); (case l47 => k_is); (case c47 => k_is); (case k47 => k_is)
