import PyProof.Rows.All
import Wide.All
import OpenK.AllK
import Wide.FinOn
import HandS.Iter
import PyProof.LongRange
import HandS.ForMost
import KE.GoesEnum
import PySem.Challenge.RW_ringstairs_k15_whole_greatest_heaps_and
import HandS.ForExc
import HandS.Wide
import HandS.SortInts
import HandS.Zip
import HandS.Style
import HandS.Rev
import HandS.TupMul
import HandS.IsInst
import HandS.Evl
import HandS.Gcd
import HandS.RevRange
import HandS.Small
import HandS.Conv
import HandS.TupAny
set_option Elab.async false
set_option linter.all false
set_option maxRecDepth 100000
set_option maxHeartbeats 4000000
/-! own rule: range(i, j) with ends of any size, walked -/
namespace LR
open PySem PySem.Spec PyProof.Rows L2
theorem turn_long {P : Program} {w : World} {K : PySem.W.Frag} {tg : Expr} (it : Addr) (lo : Int) (n : Nat) : Turn P w K tg (Itr lo n) [it] it (fun i h => IsLongIter h it (lo + (i : Nat) * 1) ((n : Int) - (i : Nat)) 1) where
  mem := by simp
  obj := fun i h st b hb => by
    have e : b = it := by simpa using hb
    subst e
    exact ⟨_, st, fun v z => nomatch z⟩
  keep := fun i h h' st k => k it (by simp) _ st
  item := by
    intro X hP hw hK hc i pins s σ H E I hf st hg
    subst hP hw hK
    obtain ⟨f0, f1, f2, f3, f4, f5⟩ := hf it (by simp)
    have W := Walks.longrange (prog := X.prog) (w := X.w) (I.ok.hd hc) it lo 1 n
    refine W.item i s _ _ hg st fun v h' tk hv st' kk => ?_
    obtain ⟨t, rfl⟩ := hv
    have I1 : Inv X pins σ H { s with heap := h', toks := tk } := I.turned (fun b o hb e => kk b o (by simpa using hb) e) f0 f1 f3 f4 f5
    exact ⟨_, rfl, go_of (s := { s with heap := h', toks := tk }) (n := "longrange_iterator") st' rfl rfl (by decide) ⟨.int (lo + (i : Nat) * 1), H, I1, ⟨t, rfl⟩, ⟨rfl, by simp⟩, st', fun b hb => (hf b hb).1⟩⟩
  done := by
    intro X hP hw hK hc i pins s σ H E I hf st hg
    subst hP hw hK
    obtain ⟨f0, f1, f2, f3, f4, f5⟩ := hf it (by simp)
    exact wpAny_pyNext_long_end (I.ok.hd hc) st (by have : n ≤ i := hg; omega) fun h' eb => ⟨rfl, I.turned (t' := s.toks) (fun b o hb e => eb b o hb e) f0 f1 f3 f4 f5⟩
  self := fun A i s Q E st h => wpAny_pyIter_longiter st h
theorem range_itL {X : Cx} {tg : Expr} {pins : List (Addr × Obj)} {σ : L2.St} {H : Hp} {s : Shared} {R : It → Hp → Prop} {E : Value → Shared → Prop} {lo hi : Int} {t u v : Tok} {tk : Nat} (I : Inv X pins σ H s) (hb : Builtin.Range.small lo hi 1 = false)
    (q : R (Itr lo (hi - lo).toNat) H) : wpAny (model X.prog X.w) X.A (pyIter (.ref s.heap.objs.size)) (PIE X pins σ tg R) E { s with heap := s.heap.push { cls := .type "range", data := .fields #[.int lo t, .int hi u, .int 1 v] }, toks := tk } := by
  refine wpAny_pyIter_longrange (IsRange.new ..) hb ?_
  have I1 : Inv X pins σ H { s with heap := s.heap.push { cls := .type "range", data := .fields #[.int lo t, .int hi u, .int 1 v] }, toks := tk } := I.kept fun b o e => Heap.get?_push_of_some _ e
  refine ⟨(s.heap.push { cls := .type "range", data := .fields #[.int lo t, .int hi u, .int 1 v] }).objs.size, [(s.heap.push { cls := .type "range", data := .fields #[.int lo t, .int hi u, .int 1 v] }).objs.size], _, _, H, rfl,
    I1.kept (t' := tk) fun b o e => Heap.get?_push_of_some _ e, turn_long _ lo (hi - lo).toNat, ?_, fun b hb => ?_, q⟩
  · have e1 : lo + ((0 : Nat) : Int) * 1 = lo := by simp
    have e2 : (((hi - lo).toNat : Nat) : Int) - ((0 : Nat) : Int) = Builtin.Range.rangeSize lo hi 1 := by rw [rangeSize_one]; split <;> omega
    show IsLongIter _ _ (lo + ((0 : Nat) : Int) * 1) ((((hi - lo).toNat : Nat) : Int) - ((0 : Nat) : Int)) 1
    rw [e1, e2]
    exact Heap.get?_push_size _ rfl
  · have e : b = (s.heap.push { cls := .type "range", data := .fields #[.int lo t, .int hi u, .int 1 v] }).objs.size := by simpa using hb
    subst e
    exact I1.fpOk (Nat.le_refl _) (I1.hok.fresh (Nat.le_refl _))
/-- small or not -/
theorem range_itS {X : Cx} {tg : Expr} {pins : List (Addr × Obj)} {σ : L2.St} {H : Hp} {s : Shared} {R : It → Hp → Prop} {E : Value → Shared → Prop} {lo hi : Int} {t u v : Tok} {tk : Nat} (I : Inv X pins σ H s) (hb : Builtin.Range.small lo hi 1 = true)
    (q : R (Itr lo (hi - lo).toNat) H) : wpAny (model X.prog X.w) X.A (pyIter (.ref s.heap.objs.size)) (PIE X pins σ tg R) E { s with heap := s.heap.push { cls := .type "range", data := .fields #[.int lo t, .int hi u, .int 1 v] }, toks := tk } := by
  refine wpAny_pyIter_range (IsRange.new ..) hb ?_
  have I1 : Inv X pins σ H { s with heap := s.heap.push { cls := .type "range", data := .fields #[.int lo t, .int hi u, .int 1 v] }, toks := tk } := I.kept fun b o e => Heap.get?_push_of_some _ e
  refine ⟨(s.heap.push { cls := .type "range", data := .fields #[.int lo t, .int hi u, .int 1 v] }).objs.size, [(s.heap.push { cls := .type "range", data := .fields #[.int lo t, .int hi u, .int 1 v] }).objs.size], _, _, H, rfl,
    I1.kept (t' := tk) fun b o e => Heap.get?_push_of_some _ e, turn_range _ lo (hi - lo).toNat, ?_, fun b hb => ?_, q⟩
  · have e1 : lo + ((0 : Nat) : Int) * 1 = lo := by simp
    have e2 : (((hi - lo).toNat : Nat) : Int) - ((0 : Nat) : Int) = Builtin.Range.rangeSize lo hi 1 := by rw [rangeSize_one]; split <;> omega
    show IsRangeIter _ _ (lo + ((0 : Nat) : Int) * 1) ((((hi - lo).toNat : Nat) : Int) - ((0 : Nat) : Int)) 1
    rw [e1, e2]
    exact Heap.get?_push_size _ rfl
  · have e : b = (s.heap.push { cls := .type "range", data := .fields #[.int lo t, .int hi u, .int 1 v] }).objs.size := by simpa using hb
    subst e
    exact I1.fpOk (Nat.le_refl _) (I1.hok.fresh (Nat.le_refl _))
def iRng2L (ta : TA) : TI := fun σ H R => ta σ H fun vs H1 => ∃ i j : Int, vs = [.int i, .int j] ∧ R (Itr i (j - i).toNat) H1
theorem pi_range2L {X : Cx} {tg : Expr} {a b : Expr} {ta : TA} {p pos : Pos} (hg : Gl X "range") (hm : X.mg "range" = none) (ha : PA X [a, b] ta) (hs : starEach [a, b] X.env = [(false, eval a X.env), (false, eval b X.env)] := by rfl) (hs2 : starEach [b] X.env = [(false, eval b X.env)] := by rfl) :
    PI X tg (.Call (.Name "range" p) [a, b] [] pos) (iRng2L ta) := by
  refine ⟨fun pins s σ H R I h => ?_⟩
  refine Call_ (ld_blt I hg hm boot_range (PyProof.Rows.callWith_type1 (thn (ha.run pos pins s σ H _ I h) fun us s1 ⟨vs, H1, I1, r1, q1⟩ => ?_) (by rw [hs, hs2]) (by rw [hs2]; rfl)))
  obtain ⟨i, j, e, q⟩ := q1
  subst e
  cases r1 with
  | cons r rr =>
    cases rr with
    | cons r' rr =>
      cases rr
      obtain ⟨t, rfl⟩ := r
      obtain ⟨t', rfl⟩ := r'
      cases hb : Builtin.Range.small i j 1 with
      | true => exact call_range_2 (range_itS I1 hb q)
      | false => exact call_range_2 (range_itL I1 hb q)
end LR

/-! plain mathematics for the orders and the diagonals -/
namespace K1M
/-- the step: the i-th place on the way from the right door by the left door -/
theorem dvd_iff {n s i : Nat} (hn : 0 < n) : (i * s) % n = 0 ↔ (n / Nat.gcd n s) ∣ i := by
  have hg : 0 < Nat.gcd n s := Nat.gcd_pos_of_pos_left _ hn
  have hc : Nat.Coprime (n / Nat.gcd n s) (s / Nat.gcd n s) := Nat.coprime_div_gcd_div_gcd hg
  have hn' : n = Nat.gcd n s * (n / Nat.gcd n s) := (Nat.mul_div_cancel' (Nat.gcd_dvd_left n s)).symm
  have hs' : s = Nat.gcd n s * (s / Nat.gcd n s) := (Nat.mul_div_cancel' (Nat.gcd_dvd_right n s)).symm
  constructor
  · intro h
    have d : n ∣ i * s := Nat.dvd_of_mod_eq_zero h
    have d2 : Nat.gcd n s * (n / Nat.gcd n s) ∣ Nat.gcd n s * (i * (s / Nat.gcd n s)) := by
      rw [← hn']
      have e : Nat.gcd n s * (i * (s / Nat.gcd n s)) = i * s := by
        rw [Nat.mul_left_comm, ← hs']
      rw [e]
      exact d
    have d3 := Nat.dvd_of_mul_dvd_mul_left hg d2
    exact hc.dvd_of_dvd_mul_right d3
  · rintro ⟨c, rfl⟩
    apply Nat.mod_eq_zero_of_dvd
    refine ⟨c * (s / Nat.gcd n s), ?_⟩
    have e : n / Nat.gcd n s * c * s = n / Nat.gcd n s * c * (Nat.gcd n s * (s / Nat.gcd n s)) := by rw [← hs']
    rw [e]
    have e2 : n * (c * (s / Nat.gcd n s)) = Nat.gcd n s * (n / Nat.gcd n s) * (c * (s / Nat.gcd n s)) := by rw [← hn']
    rw [e2]
    simp only [Nat.mul_assoc, Nat.mul_left_comm, Nat.mul_comm]
def ord (n s : Nat) : Nat := n / Nat.gcd n s
theorem ord_pos {n s : Nat} (hn : 0 < n) : 0 < ord n s := Nat.div_pos (Nat.gcd_le_left s hn) (Nat.gcd_pos_of_pos_left _ hn)
theorem ord_le {n s : Nat} : ord n s ≤ n := Nat.div_le_self _ _
theorem ord_ge2 {n s : Nat} (h1 : 1 ≤ s) (h2 : s < n) : 2 ≤ ord n s := by
  have hn : 0 < n := by omega
  have hg : 0 < Nat.gcd n s := Nat.gcd_pos_of_pos_left _ hn
  have hle : Nat.gcd n s ≤ s := Nat.le_of_dvd h1 (Nat.gcd_dvd_right n s)
  have hn' : n = Nat.gcd n s * ord n s := (Nat.mul_div_cancel' (Nat.gcd_dvd_left n s)).symm
  rcases Nat.lt_or_ge (ord n s) 2 with h | h
  · exfalso
    have hp := ord_pos (s := s) hn
    have e1 : ord n s = 1 := by omega
    rw [e1, Nat.mul_one] at hn'
    omega
  · exact h
/-- the way: while the next is not 0 and there are fewer than n -/
def stp (n s i : Nat) : Nat := (i * s) % n
theorem stp_zero_iff {n s i : Nat} (hn : 0 < n) : stp n s i = 0 ↔ ord n s ∣ i := dvd_iff hn
theorem stp_mod {n s i : Nat} (hn : 0 < n) : stp n s (i % ord n s) = stp n s i := by
  have h0 : (ord n s * s) % n = 0 := (stp_zero_iff (i := ord n s) hn).mpr (Nat.dvd_refl _)
  have e : i = ord n s * (i / ord n s) + i % ord n s := (Nat.div_add_mod i (ord n s)).symm
  have e2 : i * s = (i / ord n s) * (ord n s * s) + (i % ord n s) * s := by
    have : (ord n s * (i / ord n s) + i % ord n s) * s = (i / ord n s) * (ord n s * s) + (i % ord n s) * s := by
      rw [Nat.add_mul]
      congr 1
      simp only [Nat.mul_assoc, Nat.mul_left_comm, Nat.mul_comm]
    rw [← this, ← e]
  obtain ⟨q, hq⟩ := Nat.dvd_of_mod_eq_zero h0
  unfold stp
  rw [e2, hq, Nat.mul_left_comm, Nat.add_comm, Nat.add_mul_mod_self_left]
/-- the same for integers: the diagonal's place -/
theorem istp {n s : Nat} (hn : 0 < n) (c : Int) : (c * (s : Int)) % (n : Int) = ((stp n s (c % (ord n s : Int)).toNat : Nat) : Int) := by
  have hm : 0 < ord n s := ord_pos hn
  have hm' : (0 : Int) < (ord n s : Int) := by exact_mod_cast hm
  have hr0 : 0 ≤ c % (ord n s : Int) := Int.emod_nonneg _ (by omega)
  have h0 : ((ord n s : Int) * (s : Int)) % (n : Int) = 0 := by
    have h0 : (ord n s * s) % n = 0 := (stp_zero_iff (i := ord n s) hn).mpr (Nat.dvd_refl _)
    have := congrArg (fun x : Nat => (x : Int)) h0
    simpa using this
  have e : c = (ord n s : Int) * (c / (ord n s : Int)) + c % (ord n s : Int) := (Int.mul_ediv_add_emod c (ord n s : Int)).symm
  have e2 : c * (s : Int) = (c / (ord n s : Int)) * ((ord n s : Int) * (s : Int)) + (c % (ord n s : Int)) * (s : Int) := by
    have : ((ord n s : Int) * (c / (ord n s : Int)) + c % (ord n s : Int)) * (s : Int) = (c / (ord n s : Int)) * ((ord n s : Int) * (s : Int)) + (c % (ord n s : Int)) * (s : Int) := by
      rw [Int.add_mul]
      congr 1
      rw [Int.mul_assoc, Int.mul_left_comm]
    rw [← this, ← e]
  rw [e2, Int.add_emod, Int.mul_emod, h0, Int.mul_zero, Int.zero_emod, Int.zero_add, Int.emod_emod]
  unfold stp
  have e3 : c % (ord n s : Int) = (((c % (ord n s : Int)).toNat : Nat) : Int) := (Int.toNat_of_nonneg hr0).symm
  conv => lhs; rw [e3]
  simp
/-- does_let tells just the place -/
theorem lets_iff {n : Nat} {x p : Int} (hn : 0 < n) (h0 : 0 ≤ p) (h1 : p < n) : (x - p) % (n : Int) = 0 ↔ x % (n : Int) = p := by
  have hn' : (0 : Int) < n := by exact_mod_cast hn
  constructor
  · intro h
    have e := Int.emod_emod_of_dvd x (Int.dvd_refl (n : Int))
    have h2 : x = (n : Int) * ((x - p) / n) + p := by
      have := Int.mul_ediv_add_emod (x - p) n
      omega
    rw [h2, Int.add_comm, Int.add_mul_emod_self_left]
    exact Int.emod_eq_of_lt h0 h1
  · intro h
    have h2 := Int.mul_ediv_add_emod x n
    have h3 : x - p = (n : Int) * (x / n) := by omega
    rw [h3, Int.mul_emod_right]
/-- the stop of the loop is the order -/
theorem stop_is {n s k : Nat} (hn : 0 < n) (hk : 1 ≤ k) (hkn : k ≤ n) (hlow : ∀ i, 0 < i → i < k → stp n s i ≠ 0) (hstop : stp n s k = 0 ∨ k = n) : k = ord n s := by
  have hm := ord_pos (s := s) hn
  have hmn : ord n s ≤ n := ord_le
  have h1 : k ≤ ord n s := by
    rcases Nat.lt_or_ge (ord n s) k with h | h
    · exact absurd ((stp_zero_iff hn).mpr (Nat.dvd_refl _)) (hlow _ hm h)
    · exact h
  rcases hstop with h | h
  · have d := (stp_zero_iff hn).mp h
    have := Nat.le_of_dvd hk d
    omega
  · omega
end K1M

/-! plain mathematics for the written names -/
namespace K1N
def nAt (rs : List (Int × Int)) (j : Nat) : Nat := (rs.getD j (0, 0)).1.toNat
def sAt (rs : List (Int × Int)) (j : Nat) : Int := (rs.getD j (0, 0)).2
def row (j n : Nat) : List (Int × Int) := (List.range n).map fun (q : Nat) => ((j : Int), (q : Int))
def pre (rs : List (Int × Int)) : Nat → List (Int × Int)
  | 0 => []
  | i + 1 => pre rs i ++ row i (nAt rs i)
/-- a place that is its own written name -/
def own (rs : List (Int × Int)) (p : Int × Int) : Bool := !(decide (0 < p.1) && decide (p.2 = sAt rs p.1.toNat))
def names (rs : List (Int × Int)) : List (Int × Int) := (pre rs rs.length).filter (own rs)
def sumTo (rs : List (Int × Int)) : Nat → Nat
  | 0 => 0
  | i + 1 => sumTo rs i + nAt rs i
theorem row_succ (j n : Nat) : row j (n + 1) = row j n ++ [((j : Int), (n : Int))] := by
  unfold row
  rw [List.range_succ, List.map_append]
  rfl
theorem row_len (j n : Nat) : (row j n).length = n := by
  unfold row
  rw [List.length_map, List.length_range]
theorem pre_len {rs : List (Int × Int)} (h : ∀ j, nAt rs j ≤ 60) : ∀ i, (pre rs i).length ≤ 60 * i
  | 0 => Nat.le_refl _
  | i + 1 => by
    show (pre rs i ++ row i (nAt rs i)).length ≤ 60 * (i + 1)
    rw [List.length_append, row_len]
    have := pre_len h i
    have := h i
    omega
theorem row0 (rs : List (Int × Int)) : ∀ n, ((row 0 n).filter (own rs)).length = n
  | 0 => rfl
  | n + 1 => by
    rw [row_succ, List.filter_append, List.length_append, row0 rs n]
    have : own rs (((0 : Nat) : Int), (n : Int)) = true := rfl
    rw [List.filter_cons, if_pos this]
    rfl
theorem rowS (rs : List (Int × Int)) (j : Nat) (s : Nat) (hs : sAt rs (j + 1) = (s : Int)) : ∀ n, ((row (j + 1) n).filter (own rs)).length = if s < n then n - 1 else n
  | 0 => rfl
  | n + 1 => by
    rw [row_succ, List.filter_append, List.length_append, rowS rs j s hs n]
    by_cases c : n = s
    · have e : own rs (((j + 1 : Nat) : Int), (n : Int)) = false := by
        unfold own
        rw [show (((j + 1 : Nat) : Int)).toNat = j + 1 by omega, hs, decide_eq_true (show (0 : Int) < ((j + 1 : Nat) : Int) by omega), decide_eq_true (show (n : Int) = (s : Int) by omega)]
        rfl
      have e2 : [(((j + 1 : Nat) : Int), (n : Int))].filter (own rs) = [] := by
        rw [List.filter_cons, if_neg (show ¬ own rs (((j + 1 : Nat) : Int), (n : Int)) = true by rw [e]; decide)]
        rfl
      rw [e2, if_neg (show ¬ s < n by omega), if_pos (show s < n + 1 by omega)]
      show n + 0 = n + 1 - 1
      omega
    · have e : own rs (((j + 1 : Nat) : Int), (n : Int)) = true := by
        unfold own
        rw [show (((j + 1 : Nat) : Int)).toNat = j + 1 by omega, hs, decide_eq_false (show ¬ (n : Int) = (s : Int) by omega), Bool.and_false]
        rfl
      rw [List.filter_cons, if_pos e]
      show (if s < n then n - 1 else n) + 1 = _
      by_cases c2 : s < n
      · rw [if_pos c2, if_pos (by omega)]
        omega
      · rw [if_neg c2, if_neg (by omega)]
/-- how many written names -/
theorem count_to {rs : List (Int × Int)} (h : ∀ j, j < rs.length → 1 ≤ sAt rs j ∧ sAt rs j < (nAt rs j : Int)) : ∀ i, 1 ≤ i → i ≤ rs.length → ((pre rs i).filter (own rs)).length + i = sumTo rs i + 1
  | 0, z, _ => absurd z (by decide)
  | 1, _, h1 => by
    show (([] ++ row 0 (nAt rs 0)).filter (own rs)).length + 1 = 0 + nAt rs 0 + 1
    rw [List.nil_append, row0]
    omega
  | i + 2, _, h1 => by
    have ih := count_to h (i + 1) (by omega) (by omega)
    have hs := h (i + 1) (by omega)
    have hr := rowS rs i (sAt rs (i + 1)).toNat (by omega) (nAt rs (i + 1))
    rw [if_pos (by omega)] at hr
    show ((pre rs (i + 1) ++ row (i + 1) (nAt rs (i + 1))).filter (own rs)).length + (i + 2) = sumTo rs (i + 1) + nAt rs (i + 1) + 1
    rw [List.filter_append, List.length_append, hr]
    omega
theorem nAt_left {a b : List (Int × Int)} {j : Nat} (h : j < a.length) : nAt (a ++ b) j = nAt a j := by
  unfold nAt
  rw [List.getD_eq_getElem?_getD, List.getD_eq_getElem?_getD, List.getElem?_append_left h]
theorem nAt_right {a b : List (Int × Int)} {j : Nat} : nAt (a ++ b) (a.length + j) = nAt b j := by
  unfold nAt
  rw [List.getD_eq_getElem?_getD, List.getD_eq_getElem?_getD, List.getElem?_append_right (by omega), Nat.add_sub_cancel_left]
theorem sum_left {a b : List (Int × Int)} : ∀ i, i ≤ a.length → sumTo (a ++ b) i = sumTo a i
  | 0, _ => rfl
  | i + 1, h => by
    show sumTo (a ++ b) i + nAt (a ++ b) i = sumTo a i + nAt a i
    rw [sum_left i (by omega), nAt_left (by omega)]
theorem sum_right {a b : List (Int × Int)} : ∀ i, sumTo (a ++ b) (a.length + i) = sumTo a a.length + sumTo b i
  | 0 => by
    rw [Nat.add_zero, sum_left _ (Nat.le_refl _)]
    rfl
  | i + 1 => by
    show sumTo (a ++ b) (a.length + i) + nAt (a ++ b) (a.length + i) = sumTo a a.length + (sumTo b i + nAt b i)
    rw [sum_right i, nAt_right, Nat.add_assoc]
theorem names_joined {a b : List (Int × Int)} (ha : 1 ≤ a.length) (hb : 1 ≤ b.length) (h1 : ∀ j, j < a.length → 1 ≤ sAt a j ∧ sAt a j < (nAt a j : Int)) (h2 : ∀ j, j < b.length → 1 ≤ sAt b j ∧ sAt b j < (nAt b j : Int))
    (h3 : ∀ j, j < (a ++ b).length → 1 ≤ sAt (a ++ b) j ∧ sAt (a ++ b) j < (nAt (a ++ b) j : Int)) : (names (a ++ b)).length + 1 = (names a).length + (names b).length := by
  unfold names
  have e1 := count_to h1 a.length ha (Nat.le_refl _)
  have e2 := count_to h2 b.length hb (Nat.le_refl _)
  have e3 := count_to h3 (a ++ b).length (by rw [List.length_append]; omega) (Nat.le_refl _)
  have e4 := sum_right (a := a) (b := b) b.length
  rw [List.length_append] at e3 ⊢
  omega
end K1N

/-! enumerate over a tuple, one argument -/
namespace EnT
open PySem PySem.Spec PyProof.Rows L2
theorem made {v : Value} {o : Obj} {Hy : Heap → Prop} (B : Begins v o Hy) : Meets (Builtin.«enumerate.__new__» ⟨[.type "enumerate", v], []⟩) (fun _ R s => Hy s.heap ∧
      R (.ok (.ret (.ref (s.heap.push o).objs.size))) { s with heap := (s.heap.push o).push { cls := .type "enumerate", data := .fields #[.none, .bool false, .ref s.heap.objs.size, rawInt 0, .none, .none] } }) :=
  .of_wp fun prog w A R s z => by
    obtain ⟨hp, gs, dr, tk, os⟩ := s
    obtain ⟨z1, z2⟩ := z
    have sb := sub_enumerate
    have it1 : ∀ {A2 : Around} {E2 : Value → Shared → Prop} {Q2 : Value → Shared → Prop}, Q2 (.ref hp.objs.size) ⟨hp.push o, gs, dr, tk, os⟩ → wpAny (model prog w) A2 (pyIter v) Q2 E2 ⟨hp, gs, dr, tk, os⟩ :=
      fun y => B.iter prog w _ _ ⟨hp, gs, dr, tk, os⟩ _ z1 y
    wp_walk using it1
    refine wpAny_stack_any fun _ => wpAny_pure ?_
    split
    · rename_i c _ _ _ _ _
      cases (c == Value.type "enumerate")
      · wp_walk using it1
        exact ⟨_, rfl, z2⟩
      · wp_walk using it1
        exact ⟨_, rfl, z2⟩
    · wp_walk using it1
      exact ⟨_, rfl, z2⟩
section
variable {prog : Program} {w : World} {A : Around} {E : Value → Shared → Prop} {s : Shared}
theorem call_made {v : Value} {o : Obj} {Hy : Heap → Prop} {Q : Value → Shared → Prop} (B : Begins v o Hy) (h1 : Hy s.heap)
    (k : ∀ h2, IsEnum h2 (s.heap.objs.size + 1) s.heap.objs.size 0 .none → h2.get? s.heap.objs.size = some o → (∀ b u, s.heap.get? b = some u → h2.get? b = some u) → Q (.ref (s.heap.objs.size + 1)) { s with heap := h2 }) :
    wpAny (model prog w) A (call (.type "enumerate") [v]) Q E s := by
  refine callType_new F.called_enumerate (by decide) (F.typeCall_enumerate_1 _) (F.newCall_enumerate_1 _) (fun obj => F.args_object_init_2 obj _) F.entry_enumerate_new (made B) ⟨h1, ?_⟩
  have sz : (s.heap.push o).objs.size = s.heap.objs.size + 1 := by rw [Heap.size_push]
  show _ ∧ _
  rw [sz]
  have en := Heap.get?_push_size (s.heap.push o) (o := { cls := .type "enumerate", data := .fields #[.none, .bool false, .ref s.heap.objs.size, rawInt 0, .none, .none] }) rfl
  rw [sz] at en
  exact ⟨⟨_, en, rfl⟩, k _ en (Heap.get?_push_of_some _ (Heap.get?_push_size _ B.free)) fun b u y => Heap.get?_push_of_some _ (Heap.get?_push_of_some _ y)⟩
end
/-- the tuple at a, each item in a new pair with its number -/
def IteT (K : PySem.W.Frag) (a : Addr) : It :=
  ⟨fun i H => ∃ (ts : List V) (x : V), SqT K H a ts ∧ ts[i]? = some x, fun i H v H' => ∃ T x, v = .ref T ∧ H T = none ∧ H' = upd H T (.tup [.int (i : Nat), x]) ∧ ∀ ts, SqT K H a ts → ts[i]? = some x, fun i H => ∃ ts : List V, SqT K H a ts ∧ ts.length = i⟩
theorem tup_inj {X : Cx} {pins : List (Addr × Obj)} {σ : L2.St} {H : Hp} {s : Shared} {a : Addr} {xs ys : List V} (I : Inv X pins σ H s) (h1 : SqT X.K H a xs) (h2 : SqT X.K H a ys) : xs = ys := by
  obtain ⟨i1, r1, ⟨o1, g1, c1, n1, d1⟩, _⟩ := I.tuple h1
  obtain ⟨i2, r2, ⟨o2, g2, c2, n2, d2⟩, _⟩ := I.tuple h2
  rw [g1] at g2
  have e := Option.some.inj g2
  subst e
  rw [d1] at d2
  injection d2 with e1 _
  have e3 : i1 = i2 := by simpa using e1
  subst e3
  exact Vals.inj r1 r2
theorem turn {P : Program} {w : World} {K : PySem.W.Frag} {elts : List Expr} {kk : Nat} {tpos : Pos} (a e it : Addr) :
    Turn P w K (.Tuple elts kk tpos) (IteT K a) [e, it] e (fun i h => (∃ old, IsEnum h e it ((i : Nat) : Int) old) ∧ h.IsTupleIter it a i ∧ e ≠ it ∧ a ≠ e ∧ a ≠ it) where
  mem := by simp
  obj := fun i h st b hb => by
    obtain ⟨⟨old, he⟩, ⟨o, ho, hc, hd⟩, _⟩ := st
    rcases (show b = e ∨ b = it by simpa using hb) with z | z
    · rw [z]
      exact ⟨_, he, fun v q => nomatch q⟩
    · rw [z]
      exact ⟨o, ho, fun v q => by rw [hd] at q; cases q⟩
  keep := fun i h h' st k => by
    obtain ⟨⟨old, he⟩, ⟨o, ho, hc, hd⟩, n1, n2, n3⟩ := st
    exact ⟨⟨old, k e (by simp) _ he⟩, ⟨o, k it (by simp) _ ho, hc, hd⟩, n1, n2, n3⟩
  item := by
    intro X hP hw hK hc i pins s σ H E I hf st hg
    subst hP hw hK
    obtain ⟨⟨old, he⟩, hit, n1, n2, n3⟩ := st
    obtain ⟨xs, x, hq, hx⟩ := hg
    obtain ⟨its, rv, p, _⟩ := I.tuple hq
    obtain ⟨u, hu, ru⟩ := rv.get hx
    have hel : e < s.heap.objs.size := Heap.lt_size he
    have hil : it < s.heap.objs.size := by
      obtain ⟨_, q, _⟩ := hit
      exact Heap.lt_size q
    have hlt : i < its.toArray.size := by
      have := (List.getElem?_eq_some_iff.mp hu).1
      simpa using this
    have hh : X.A.in1.handled = none := I.ok.hd hc
    have DT := Draws.tuple (prog := X.prog) (w := X.w) hh it a n3 its.toArray
    refine wpAny_pyNext_enum_itemD DT he ⟨hit, p⟩ hlt n1 (by simp [n1, Ne.symm n2]) fun y h1 tk hy ho hst hT hsz hk => ?_
    have ey : y = u := by
      have q : its.toArray[i]? = some u := by simpa using hu
      exact Option.some.inj (hy.symm.trans q)
    subst ey
    refine ⟨_, rfl, wpAny_letOwnedTupleGo_enum (s := { s with heap := h1, toks := tk + 1 }) ho fun h2 he2 sb => ?_⟩
    have hT2 : h2.get? s.heap.objs.size = some { cls := .type "tuple", data := .seq #[.int i tk, y] } := (sb.2 _ (Nat.ne_of_gt hel)).trans hT
    have new : ObjOk X.prog X.w (upd H s.heap.objs.size (.tup [.int (i : Nat), x])) h2 s.heap.objs.size (.tup [.int (i : Nat), x]) :=
      ⟨show 2 ≤ sizeLine by decide, [.int i tk, y], .cons ⟨_, rfl⟩ (.cons ru .nil), ⟨_, hT2, rfl, _, rfl⟩⟩
    have I1 : Inv X pins σ (upd H s.heap.objs.size (.tup [.int (i : Nat), x])) { s with heap := h2, toks := tk + 1 } :=
      I.turnedNew (ch := [e, it]) (fun b ob hb q => (sb.2 b (fun z => hb (by simp [z]))).trans (hk b ob (fun z => hb (by simp [z])) (fun z => hb (by simp [z])) q)) hf (Nat.le_refl _) new
    obtain ⟨oi, g1, g2, g3⟩ := hst.1
    refine ⟨.ref s.heap.objs.size, _, I1, rfl, ⟨_, x, rfl, I.hok.fresh (Nat.le_refl _), rfl, fun ys hys => by rw [tup_inj I hys hq]; exact hx⟩, ⟨⟨y, ?_⟩, ⟨oi, (sb.2 it (Ne.symm n1)).trans g1, g2, g3⟩, n1, n2, n3⟩, fun b hb => ?_⟩
    · rw [show ((i + 1 : Nat) : Int) = (i : Int) + 1 by omega]
      exact he2
    · have hb2 : b < s.heap.objs.size := by
        rcases (show b = e ∨ b = it by simpa using hb) with z | z
        · rw [z]
          exact hel
        · rw [z]
          exact hil
      rw [upd_ne (Nat.ne_of_lt hb2)]
      exact (hf b hb).1
  done := by
    intro X hP hw hK hc i pins s σ H E I hf st hg
    subst hP hw hK
    obtain ⟨⟨old, he⟩, hit, n1, n2, n3⟩ := st
    obtain ⟨xs, hq, hx⟩ := hg
    obtain ⟨its, rv, p, _⟩ := I.tuple hq
    obtain ⟨f0, f1, f2, f3, f4, f5⟩ := hf it (by simp)
    have hl := rv.length
    have hn : its.toArray.size = i := by
      rw [List.size_toArray]
      omega
    have hh : X.A.in1.handled = none := I.ok.hd hc
    have DT := Draws.tuple (prog := X.prog) (w := X.w) hh it a n3 its.toArray
    refine wpAny_pyNext_enum_endD DT he ⟨?_, p⟩ fun h1 eb => ⟨rfl, I.turned (t' := s.toks) (fun b o hb q => eb b o hb q) f0 f1 f3 f4 f5⟩
    rw [hn]
    exact hit
  self := fun A i s Q E st h => by
    obtain ⟨⟨_, he⟩, _⟩ := st
    exact wpAny_pyIter_enum he h
def iEnumT (K : PySem.W.Frag) (ta : TA) : TI := fun σ H R => ta σ H fun vs H1 => ∃ a xs, vs = [.ref a] ∧ SqT K H1 a xs ∧ R (IteT K a) H1
theorem pi_enumT {X : Cx} {e : Expr} {ta : TA} {p pos tpos : Pos} {elts : List Expr} {kk : Nat} (hg : Gl X "enumerate") (hm : X.mg "enumerate" = none) (ha : PA X [e] ta) (hs : starEach [e] X.env = [(false, eval e X.env)] := by rfl) :
    PI X (.Tuple elts kk tpos) (.Call (.Name "enumerate" p) [e] [] pos) (iEnumT X.K ta) := by
  refine ⟨fun pins s σ H R I h => ?_⟩
  refine Call_ (ld_blt I hg hm boot_enumerate (PyProof.Rows.callWith_type1 (thn (ha.run pos pins s σ H _ I h) fun us s1 ⟨vs, H1, I1, r1, y1⟩ => ?_) hs rfl))
  obtain ⟨a, xs, ex, hq, q⟩ := y1
  subst ex
  cases r1 with
  | cons r rr =>
    cases rr
    cases r
    obtain ⟨its, rv, p2, _⟩ := I1.tuple hq
    have hal : a < s1.heap.objs.size := by
      obtain ⟨o, g, _⟩ := p2
      exact Heap.lt_size g
    refine call_made (begins_tuple a its.toArray) p2 fun h2 he hit hk => wpAny_pyIter_enum he ?_
    have I2 : Inv X pins σ H1 { s1 with heap := h2 } := I1.kept (t' := s1.toks) hk
    refine ⟨s1.heap.objs.size + 1, [s1.heap.objs.size + 1, s1.heap.objs.size], _, _, H1, rfl, I2, turn a (s1.heap.objs.size + 1) s1.heap.objs.size, ⟨⟨.none, he⟩, ⟨_, hit, rfl, rfl⟩, Nat.succ_ne_self _, Nat.ne_of_lt (Nat.lt_succ_of_lt hal), Nat.ne_of_lt hal⟩, fun b hb => ?_, q⟩
    have hle : s1.heap.objs.size ≤ b := by
      rcases (show b = s1.heap.objs.size + 1 ∨ b = s1.heap.objs.size by simpa using hb) with z | z
      · rw [z]
        exact Nat.le_add_right _ _
      · rw [z]
        exact Nat.le_refl _
    exact I1.fpOk hle (I1.hok.fresh hle)
end EnT

namespace K1
open PySem PySem.Spec PyProof.Rows L2 Evl
def topS (i : Nat) : Stmt := PySem.Challenge.pw_ringstairs_k15_whole_greatest_heaps_and.main.body.getD i (.Pass ⟨0, 0, 0, 0⟩)
abbrev sIsInteger : Stmt := topS 10
abbrev nIsInteger : List Str := ["value"]
theorem scIsInteger : FnScope nIsInteger ["value"] (defScope sIsInteger) := ⟨rfl, rfl, rfl, by decide +kernel, rfl, by decide +kernel, by decide +kernel⟩
abbrev sIsBetween : Stmt := topS 11
abbrev nIsBetween : List Str := ["value", "low", "high"]
theorem scIsBetween : FnScope nIsBetween ["value", "low", "high"] (defScope sIsBetween) := ⟨rfl, rfl, rfl, by decide +kernel, rfl, by decide +kernel, by decide +kernel⟩
abbrev sIsPair : Stmt := topS 12
abbrev nIsPair : List Str := ["value"]
theorem scIsPair : FnScope nIsPair ["value"] (defScope sIsPair) := ⟨rfl, rfl, rfl, by decide +kernel, rfl, by decide +kernel, by decide +kernel⟩
abbrev sCheckInteger : Stmt := topS 13
abbrev nCheckInteger : List Str := ["value"]
theorem scCheckInteger : FnScope nCheckInteger ["value"] (defScope sCheckInteger) := ⟨rfl, rfl, rfl, by decide +kernel, rfl, by decide +kernel, by decide +kernel⟩
abbrev sCheckBetween : Stmt := topS 14
abbrev nCheckBetween : List Str := ["value", "low", "high"]
theorem scCheckBetween : FnScope nCheckBetween ["value", "low", "high"] (defScope sCheckBetween) := ⟨rfl, rfl, rfl, by decide +kernel, rfl, by decide +kernel, by decide +kernel⟩
abbrev sCheckDigits : Stmt := topS 15
abbrev nCheckDigits : List Str := ["numbers", "number"]
theorem scCheckDigits : FnScope nCheckDigits ["numbers"] (defScope sCheckDigits) := ⟨rfl, rfl, rfl, by decide +kernel, rfl, by decide +kernel, by decide +kernel⟩
abbrev sIsRing : Stmt := topS 19
abbrev nIsRing : List Str := ["value", "places", "door"]
theorem scIsRing : FnScope nIsRing ["value"] (defScope sIsRing) := ⟨rfl, rfl, rfl, by decide +kernel, rfl, by decide +kernel, by decide +kernel⟩
abbrev sIsChain : Stmt := topS 20
abbrev nIsChain : List Str := ["value", "ring"]
theorem scIsChain : FnScope nIsChain ["value"] (defScope sIsChain) := ⟨rfl, rfl, rfl, by decide +kernel, rfl, by decide +kernel, by decide +kernel⟩
abbrev sCheckRing : Stmt := topS 21
abbrev nCheckRing : List Str := ["ring"]
theorem scCheckRing : FnScope nCheckRing ["ring"] (defScope sCheckRing) := ⟨rfl, rfl, rfl, by decide +kernel, rfl, by decide +kernel, by decide +kernel⟩
abbrev sCheckChain : Stmt := topS 22
abbrev nCheckChain : List Str := ["chain"]
theorem scCheckChain : FnScope nCheckChain ["chain"] (defScope sCheckChain) := ⟨rfl, rfl, rfl, by decide +kernel, rfl, by decide +kernel, by decide +kernel⟩
abbrev sLets : Stmt := topS 23
abbrev nLets : List Str := ["ring", "place", "diagonal"]
theorem scLets : FnScope nLets ["ring", "place", "diagonal"] (defScope sLets) := ⟨rfl, rfl, rfl, by decide +kernel, rfl, by decide +kernel, by decide +kernel⟩
abbrev sLiesTold : Stmt := topS 25
abbrev nLiesTold : List Str := ["chain", "value", "place", "ring"]
theorem scLiesTold : FnScope nLiesTold ["chain", "value"] (defScope sLiesTold) := ⟨rfl, rfl, rfl, by decide +kernel, rfl, by decide +kernel, by decide +kernel⟩
abbrev sCheckPlaces : Stmt := topS 26
abbrev nCheckPlaces : List Str := ["chain", "places"]
theorem scCheckPlaces : FnScope nCheckPlaces ["chain", "places"] (defScope sCheckPlaces) := ⟨rfl, rfl, rfl, by decide +kernel, rfl, by decide +kernel, by decide +kernel⟩
abbrev sIsClass : Stmt := topS 27
abbrev nIsClass : List Str := ["chain", "value"]
theorem scIsClass : FnScope nIsClass ["chain", "value"] (defScope sIsClass) := ⟨rfl, rfl, rfl, by decide +kernel, rfl, by decide +kernel, by decide +kernel⟩
abbrev sCheckClass : Stmt := topS 28
abbrev nCheckClass : List Str := ["chain", "value"]
theorem scCheckClass : FnScope nCheckClass ["chain", "value"] (defScope sCheckClass) := ⟨rfl, rfl, rfl, by decide +kernel, rfl, by decide +kernel, by decide +kernel⟩
abbrev sToldClass : Stmt := topS 29
abbrev nToldClass : List Str := ["chain", "degree", "rests", "rest", "ring"]
theorem scToldClass : FnScope nToldClass ["chain", "degree", "rests"] (defScope sToldClass) := ⟨rfl, rfl, rfl, by decide +kernel, rfl, by decide +kernel, by decide +kernel⟩
abbrev sClassWithEnds : Stmt := topS 30
abbrev nClassWithEnds : List Str := ["chain", "one", "a", "b", "rests", "place", "ring"]
theorem scClassWithEnds : FnScope nClassWithEnds ["chain", "one", "a", "b"] (defScope sClassWithEnds) := ⟨rfl, rfl, rfl, by decide +kernel, rfl, by decide +kernel, by decide +kernel⟩
abbrev sIsHeap : Stmt := topS 33
abbrev nIsHeap : List Str := ["value", "ahead", "height"]
theorem scIsHeap : FnScope nIsHeap ["value"] (defScope sIsHeap) := ⟨rfl, rfl, rfl, by decide +kernel, rfl, by decide +kernel, by decide +kernel⟩
abbrev sCheckHeap : Stmt := topS 34
abbrev nCheckHeap : List Str := ["heap"]
theorem scCheckHeap : FnScope nCheckHeap ["heap"] (defScope sCheckHeap) := ⟨rfl, rfl, rfl, by decide +kernel, rfl, by decide +kernel, by decide +kernel⟩
abbrev sCheckHeaps : Stmt := topS 35
abbrev nCheckHeaps : List Str := ["one", "other"]
theorem scCheckHeaps : FnScope nCheckHeaps ["one", "other"] (defScope sCheckHeaps) := ⟨rfl, rfl, rfl, by decide +kernel, rfl, by decide +kernel, by decide +kernel⟩
abbrev sCheckSide : Stmt := topS 36
abbrev nCheckSide : List Str := ["heap"]
theorem scCheckSide : FnScope nCheckSide ["heap"] (defScope sCheckSide) := ⟨rfl, rfl, rfl, by decide +kernel, rfl, by decide +kernel, by decide +kernel⟩
abbrev sHeightAt : Stmt := topS 37
abbrev nHeightAt : List Str := ["heap", "column"]
theorem scHeightAt : FnScope nHeightAt ["heap", "column"] (defScope sHeightAt) := ⟨rfl, rfl, rfl, by decide +kernel, rfl, by decide +kernel, by decide +kernel⟩
abbrev sHolds : Stmt := topS 38
abbrev nHolds : List Str := ["heap", "other", "column", "height"]
theorem scHolds : FnScope nHolds ["heap", "other"] (defScope sHolds) := ⟨rfl, rfl, rfl, by decide +kernel, rfl, by decide +kernel, by decide +kernel⟩
abbrev sIsHeld : Stmt := topS 39
abbrev nIsHeld : List Str := ["heap", "other"]
theorem scIsHeld : FnScope nIsHeld ["heap", "other"] (defScope sIsHeld) := ⟨rfl, rfl, rfl, by decide +kernel, rfl, by decide +kernel, by decide +kernel⟩
abbrev sLengthsOf : Stmt := topS 40
abbrev nLengthsOf : List Str := ["heap", "height", "row"]
theorem scLengthsOf : FnScope nLengthsOf ["heap"] (defScope sLengthsOf) := ⟨rfl, rfl, rfl, by decide +kernel, rfl, by decide +kernel, by decide +kernel⟩
abbrev sTurnedOver : Stmt := topS 41
abbrev nTurnedOver : List Str := ["heap"]
theorem scTurnedOver : FnScope nTurnedOver ["heap"] (defScope sTurnedOver) := ⟨rfl, rfl, rfl, by decide +kernel, rfl, by decide +kernel, by decide +kernel⟩
abbrev sCommonOf : Stmt := topS 42
abbrev nCommonOf : List Str := ["one", "other", "low", "high"]
theorem scCommonOf : FnScope nCommonOf ["one", "other"] (defScope sCommonOf) := ⟨rfl, rfl, rfl, by decide +kernel, rfl, by decide +kernel, by decide +kernel⟩
abbrev sOpenColumns : Stmt := topS 43
abbrev nOpenColumns : List Str := ["heap", "columns", "column"]
theorem scOpenColumns : FnScope nOpenColumns ["heap"] (defScope sOpenColumns) := ⟨rfl, rfl, rfl, by decide +kernel, rfl, by decide +kernel, by decide +kernel⟩
abbrev sHeaped : Stmt := topS 44
abbrev nHeaped : List Str := ["heap", "columns", "heights", "column", "height"]
theorem scHeaped : FnScope nHeaped ["heap", "columns"] (defScope sHeaped) := ⟨rfl, rfl, rfl, by decide +kernel, rfl, by decide +kernel, by decide +kernel⟩
abbrev sGrownBy : Stmt := topS 45
abbrev nGrownBy : List Str := ["heap", "ring", "place", "columns", "column"]
theorem scGrownBy : FnScope nGrownBy ["heap", "ring", "place"] (defScope sGrownBy) := ⟨rfl, rfl, rfl, by decide +kernel, rfl, by decide +kernel, by decide +kernel⟩
abbrev sGrown : Stmt := topS 46
abbrev nGrown : List Str := ["heap", "ring", "place", "more"]
theorem scGrown : FnScope nGrown ["heap", "ring", "place"] (defScope sGrown) := ⟨rfl, rfl, rfl, by decide +kernel, rfl, by decide +kernel, by decide +kernel⟩
abbrev sHeapsOf : Stmt := topS 47
abbrev nHeapsOf : List Str := ["chain", "places", "heaps", "index", "ring"]
theorem scHeapsOf : FnScope nHeapsOf ["chain", "places"] (defScope sHeapsOf) := ⟨rfl, rfl, rfl, by decide +kernel, rfl, by decide +kernel, by decide +kernel⟩
abbrev sHeapOf : Stmt := topS 48
abbrev nHeapOf : List Str := ["chain", "places"]
theorem scHeapOf : FnScope nHeapOf ["chain", "places"] (defScope sHeapOf) := ⟨rfl, rfl, rfl, by decide +kernel, rfl, by decide +kernel, by decide +kernel⟩
abbrev sLDice : Stmt := topS 50
abbrev nLDice : List Str := ["_law_script", "_law_at", "_law_cell", "_law_great", "_law_left", "_law_mixed"]
theorem scLDice : FnScope nLDice ["_law_script", "_law_at"] (defScope sLDice) := ⟨rfl, rfl, rfl, by decide +kernel, rfl, by decide +kernel, by decide +kernel⟩
abbrev sLRoll : Stmt := topS 51
abbrev nLRoll : List Str := ["_law_dice_here", "_law_total", "_law_size", "_law_drawn", "_law_one", "_law_two"]
theorem scLRoll : FnScope nLRoll ["_law_dice_here", "_law_total"] (defScope sLRoll) := ⟨rfl, rfl, rfl, by decide +kernel, rfl, by decide +kernel, by decide +kernel⟩
abbrev sLOneOf : Stmt := topS 52
abbrev nLOneOf : List Str := ["_law_dice_here", "_law_items"]
theorem scLOneOf : FnScope nLOneOf ["_law_dice_here", "_law_items"] (defScope sLOneOf) := ⟨rfl, rfl, rfl, by decide +kernel, rfl, by decide +kernel, by decide +kernel⟩
abbrev sLCommon : Stmt := topS 53
abbrev nLCommon : List Str := ["_law_one", "_law_other"]
theorem scLCommon : FnScope nLCommon ["_law_one", "_law_other"] (defScope sLCommon) := ⟨rfl, rfl, rfl, by decide +kernel, rfl, by decide +kernel, by decide +kernel⟩
abbrev sLRing : Stmt := topS 54
abbrev nLRing : List Str := ["_law_dice_here", "_law_most", "_law_n"]
theorem scLRing : FnScope nLRing ["_law_dice_here", "_law_most"] (defScope sLRing) := ⟨rfl, rfl, rfl, by decide +kernel, rfl, by decide +kernel, by decide +kernel⟩
abbrev sLRingOf : Stmt := topS 55
abbrev nLRingOf : List Str := ["_law_dice_here", "_law_k", "_law_times", "_law_more", "_law_steps", "_law_one"]
theorem scLRingOf : FnScope nLRingOf ["_law_dice_here", "_law_k", "_law_times"] (defScope sLRingOf) := ⟨rfl, rfl, rfl, by decide +kernel, rfl, by decide +kernel, by decide +kernel⟩
abbrev sLChain : Stmt := topS 56
abbrev nLChain : List Str := ["_law_dice_here", "_law_rings", "_law_most", "_law_k", "_law_turn"]
theorem scLChain : FnScope nLChain ["_law_dice_here", "_law_rings", "_law_most"] (defScope sLChain) := ⟨rfl, rfl, rfl, by decide +kernel, rfl, by decide +kernel, by decide +kernel⟩
abbrev sLTuple : Stmt := topS 57
abbrev nLTuple : List Str := ["_law_dice_here", "_law_chain_here", "_law_found", "_law_n", "_law_s"]
theorem scLTuple : FnScope nLTuple ["_law_dice_here", "_law_chain_here"] (defScope sLTuple) := ⟨rfl, rfl, rfl, by decide +kernel, rfl, by decide +kernel, by decide +kernel⟩
abbrev sLGrown : Stmt := topS 58
abbrev nLGrown : List Str := ["_law_heap_here", "_law_ring_here", "_law_x", "_law_n", "_law_s", "_law_found", "_law_column", "_law_height", "_law_can_rise"]
theorem scLGrown : FnScope nLGrown ["_law_heap_here", "_law_ring_here", "_law_x"] (defScope sLGrown) := ⟨rfl, rfl, rfl, by decide +kernel, rfl, by decide +kernel, by decide +kernel⟩
abbrev sLHeap : Stmt := topS 59
abbrev nLHeap : List Str := ["_law_chain_here", "_law_x", "_law_heap_here", "_law_ring_here", "_law_place"]
theorem scLHeap : FnScope nLHeap ["_law_chain_here", "_law_x"] (defScope sLHeap) := ⟨rfl, rfl, rfl, by decide +kernel, rfl, by decide +kernel, by decide +kernel⟩
abbrev sLSomeAdded : Stmt := topS 60
abbrev nLSomeAdded : List Str := ["_law_dice_here", "_law_heap_here", "_law_ring_here", "_law_place", "_law_n", "_law_s", "_law_found", "_law_column", "_law_height", "_law_can_rise"]
theorem scLSomeAdded : FnScope nLSomeAdded ["_law_dice_here", "_law_heap_here", "_law_ring_here", "_law_place"] (defScope sLSomeAdded) := ⟨rfl, rfl, rfl, by decide +kernel, rfl, by decide +kernel, by decide +kernel⟩
abbrev sLHeld : Stmt := topS 61
abbrev nLHeld : List Str := ["_law_one", "_law_other", "_law_left", "_law_right"]
theorem scLHeld : FnScope nLHeld ["_law_one", "_law_other"] (defScope sLHeld) := ⟨rfl, rfl, rfl, by decide +kernel, rfl, by decide +kernel, by decide +kernel⟩
abbrev sLMeetOf : Stmt := topS 62
abbrev nLMeetOf : List Str := ["_law_one", "_law_other", "_law_left", "_law_right"]
theorem scLMeetOf : FnScope nLMeetOf ["_law_one", "_law_other"] (defScope sLMeetOf) := ⟨rfl, rfl, rfl, by decide +kernel, rfl, by decide +kernel, by decide +kernel⟩
abbrev sLGrowthRight : Stmt := topS 63
abbrev nLGrowthRight : List Str := ["_law_dice_here", "_law_chain_here", "_law_x", "_law_few", "_law_one", "_law_other", "_law_ring_here", "_law_place", "_law_two", "_law_both", "_law_heap_here"]
theorem scLGrowthRight : FnScope nLGrowthRight ["_law_dice_here", "_law_chain_here", "_law_x"] (defScope sLGrowthRight) := ⟨rfl, rfl, rfl, by decide +kernel, rfl, by decide +kernel, by decide +kernel⟩
abbrev sLMovedRight : Stmt := topS 64
abbrev nLMovedRight : List Str := ["_law_dice_here", "_law_chain_here", "_law_x", "_law_a", "_law_total", "_law_moved_tuple", "_law_n", "_law_s", "_law_place", "_law_later", "_law_let", "_law_heap_here", "_law_at", "_law_ring_here", "_law_idle", "_law_left", "_law_other", "_law_c"]
theorem scLMovedRight : FnScope nLMovedRight ["_law_dice_here", "_law_chain_here", "_law_x"] (defScope sLMovedRight) := ⟨rfl, rfl, rfl, by decide +kernel, rfl, by decide +kernel, by decide +kernel⟩
abbrev sLTurnedRight : Stmt := topS 65
abbrev nLTurnedRight : List Str := ["_law_chain_here", "_law_x", "_law_over", "_law_n", "_law_s", "_law_place"]
theorem scLTurnedRight : FnScope nLTurnedRight ["_law_chain_here", "_law_x"] (defScope sLTurnedRight) := ⟨rfl, rfl, rfl, by decide +kernel, rfl, by decide +kernel, by decide +kernel⟩
abbrev sLaw : Stmt := topS 66
abbrev nLaw : List Str := ["_law_script", "_law_at", "_law_dice_here", "_law_chain_here", "_law_x"]
theorem scLaw : FnScope nLaw ["_law_script"] (defScope sLaw) := ⟨rfl, rfl, rfl, by decide +kernel, rfl, by decide +kernel, by decide +kernel⟩
/-- a def of the text at its place, and how its arguments bind -/
structure DefAt (K : PySem.W.Frag) (mg : Str → Option Value) (x : Str) (st : Stmt) (ps : List Str) (f : Addr) (fd : FuncData) : Prop where
  F : Fun K x x st f fd
  g : mg x = some (.ref f)
  b : Binds K fd ps []
/-- what the top has written -/
structure Txt (K : PySem.W.Frag) (mg : Str → Option Value) : Prop where
  z_abs : mg "abs" = none
  z_all : mg "all" = none
  z_bool : mg "bool" = none
  z_enumerate : mg "enumerate" = none
  z_int : mg "int" = none
  z_isinstance : mg "isinstance" = none
  z_len : mg "len" = none
  z_list : mg "list" = none
  z_max : mg "max" = none
  z_min : mg "min" = none
  z_range : mg "range" = none
  z_tuple : mg "tuple" = none
  z_zip : mg "zip" = none
  v_BOUND : ∃ t, mg "BOUND" = some (.int (10 ^ 60) t)
  v_DIGITS : ∃ t, mg "DIGITS" = some (.int 60 t)
  v_RINGS : ∃ t, mg "MOST_RINGS" = some (.int 12 t)
  v_PLACES : ∃ t, mg "MOST_PLACES" = some (.int 60 t)
  v_SIDE : ∃ t, mg "MOST_SIDE" = some (.int 60 t)
  d_is_integer : ∃ f fd, DefAt K mg "is_integer" sIsInteger ["value"] f fd
  d_is_between : ∃ f fd, DefAt K mg "is_between" sIsBetween ["value", "low", "high"] f fd
  d_is_pair : ∃ f fd, DefAt K mg "is_pair" sIsPair ["value"] f fd
  d_check_integer : ∃ f fd, DefAt K mg "check_integer" sCheckInteger ["value"] f fd
  d_check_between : ∃ f fd, DefAt K mg "check_between" sCheckBetween ["value", "low", "high"] f fd
  d_check_digits : ∃ f fd, DefAt K mg "check_digits" sCheckDigits ["numbers"] f fd
  d_is_ring : ∃ f fd, DefAt K mg "is_ring" sIsRing ["value"] f fd
  d_is_chain : ∃ f fd, DefAt K mg "is_chain" sIsChain ["value"] f fd
  d_check_ring : ∃ f fd, DefAt K mg "check_ring" sCheckRing ["ring"] f fd
  d_check_chain : ∃ f fd, DefAt K mg "check_chain" sCheckChain ["chain"] f fd
  d_lets : ∃ f fd, DefAt K mg "lets" sLets ["ring", "place", "diagonal"] f fd
  d_lies_told : ∃ f fd, DefAt K mg "lies_told" sLiesTold ["chain", "value"] f fd
  d_check_places : ∃ f fd, DefAt K mg "check_places" sCheckPlaces ["chain", "places"] f fd
  d_is_class : ∃ f fd, DefAt K mg "is_class" sIsClass ["chain", "value"] f fd
  d_check_class : ∃ f fd, DefAt K mg "check_class" sCheckClass ["chain", "value"] f fd
  d_told_class : ∃ f fd, DefAt K mg "told_class" sToldClass ["chain", "degree", "rests"] f fd
  d_class_with_ends : ∃ f fd, DefAt K mg "class_with_ends" sClassWithEnds ["chain", "one", "a", "b"] f fd
  d_is_heap : ∃ f fd, DefAt K mg "is_heap" sIsHeap ["value"] f fd
  d_check_heap : ∃ f fd, DefAt K mg "check_heap" sCheckHeap ["heap"] f fd
  d_check_heaps : ∃ f fd, DefAt K mg "check_heaps" sCheckHeaps ["one", "other"] f fd
  d_check_side : ∃ f fd, DefAt K mg "check_side" sCheckSide ["heap"] f fd
  d_height_at : ∃ f fd, DefAt K mg "height_at" sHeightAt ["heap", "column"] f fd
  d_holds : ∃ f fd, DefAt K mg "holds" sHolds ["heap", "other"] f fd
  d_is_held : ∃ f fd, DefAt K mg "is_held" sIsHeld ["heap", "other"] f fd
  d_lengths_of : ∃ f fd, DefAt K mg "lengths_of" sLengthsOf ["heap"] f fd
  d_turned_over : ∃ f fd, DefAt K mg "turned_over" sTurnedOver ["heap"] f fd
  d_common_of : ∃ f fd, DefAt K mg "common_of" sCommonOf ["one", "other"] f fd
  d_open_columns : ∃ f fd, DefAt K mg "open_columns" sOpenColumns ["heap"] f fd
  d_heaped : ∃ f fd, DefAt K mg "heaped" sHeaped ["heap", "columns"] f fd
  d_grown_by : ∃ f fd, DefAt K mg "grown_by" sGrownBy ["heap", "ring", "place"] f fd
  d_grown : ∃ f fd, DefAt K mg "grown" sGrown ["heap", "ring", "place"] f fd
  d_heaps_of : ∃ f fd, DefAt K mg "heaps_of" sHeapsOf ["chain", "places"] f fd
  d_heap_of : ∃ f fd, DefAt K mg "heap_of" sHeapOf ["chain", "places"] f fd
  d_l_dice : ∃ f fd, DefAt K mg "_law_dice" sLDice ["_law_script", "_law_at"] f fd
  d_l_roll : ∃ f fd, DefAt K mg "_law_roll" sLRoll ["_law_dice_here", "_law_total"] f fd
  d_l_one_of : ∃ f fd, DefAt K mg "_law_one_of" sLOneOf ["_law_dice_here", "_law_items"] f fd
  d_l_common : ∃ f fd, DefAt K mg "_law_common" sLCommon ["_law_one", "_law_other"] f fd
  d_l_ring : ∃ f fd, DefAt K mg "_law_ring" sLRing ["_law_dice_here", "_law_most"] f fd
  d_l_ring_of : ∃ f fd, DefAt K mg "_law_ring_of" sLRingOf ["_law_dice_here", "_law_k", "_law_times"] f fd
  d_l_chain : ∃ f fd, DefAt K mg "_law_chain" sLChain ["_law_dice_here", "_law_rings", "_law_most"] f fd
  d_l_tuple : ∃ f fd, DefAt K mg "_law_tuple" sLTuple ["_law_dice_here", "_law_chain_here"] f fd
  d_l_grown : ∃ f fd, DefAt K mg "_law_grown" sLGrown ["_law_heap_here", "_law_ring_here", "_law_x"] f fd
  d_l_heap : ∃ f fd, DefAt K mg "_law_heap" sLHeap ["_law_chain_here", "_law_x"] f fd
  d_l_some_added : ∃ f fd, DefAt K mg "_law_some_added" sLSomeAdded ["_law_dice_here", "_law_heap_here", "_law_ring_here", "_law_place"] f fd
  d_l_held : ∃ f fd, DefAt K mg "_law_held" sLHeld ["_law_one", "_law_other"] f fd
  d_l_meet_of : ∃ f fd, DefAt K mg "_law_meet_of" sLMeetOf ["_law_one", "_law_other"] f fd
  d_l_growth_right : ∃ f fd, DefAt K mg "_law_growth_right" sLGrowthRight ["_law_dice_here", "_law_chain_here", "_law_x"] f fd
  d_l_moved_right : ∃ f fd, DefAt K mg "_law_moved_right" sLMovedRight ["_law_dice_here", "_law_chain_here", "_law_x"] f fd
  d_l_turned_right : ∃ f fd, DefAt K mg "_law_turned_right" sLTurnedRight ["_law_chain_here", "_law_x"] f fd
end K1

namespace K1
open PySem PySem.Spec PyProof.Rows L2 Evl
/-! ### great powers -/
def CPowW (i j : Int) : Prop := 0 ≤ j ∧ (Builtin.Int.intBits i : Int) * j ≤ 2 ^ 27
theorem op_powW {X : Cx} : OpR X (binaryOp .Pow) (rI CPowW fun i j => .int (i ^ j.toNat)) := opI fun _ _ _ _ _ _ _ hc q => pow_int hc.1 hc.2 q
/-! ### values that are looked at -/
/-- no int -/
inductive NotInt (K : PySem.W.Frag) (H : Hp) : V → Prop where
  | bl (b : Bool) : NotInt K H (.bl b)
  | non : NotInt K H .non
  | str (x : Str) : NotInt K H (.str x)
  | lst {a : Addr} {xs : List V} (e : H a = some (.lst xs)) : NotInt K H (.ref a)
  | tup {a : Addr} {xs : List V} (e : H a = some (.tup xs)) : NotInt K H (.ref a)
  | dK {a : Addr} {kvs : List (Key × V)} (e : H a = some (.dK kvs)) : NotInt K H (.ref a)
inductive IntB (K : PySem.W.Frag) (H : Hp) : V → Bool → Prop where
  | int (i : Int) : IntB K H (.int i) (decide (-(10 ^ 60) < i) && decide (i < 10 ^ 60))
  | no {x : V} (h : NotInt K H x) : IntB K H x false
/-- between two ints -/
inductive BtwB (K : PySem.W.Frag) (H : Hp) (lo hi : Int) : V → Bool → Prop where
  | int (i : Int) : BtwB K H lo hi (.int i) ((decide (-(10 ^ 60) < i) && decide (i < 10 ^ 60)) && (decide (lo ≤ i) && decide (i ≤ hi)))
  | no {x : V} (h : NotInt K H x) : BtwB K H lo hi x false
theorem NotInt.ty {K : PySem.W.Frag} {H : Hp} {x : V} (h : NotInt K H x) : ∃ t : Value, TyX K H x t ∧ ((PySem.W.kitOne K t (.type "int") = some false) ∨ (t = .type "bool")) := by
  cases h with
  | bl b => exact ⟨_, .base (.bl b), .inr rfl⟩
  | non => exact ⟨_, .base .non, .inl (kit_ty (by decide +kernel))⟩
  | str x => exact ⟨_, .base (.str x), .inl (kit_ty (by decide +kernel))⟩
  | lst e => exact ⟨_, .base (.lst e), .inl (kit_ty (by decide +kernel))⟩
  | tup e => exact ⟨_, .base (.tup e), .inl (kit_ty (by decide +kernel))⟩
  | dK e => exact ⟨_, .base (.dK e), .inl (kit_ty (by decide +kernel))⟩
theorem NotInt.mono {K : PySem.W.Frag} {H H' : Hp} {x : V} (e : Ex H H') (h : NotInt K H x) : NotInt K H' x := by
  cases h with
  | bl b => exact .bl b
  | non => exact .non
  | str x => exact .str x
  | lst q => exact .lst (e _ _ q)
  | tup q => exact .tup (e _ _ q)
  | dK q => exact .dK (e _ _ q)
section
variable {P : Program} {w : World} {K : PySem.W.Frag} {mg : Str → Option Value} {base : Heap}
def spIsInteger (K : PySem.W.Frag) : Sp := fun vs H Q _ => ∃ x b, vs = [x] ∧ IntB K H x b ∧ ∀ H', Ex H H' → Q (.bl b) H'
theorem ok_is_integer (T : Txt K mg) {f : Addr} {fd : FuncData} (D : DefAt K mg "is_integer" sIsInteger ["value"] f fd) : FnOk P w K mg base CX0 1 f fd ["value"] (spIsInteger K) := by
  refine D.F.ok scIsInteger (fun vs H Q E h => ?_) (fun cdv A outer s H vs Q E hr h => ?_)
  · obtain ⟨x, b, rfl, _⟩ := h
    rfl
  · obtain ⟨x, b, rfl, hb, q⟩ := h
    obtain ⟨tB, vB⟩ := T.v_BOUND
    refine ⟨_, pss_one (ps_ret (pe_and (pe_callB call_isi (by rfl) T.z_isinstance (by decide +kernel) (pa_cons (pv 0) (pa_cons (pe_bltn (v := .ty "int") (by rfl) T.z_int (by decide +kernel) rfl) pa_nil)))
      (pe_and (pe_not (pe_callB call_isi (by rfl) T.z_isinstance (by decide +kernel) (pa_cons (pv 0) (pa_cons (pe_bltn (v := .ty "bool") (by rfl) T.z_bool (by decide +kernel) rfl) pa_nil))))
      (pe_one (pe_chain op_lt op_lt (pe_un un_neg (pe_glob (v := .int (10 ^ 60)) rfl vB ⟨_, rfl⟩)) (pv 0) (pe_glob (v := .int (10 ^ 60)) rfl vB ⟨_, rfl⟩)))))), ?_⟩
    cases hb with
    | int i =>
      refine ⟨.int i, rfl, .int i, .ty "int", .type "int", .type "int", true, rfl, .ty _, .base (.int i), kit_ty (by decide +kernel), true, rfl, iteT ?_⟩
      refine ⟨.int i, rfl, .int i, .ty "bool", .type "int", .type "bool", false, rfl, .ty _, .base (.int i), kit_ty (by decide +kernel), false, rfl, true, rfl, iteT ?_⟩
      refine ⟨_, rfl, .int i, rfl, _, _, rfl, rfl, _, rfl, ite2 (fun c => ?_) (fun c => ?_)⟩
      · refine ⟨_, _, rfl, rfl, ?_⟩
        have e : decide (-(10 ^ 60) < i) = true := c
        rw [e, Bool.true_and] at q
        exact q _ (Ex.refl _)
      · have e : decide (-(10 ^ 60) < i) = false := Bool.eq_false_iff.mpr c
        rw [e, Bool.false_and] at q
        exact q _ (Ex.refl _)
    | no hn =>
      obtain ⟨t, ty, h | rfl⟩ := hn.ty
      · exact ⟨x, rfl, x, .ty "int", t, .type "int", false, rfl, .ty _, ty, h, false, rfl, iteF (q _ (Ex.refl _))⟩
      · refine ⟨x, rfl, x, .ty "int", .type "bool", .type "int", true, rfl, .ty _, ty, kit_ty (by decide +kernel), true, rfl, iteT ?_⟩
        exact ⟨x, rfl, x, .ty "bool", .type "bool", .type "bool", true, rfl, .ty _, ty, kit_ty (by decide +kernel), true, rfl, false, rfl, iteF (q _ (Ex.refl _))⟩
def spIsBetween (K : PySem.W.Frag) : Sp := fun vs H Q _ => ∃ x lo hi b, vs = [x, .int lo, .int hi] ∧ BtwB K H lo hi x b ∧ ∀ H', Ex H H' → Q (.bl b) H'
theorem ok_is_between (T : Txt K mg) {f : Addr} {fd : FuncData} (D : DefAt K mg "is_between" sIsBetween ["value", "low", "high"] f fd) : FnOk P w K mg base CX0 2 f fd ["value", "low", "high"] (spIsBetween K) := by
  refine D.F.ok scIsBetween (fun vs H Q E h => ?_) (fun cdv A outer s H vs Q E hr h => ?_)
  · obtain ⟨x, lo, hi, b, rfl, _⟩ := h
    rfl
  · obtain ⟨x, lo, hi, b, rfl, hb, q⟩ := h
    obtain ⟨f1, fd1, D1⟩ := T.d_is_integer
    refine ⟨_, pss_one (ps_ret (pe_and (pe_call (ok_is_integer T D1) hr (by rfl) D1.g D1.F.kp D1.b .nil pass0 (pa_cons (pv 0) pa_nil)) (pe_one (pe_chain op_le op_le (pv 1) (pv 0) (pv 2))))), ?_⟩
    cases hb with
    | int i =>
      refine ⟨.int i, rfl, .int i, _, rfl, .int i, fun H1 e1 => ⟨_, rfl, ite2 (fun c => ?_) (fun c => ?_)⟩⟩
      · refine ⟨.int lo, rfl, .int i, rfl, _, _, rfl, rfl, _, rfl, ?_⟩
        rw [c, Bool.true_and] at q
        refine ite2 (fun c2 => ⟨.int hi, rfl, _, _, rfl, rfl, ?_⟩) (fun c2 => ?_)
        · have e : decide (lo ≤ i) = true := c2
          rw [e, Bool.true_and] at q
          exact q _ e1
        · have e : decide (lo ≤ i) = false := Bool.eq_false_iff.mpr c2
          rw [e, Bool.false_and] at q
          exact q _ e1
      · rw [Bool.eq_false_iff.mpr c, Bool.false_and] at q
        exact q _ e1
    | no hn => exact ⟨x, rfl, x, false, rfl, .no hn, fun H1 e1 => ⟨false, rfl, iteF (q _ e1)⟩⟩
end
end K1

namespace K1
open PySem PySem.Spec PyProof.Rows L2 Evl
/-! ### the dice -/
def Dice (H : Hp) (d : Addr) : Prop := ∃ l m c : Int, H d = some (.lst [.int l, .int m, .int c])
/-- all but the dice is as it was -/
def Keep (d : Addr) (H H' : Hp) : Prop := ∀ b o, b ≠ d → H b = some o → H' b = some o
theorem Keep.refl (d : Addr) (H : Hp) : Keep d H H := fun _ _ _ h => h
theorem Keep.trans {d : Addr} {H H1 H2 : Hp} (a : Keep d H H1) (b : Keep d H1 H2) : Keep d H H2 := fun x o n h => b x o n (a x o n h)
theorem Keep.ex {d : Addr} {H H' : Hp} (e : Ex H H') : Keep d H H' := fun b o _ h => e b o h
theorem Keep.dice {d : Addr} {H : Hp} {o : HO} : Keep d H (upd H d o) := fun b u n h => by
  rw [upd_ne n]
  exact h
theorem Keep.new {d p : Addr} {H : Hp} {o : HO} (h : H p = none) : Keep d H (upd H p o) := .ex (.new h)
/-- a thing that H did not know may change -/
theorem Keep.mut {d p : Addr} {H H' : Hp} {o : HO} (e : Keep d H H') (h : H p = none) : Keep d H (upd H' p o) := fun b u n q => by
  rw [upd_ne (ne_of_none q h)]
  exact e b u n q
theorem Keep.free {d p : Addr} {H H' : Hp} (e : Keep d H H') (n : p ≠ d) (h : H' p = none) : H p = none := by
  cases q : H p with
  | none => rfl
  | some o =>
    rw [e p o n q] at h
    cases h
theorem Dice.ex {d : Addr} {H H' : Hp} (e : Ex H H') (h : Dice H d) : Dice H' d := by
  obtain ⟨l, m, c, q⟩ := h
  exact ⟨l, m, c, e _ _ q⟩
theorem Dice.upd {d p : Addr} {H : Hp} {o : HO} (n : d ≠ p) (h : Dice H d) : Dice (L2.upd H p o) d := by
  obtain ⟨l, m, c, q⟩ := h
  exact ⟨l, m, c, by rw [upd_ne n]; exact q⟩
theorem Dice.ne_new {d p : Addr} {H : Hp} (h : Dice H d) (n : H p = none) : d ≠ p := by
  obtain ⟨l, m, c, q⟩ := h
  exact ne_of_none q n
theorem Dice.ne_tup {d p : Addr} {H : Hp} {xs : List V} (h : Dice H d) (n : H p = some (.tup xs)) : p ≠ d := by
  obtain ⟨l, m, c, q⟩ := h
  exact ne_of n q (by intro z; cases z)
theorem Keep.tup {d p : Addr} {H H' : Hp} {xs : List V} (e : Keep d H H') (h : Dice H d) (n : H p = some (.tup xs)) : H' p = some (.tup xs) := e _ _ (h.ne_tup n) n
theorem wide_n {n : Int} (h : 1 ≤ n) (h2 : n ≤ 10 ^ 50) {i : Int} : CDivW i n := wide_div (b := 200) (by omega) (by omega) (by decide) (by decide)
section
variable {P : Program} {w : World} {K : PySem.W.Frag} {mg : Str → Option Value} {base : Heap}
def spRoll : Sp := fun vs H Q _ => ∃ (d : Addr) (n : Int), vs = [.ref d, .int n] ∧ Dice H d ∧ 1 ≤ n ∧ n ≤ 10 ^ 50 ∧ ∀ (r : Int) H', 0 ≤ r → r < n → Dice H' d → Keep d H H' → Q (.int r) H'
theorem ok_roll (T : Txt K mg) {f : Addr} {fd : FuncData} (D : DefAt K mg "_law_roll" sLRoll ["_law_dice_here", "_law_total"] f fd) : FnOk P w K mg base CX0 1 f fd ["_law_dice_here", "_law_total"] spRoll := by
  refine D.F.ok scLRoll (fun vs H Q E h => ?_) (fun cdv A outer s H vs Q E hr h => ?_)
  · obtain ⟨d, n, rfl, _⟩ := h
    rfl
  · obtain ⟨d, n, rfl, ⟨l, m, c, hd⟩, h1, h2, q⟩ := h
    refine ⟨_, pss_cons (ps_set (i := 2) scLRoll.nd rfl (.inl rfl) (pe_callTy call_int1 (by rfl) T.z_int (by decide +kernel) (pa_cons (pv 1) pa_nil)))
      (pss_cons (ps_if (pt_cmpR op_gt (pe_ix ix_list (pv 0) pe_int (fun _ _ => rfl)) pe_int (nomark _))
        (pss_cons (ps_set (i := 3) scLRoll.nd rfl (.inl rfl) (pe_op op_mod (pe_ix ix_list (pv 0) pe_int (fun _ _ => rfl)) (pv 2)))
        (pss_cons (ps_asg (pe_op op_fdivW (pe_ix ix_list (pv 0) pe_int (fun _ _ => rfl)) (pv 2)) (pg_sub (pv 0) pe_int set_list))
        (pss_one (ps_ret (pe_callTy call_int1 (by rfl) T.z_int (by decide +kernel) (pa_cons (pv 3) pa_nil)))))) pss_nil)
      (pss_cons (ps_asg (pe_op op_add (pe_ix ix_list (pv 0) pe_int (fun _ _ => rfl)) pe_int) (pg_sub (pv 0) pe_int set_list))
      (pss_cons (ps_set (i := 4) scLRoll.nd rfl (.inl rfl) (pe_op op_mod (pe_op op_add (pe_ix ix_list (pv 0) pe_int (fun _ _ => rfl)) (pe_op op_mul pe_int (pe_ix ix_list (pv 0) pe_int (fun _ _ => rfl)))) pe_int))
      (pss_cons (ps_set (i := 5) scLRoll.nd rfl (.inl rfl) (pe_op op_add (pe_op op_mul (pe_op op_mod (pe_op op_mul (pv 4) (pv 4)) pe_int) (pv 4)) (pe_op op_mul pe_int (pe_ix ix_list (pv 0) pe_int (fun _ _ => rfl)))))
      (pss_cons (ps_set (i := 5) scLRoll.nd rfl (.inl rfl) (pe_op op_mod (pv 5) pe_int))
      (pss_one (ps_ret (pe_callTy call_int1 (by rfl) T.z_int (by decide +kernel) (pa_cons (pe_op op_mod (pe_op op_fdiv (pv 5) pe_int) (pv 2)) pa_nil))))))))), ?_⟩
    refine ⟨.int n, rfl, .inl ⟨n, rfl, ?_⟩⟩
    have S0 : SqL K H d [.int l, .int m, .int c] := SqL.of hd
    refine ⟨.ref d, rfl, d, _, 0, .int l, rfl, rfl, S0, rfl, l, 0, rfl, rfl, _, rfl, ite2 (fun cc => ?_) (fun cc => ?_)⟩
    · refine ⟨.ref d, rfl, d, _, 0, .int l, rfl, rfl, S0, rfl, .int n, rfl, l, n, rfl, rfl, by omega, ?_⟩
      refine ⟨.ref d, rfl, d, _, 0, .int l, rfl, rfl, S0, rfl, .int n, rfl, l, n, rfl, rfl, wide_n h1 h2, .ref d, rfl, d, _, 0, 0, rfl, rfl, hd, rfl, ?_⟩
      refine ⟨_, rfl, .inl ⟨l % n, rfl, ?_⟩⟩
      exact q _ _ (Int.emod_nonneg _ (by omega)) (Int.emod_lt_of_pos _ (by omega)) ⟨_, _, _, upd_same⟩ Keep.dice
    · refine ⟨.ref d, rfl, d, _, 2, .int c, rfl, rfl, S0, rfl, c, 1, rfl, rfl, .ref d, rfl, d, _, 2, 2, rfl, rfl, hd, rfl, ?_⟩
      generalize hH1 : upd H d _ = H1
      have hd1 : H1 d = some (.lst [.int l, .int m, .int (c + 1)]) := by
        rw [← hH1]
        exact upd_same
      have k1 : Keep d H H1 := by
        rw [← hH1]
        exact Keep.dice
      have S1 : SqL K H1 d [.int l, .int m, .int (c + 1)] := SqL.of hd1
      refine ⟨.ref d, rfl, d, _, 1, .int m, rfl, rfl, S1, rfl, .ref d, rfl, d, _, 2, .int (c + 1), rfl, rfl, S1, rfl, _, _, rfl, rfl, .inl (by decide), _, _, rfl, rfl, _, _, rfl, rfl, by show (0 : Int) < _; decide, ?_⟩
      refine ⟨_, rfl, _, rfl, (m + 1000409 * (c + 1)) % 2305843009213693951, (m + 1000409 * (c + 1)) % 2305843009213693951, rfl, rfl, .inl (by constructor <;> omega), _, _, rfl, rfl, by show (0 : Int) < _; decide, _, rfl, _, (m + 1000409 * (c + 1)) % 2305843009213693951, rfl, rfl, .inr (by constructor <;> omega), ?_⟩
      refine ⟨.ref d, rfl, d, _, 2, .int (c + 1), rfl, rfl, S1, rfl, _, _, rfl, rfl, .inl (by decide), _, _, rfl, rfl, ?_⟩
      refine ⟨_, rfl, _, _, rfl, rfl, by show (0 : Int) < _; decide, ?_⟩
      refine ⟨_, rfl, _, _, rfl, rfl, ⟨by decide, by decide⟩, .int n, rfl, _, n, rfl, rfl, by omega, .inl ⟨_, rfl, ?_⟩⟩
      exact q _ _ (Int.emod_nonneg _ (by omega)) (Int.emod_lt_of_pos _ (by omega)) ⟨_, _, _, hd1⟩ k1
def spOneOf (K : PySem.W.Frag) : Sp := fun vs H Q _ => ∃ (d a : Addr) (xs : List V), vs = [.ref d, .ref a] ∧ Dice H d ∧ H a = some (.lst xs) ∧ a ≠ d ∧ 1 ≤ xs.length ∧ xs.length ≤ 1000 ∧ ∀ x H', x ∈ xs → Dice H' d → Keep d H H' → Q x H'
theorem ok_one_of (T : Txt K mg) {f : Addr} {fd : FuncData} (D : DefAt K mg "_law_one_of" sLOneOf ["_law_dice_here", "_law_items"] f fd) : FnOk P w K mg base CX0 2 f fd ["_law_dice_here", "_law_items"] (spOneOf K) := by
  refine D.F.ok scLOneOf (fun vs H Q E h => ?_) (fun cdv A outer s H vs Q E hr h => ?_)
  · obtain ⟨d, a, xs, rfl, _⟩ := h
    rfl
  · obtain ⟨d, a, xs, rfl, hd, ha, nad, h1, h2, q⟩ := h
    obtain ⟨f1, fd1, D1⟩ := T.d_l_roll
    refine ⟨_, pss_one (ps_ret (pe_ix ix_list (pv 1) (pe_call (ok_roll T D1) hr (by rfl) D1.g D1.F.kp D1.b .nil pass0 (pa_cons (pv 0) (pa_cons (pe_callB call_len_seq (by rfl) T.z_len PySem.boot_len (pa_cons (pv 1) pa_nil)) pa_nil))) (fun _ _ => rfl))), ?_⟩
    refine ⟨.ref a, rfl, .ref d, rfl, .ref a, rfl, a, xs, rfl, .inl (SqL.of ha), d, _, rfl, hd, by omega, by omega, fun r H1 r0 r1 hd1 k1 => ?_⟩
    have hx : xs[r.toNat]? = some (xs[r.toNat]'(by omega)) := List.getElem?_eq_getElem _
    refine ⟨a, xs, r, _, rfl, rfl, SqL.of (k1 _ _ nad ha), ?_, q (xs[r.toNat]'(by omega)) H1 (List.getElem_mem _) hd1 k1⟩
    exact at_of (show r = ((r.toNat : Nat) : Int) by omega) hx
/-- a drawn ring -/
def RingAt (H : Hp) (most : Int) (x : V) (n s : Int) : Prop := ∃ t, x = .ref t ∧ H t = some (.tup [.int n, .int s]) ∧ 2 ≤ n ∧ n ≤ most ∧ 1 ≤ s ∧ s < n
def spRing : Sp := fun vs H Q _ => ∃ (d : Addr) (most : Int), vs = [.ref d, .int most] ∧ Dice H d ∧ 2 ≤ most ∧ most ≤ 1000 ∧ ∀ x n s H', RingAt H' most x n s → Dice H' d → Keep d H H' → Q x H'
theorem ok_ring (T : Txt K mg) {f : Addr} {fd : FuncData} (D : DefAt K mg "_law_ring" sLRing ["_law_dice_here", "_law_most"] f fd) : FnOk P w K mg base CX0 2 f fd ["_law_dice_here", "_law_most"] spRing := by
  refine D.F.ok scLRing (fun vs H Q E h => ?_) (fun cdv A outer s H vs Q E hr h => ?_)
  · obtain ⟨d, a, rfl, _⟩ := h
    rfl
  · obtain ⟨d, most, rfl, hd, h1, h2, q⟩ := h
    obtain ⟨f1, fd1, D1⟩ := T.d_l_roll
    refine ⟨_, pss_cons (ps_set (i := 2) scLRing.nd rfl (.inl rfl) (pe_op op_add pe_int (pe_call (ok_roll T D1) hr (by rfl) D1.g D1.F.kp D1.b .nil pass0 (pa_cons (pv 0) (pa_cons (pe_op op_sub (pv 1) pe_int) pa_nil)))))
      (pss_one (ps_ret (pe_tup (pa_cons (pv 2) (pa_cons (pe_op op_add pe_int (pe_call (ok_roll T D1) hr (by rfl) D1.g D1.F.kp D1.b .nil pass0 (pa_cons (pv 0) (pa_cons (pe_op op_sub (pv 2) pe_int) pa_nil)))) pa_nil))))), ?_⟩
    refine ⟨.ref d, rfl, .int most, rfl, _, _, rfl, rfl, d, _, rfl, hd, by omega, by omega, fun r H1 r0 r1 hd1 k1 => ?_⟩
    refine ⟨2, r, rfl, rfl, _, rfl, .ref d, rfl, .int (2 + r), rfl, _, _, rfl, rfl, d, _, rfl, hd1, by omega, by omega, fun r' H2 r0' r1' hd2 k2 => ?_⟩
    refine ⟨1, r', rfl, rfl, by show 2 ≤ sizeLine; decide, fun t ht => ?_⟩
    exact q _ (2 + r) (1 + r') _ ⟨t, rfl, upd_same, by omega, by omega, by omega, by omega⟩ (hd2.upd (hd2.ne_new ht)) ((k1.trans k2).trans (Keep.new ht))
end
end K1

namespace K1
open PySem PySem.Spec PyProof.Rows L2 Evl
section
variable {P : Program} {w : World} {K : PySem.W.Frag} {mg : Str → Option Value} {base : Heap}
def spDice (K : PySem.W.Frag) : Sp := fun vs H Q _ => ∃ (a : Addr) (ns : List Int) (i : Nat), vs = [.ref a, .int i] ∧ SqL K H a (ns.map V.int) ∧ ∀ p H', H p = none → Ex H H' → Dice H' p → Q (.ref p) H'
theorem ok_dice (T : Txt K mg) {f : Addr} {fd : FuncData} (D : DefAt K mg "_law_dice" sLDice ["_law_script", "_law_at"] f fd) : FnOk P w K mg base CX0 1 f fd ["_law_script", "_law_at"] (spDice K) := by
  refine D.F.ok scLDice (fun vs H Q E h => ?_) (fun cdv A outer s H vs Q E hr h => ?_)
  · obtain ⟨d, n, i, rfl, _⟩ := h
    rfl
  · obtain ⟨a, ns, i, rfl, hS, q⟩ := h
    refine ⟨_, pss_cons (ps_set (i := 2) scLDice.nd rfl (.inl rfl) (pe_op op_add (pe_op op_mul pe_int (pv 1)) pe_int))
      (pss_cut (ps_if (pt_cmpR op_lt (pv 1) (pe_callB call_len_seq (by rfl) T.z_len PySem.boot_len (pa_cons (pv 0) pa_nil)) (nomark _))
        (pss_one (ps_set (i := 2) scLDice.nd rfl (.inl rfl) (pe_ix ix_list (pv 0) (pv 1) (fun _ _ => rfl)))) pss_nil)
      (pss_cons (ps_set (i := 3) scLDice.nd rfl (.inl rfl) (pe_op op_mod (pe_callTy call_int1 (by rfl) T.z_int (by decide +kernel) (pa_cons (pe_callB call_abs (by rfl) T.z_abs (by decide +kernel) (pa_cons (pv 2) pa_nil)) pa_nil)) (pe_op op_powW (pe_op op_pow pe_int pe_int) pe_int)))
      (pss_cons (ps_set (i := 4) scLDice.nd rfl (.inl rfl) (pe_op op_fdivW (pv 3) (pe_op op_pow pe_int pe_int)))
      (pss_cons (ps_set (i := 5) scLDice.nd rfl (.inl rfl) (pe_op op_add (pe_op op_add (pe_op op_add (pe_op op_mul (pe_op op_mod (pv 3) pe_int) pe_int) (pe_op op_mul pe_int (pv 1))) (pe_op op_mul pe_int (pe_callTy call_int1 (by rfl) T.z_int (by decide +kernel) (pa_cons (pe_cmpR op_lt (pv 2) pe_int (nomark _)) pa_nil)))) pe_int))
      (pss_one (ps_ret (pe_lst (pa_cons (pv 4) (pa_cons (pe_op op_mod (pv 5) pe_int) (pa_cons pe_int pa_nil))))))))) ), ?_⟩
    refine ⟨_, rfl, _, _, rfl, rfl, .inl (by decide), _, _, rfl, rfl, ?_⟩
    refine ⟨fun σ' H' => ∃ cell : Int, σ' = [some (.ref a), some (.int i), some (.int cell), none, none, none] ∧ H' = H, ?_, ?_⟩
    · refine ⟨_, rfl, .ref a, rfl, a, _, rfl, .inl hS, _, _, rfl, rfl, _, rfl, ite2 (fun c => ?_) (fun c => ⟨_, rfl, rfl⟩)⟩
      have c' : (i : Int) < ((ns.map V.int).length : Int) := of_decide_eq_true c
      rw [List.length_map] at c'
      have hx : (ns.map V.int)[i]? = some (.int (ns[i]'(by omega))) := by
        rw [List.getElem?_map, List.getElem?_eq_getElem (by omega)]
        rfl
      exact ⟨.ref a, rfl, _, rfl, a, _, _, _, rfl, rfl, hS, atI_nat hx, _, rfl, rfl⟩
    · rintro σ' H' ⟨cell, rfl, rfl⟩
      refine ⟨_, rfl, _, rfl, .inl ⟨_, rfl, _, _, rfl, rfl, ⟨by decide, by decide, by decide⟩, _, _, rfl, rfl, ⟨by decide, by decide +kernel⟩, _, _, rfl, rfl, by show (0 : Int) < (10 ^ Int.toNat 60) ^ Int.toNat 10; decide +kernel, ?_⟩⟩
      refine ⟨_, rfl, _, _, rfl, rfl, ⟨by decide, by decide, by decide⟩, _, _, rfl, rfl, wide_div (b := 60) (by decide +kernel) (by decide +kernel) (by decide) (by decide), ?_⟩
      refine ⟨_, rfl, _, _, rfl, rfl, by show (0 : Int) < _; decide, _, _, rfl, rfl, .inr (by decide), _, rfl, _, _, rfl, rfl, .inl (by decide), _, _, rfl, rfl, _, rfl, _, _, rfl, rfl, .inr ⟨_, rfl, _, _, rfl, rfl, .inl (by decide), _, _, rfl, rfl, _, _, rfl, rfl, ?_⟩⟩
      refine ⟨_, rfl, _, rfl, _, _, rfl, rfl, by show (0 : Int) < _; decide, by show 3 ≤ sizeLine; decide, fun p hp => ?_⟩
      exact q p _ hp (Ex.new hp) ⟨_, _, _, upd_same⟩
/-- the greatest common divisor -/
def spCommon : Sp := fun vs H Q _ => ∃ (a b : Nat), vs = [.int a, .int b] ∧ ∀ H', Ex H H' → Q (.int (Nat.gcd a b : Nat)) H'
theorem ok_common (T : Txt K mg) {f : Addr} {fd : FuncData} (D : DefAt K mg "_law_common" sLCommon ["_law_one", "_law_other"] f fd) : FnOk P w K mg base CX0 1 f fd ["_law_one", "_law_other"] spCommon := by
  refine D.F.ok scLCommon (fun vs H Q E h => ?_) (fun cdv A outer s H vs Q E hr h => ?_)
  · obtain ⟨d, n, rfl, _⟩ := h
    rfl
  · obtain ⟨a, b, rfl, q⟩ := h
    refine ⟨_, pss_cons (ps_while PassesOwn.never (pt_cmpR op_ne (pv 1) pe_int (nomark _))
        (pss_one (ps_par (i := 0) (j := 1) (by rfl) scLCommon.nd rfl rfl (by decide) rfl rfl (pa_cons (pv 1) (pa_cons (pe_op op_mod (pv 0) (pv 1)) pa_nil)) (by rfl))))
      (pss_one (ps_ret (pv 0))), ?_⟩
    refine q_while (fun m σ' H' => ∃ x y : Nat, σ' = [some (.int x), some (.int y)] ∧ m = y ∧ Nat.gcd x y = Nat.gcd a b ∧ Ex H H') b ⟨a, b, rfl, rfl, rfl, Ex.refl _⟩ (fun m σ' H' hW => ?_)
    obtain ⟨x, y, rfl, rfl, hg, e1⟩ := hW
    refine ⟨_, et_test (ev_op (ev_var (v := .int (m : Int)) rfl) ev_c (rv_ne rfl)), fun hb H1 e2 => ?_, fun hb H1 e2 => ?_⟩
    · have hy : m ≠ 0 := fun z => by
        subst z
        exact absurd hb (by decide)
      have hm : (x : Int) % (m : Int) = ((x % m : Nat) : Int) := by simp
      refine ⟨fun σ2 H2 => σ2 = [some (.int m), some (.int ((x % m : Nat) : Int))] ∧ H2 = H1, fun σ2 H2 hN => ?_, ?_⟩
      · obtain ⟨rfl, rfl⟩ := hN
        refine ⟨x % m, Nat.mod_lt _ (by omega), m, x % m, rfl, rfl, ?_, e1.trans e2⟩
        rw [← hg, Nat.gcd_comm m (x % m), ← Nat.gcd_rec, Nat.gcd_comm]
      · refine ⟨_, rfl, _, rfl, _, rfl, (x : Int), (m : Int), rfl, rfl, by omega, _, _, rfl, ?_⟩
        refine ⟨?_, rfl⟩
        show [some (V.int (m : Int)), some (V.int ((x : Int) % (m : Int)))] = _
        rw [hm]
    · have hy : m = 0 := by
        by_cases z : m = 0
        · exact z
        · exfalso
          have : (!decide (V.int (m : Int) = V.int 0)) = true := by
            rw [decide_eq_false (fun q => z (by have := V.int.inj q; omega))]
            rfl
          rw [this] at hb
          cases hb
      subst hy
      refine ⟨_, rfl, ?_⟩
      rw [Nat.gcd_zero_right] at hg
      rw [hg]
      exact q _ (e1.trans e2)
/-- a drawn ring of one order -/
def spRingOf : Sp := fun vs H Q _ => ∃ (d : Addr) (k t : Int), vs = [.ref d, .int k, .int t] ∧ Dice H d ∧ 2 ≤ k ∧ k ≤ 100 ∧ 1 ≤ t ∧ t ≤ 1000 ∧ ∀ x n s H', RingAt H' (k * t) x n s → Dice H' d → Keep d H H' → Q x H'
theorem ok_ring_of (T : Txt K mg) {f : Addr} {fd : FuncData} (D : DefAt K mg "_law_ring_of" sLRingOf ["_law_dice_here", "_law_k", "_law_times"] f fd) : FnOk P w K mg base CX0 3 f fd ["_law_dice_here", "_law_k", "_law_times"] spRingOf := by
  refine D.F.ok scLRingOf (fun vs H Q E h => ?_) (fun cdv A outer s H vs Q E hr h => ?_)
  · obtain ⟨d, n, t, rfl, _⟩ := h
    rfl
  · obtain ⟨d, k, t, rfl, hd, h1, h2, h3, h4, q⟩ := h
    obtain ⟨f1, fd1, D1⟩ := T.d_l_roll
    obtain ⟨f2, fd2, D2⟩ := T.d_l_common
    obtain ⟨f3, fd3, D3⟩ := T.d_l_one_of
    have hr1 : Room 1 _ := hr.mono (by decide)
    refine ⟨_, pss_cons (ps_set (i := 3) scLRingOf.nd rfl (.inl rfl) (pe_op op_add pe_int (pe_call (ok_roll T D1) hr1 (by rfl) D1.g D1.F.kp D1.b .nil pass0 (pa_cons (pv 0) (pa_cons (pv 2) pa_nil)))))
      (pss_cons (ps_setLc (i := 4) (own := [("_law_one", 5)]) (g := gName 5) (by rfl) scLRingOf.nd rfl rfl (sw_true rfl rfl rfl (by decide +kernel)) (pi_range2 (by rfl) T.z_range (pa_cons pe_int (pa_cons (pv 1) pa_nil)))
        (blkOk_by (N := nLRingOf) (sc := defScope sLRingOf) (by decide +kernel)) (fun _ _ _ _ _ => pg_name (i := 5) scLRingOf.nd rfl (Or.inl rfl))
        (fun _ _ _ _ _ => pts_one (pt_cmpR op_eq (pe_call (ok_common T D2) hr1 (by rfl) D2.g D2.F.kp D2.b .nil pass0 (pa_cons (pv 1) (pa_cons (pv 5) pa_nil))) pe_int (nomark _))) (fun _ _ _ _ _ => pv 5))
      (pss_one (ps_ret (pe_tup (pa_cons (pe_op op_mul (pv 1) (pv 3)) (pa_cons (pe_op op_mul (pv 3) (pe_call (ok_one_of T D3) hr (by rfl) D3.g D3.F.kp D3.b .nil pass0 (pa_cons (pv 0) (pa_cons (pv 4) pa_nil)))) pa_nil)))))), ?_⟩
    refine ⟨.ref d, rfl, .int t, rfl, d, _, rfl, hd, by omega, by omega, fun r H1 r0 r1 hd1 k1 => ?_⟩
    refine ⟨1, r, rfl, rfl, .int k, rfl, 1, k, rfl, by omega, fun Dl hD => ?_⟩
    have ndl : d ≠ Dl := hd1.ne_new hD
    have hD0 : H Dl = none := k1.free ndl.symm hD
    refine lc_range (lo := 1) (n := (k - 1).toNat) (fun i H' => ∃ js : List Int, H' Dl = some (.lst (js.map V.int)) ∧ js.length ≤ i ∧ (∀ j ∈ js, 1 ≤ j ∧ j < k) ∧ (1 ≤ i → 1 ≤ js.length) ∧ Keep d H H' ∧ Dice H' d)
      ⟨[], upd_same, Nat.le_refl _, by simp, by omega, k1.trans (Keep.new hD), hd1.upd (hd1.ne_new hD)⟩ (fun i H' hi hp => ?_) (fun H' hp => ?_)
    · obtain ⟨js, a1, a2, a3, a4, a5, a6⟩ := hp
      refine ⟨rfl, .int k, rfl, .int (1 + (i : Int)), rfl, k.toNat, 1 + i, ?_, fun H2 e2 => ?_⟩
      · show [V.int k, V.int (1 + (i : Int))] = [V.int ((k.toNat : Nat) : Int), V.int (((1 + i : Nat)) : Int)]
        rw [show ((k.toNat : Nat) : Int) = k by omega, show (((1 + i : Nat)) : Int) = 1 + (i : Int) by omega]
      · refine ⟨rfl, _, rfl, ite2 (fun c => ?_) (fun c => ?_)⟩
        · refine ⟨_, rfl, js.map V.int, e2 _ _ a1, ?_, js ++ [1 + (i : Int)], ?_, ?_, ?_, ?_, ?_, ?_⟩
          · rw [List.length_map]
            exact small1000 (by omega)
          · rw [List.map_append]
            exact upd_same
          · rw [List.length_append]
            exact Nat.add_le_add_right a2 1
          · intro j hj
            rcases List.mem_append.mp hj with hj | hj
            · exact a3 j hj
            · have := List.mem_singleton.mp hj
              omega
          · intro _
            rw [List.length_append]
            exact Nat.le_add_left _ _
          · exact (a5.trans (Keep.ex e2)).mut hD0
          · exact (a6.ex e2).upd ndl
        · refine ⟨js, e2 _ _ a1, by omega, a3, fun _ => ?_, a5.trans (Keep.ex e2), a6.ex e2⟩
          by_cases z : i = 0
          · subst z
            refine absurd ?_ c
            rw [show k.toNat.gcd (1 + 0) = 1 from Nat.gcd_one_right k.toNat]
            rfl
          · exact a4 (by omega)
    · obtain ⟨js, a1, a2, a3, a4, a5, a6⟩ := hp
      have hl : 1 ≤ js.length := a4 (by omega)
      have hb : 1 ≤ 1 + r ∧ 1 + r ≤ t := by omega
      have hkm : k * (1 + r) ≤ k * t := Int.mul_le_mul_of_nonneg_left hb.2 (by omega)
      have hk2 : 2 ≤ k * (1 + r) := by
        have := Int.mul_le_mul_of_nonneg_left hb.1 (show (0 : Int) ≤ k by omega)
        omega
      refine ⟨.int k, rfl, .int (1 + r), rfl, k, 1 + r, rfl, rfl, .inl (by constructor <;> omega), .int (1 + r), rfl, .ref d, rfl, .ref Dl, rfl, d, Dl, _, rfl, a6, a1, ndl.symm, by rw [List.length_map]; exact hl, by rw [List.length_map]; omega, fun x H2 hx hd2 k2 => ?_⟩
      obtain ⟨j, hj, rfl⟩ := List.mem_map.mp hx
      obtain ⟨j1, j2⟩ := a3 j hj
      refine ⟨1 + r, j, rfl, rfl, .inl (by constructor <;> omega), by show 2 ≤ sizeLine; decide, fun p hp => ?_⟩
      have c1 : 1 ≤ (1 + r) * j := by
        have := Int.mul_le_mul_of_nonneg_left j1 (show (0 : Int) ≤ 1 + r by omega)
        omega
      have c2 : (1 + r) * j < k * (1 + r) := by
        rw [Int.mul_comm k (1 + r)]
        exact Int.mul_lt_mul_of_pos_left j2 (by omega)
      exact q _ _ _ _ ⟨p, rfl, upd_same, hk2, hkm, c1, c2⟩ (hd2.upd (hd2.ne_new hp)) ((a5.trans k2).trans (Keep.new hp))
end
end K1

namespace K1
open PySem PySem.Spec PyProof.Rows L2 Evl
/-! ### chains -/
theorem RingAt.keep {d : Addr} {H H' : Hp} {most n s : Int} {x : V} (e : Keep d H H') (h : Dice H d) (r : RingAt H most x n s) : RingAt H' most x n s := by
  obtain ⟨t, rfl, ht, q⟩ := r
  exact ⟨t, rfl, e.tup h ht, q⟩
theorem RingAt.ex {H H' : Hp} {most n s : Int} {x : V} (e : Ex H H') (r : RingAt H most x n s) : RingAt H' most x n s := by
  obtain ⟨t, rfl, ht, q⟩ := r
  exact ⟨t, rfl, e _ _ ht, q⟩
theorem RingAt.upd {H : Hp} {most n s : Int} {x : V} {p : Addr} {o : HO} (h : ∀ t, x = .ref t → t ≠ p) (r : RingAt H most x n s) : RingAt (upd H p o) most x n s := by
  obtain ⟨t, rfl, ht, q⟩ := r
  exact ⟨t, rfl, by rw [upd_ne (h t rfl)]; exact ht, q⟩
theorem RingAt.most {H : Hp} {m m' n s : Int} {x : V} (h : m ≤ m') (r : RingAt H m x n s) : RingAt H m' x n s := by
  obtain ⟨t, rfl, ht, q1, q2, q3, q4⟩ := r
  exact ⟨t, rfl, ht, q1, by omega, q3, q4⟩
/-- rings at values, one by one -/
abbrev RingsAt (H : Hp) (most : Int) (xs : List V) (rs : List (Int × Int)) : Prop := Paired (fun x (r : Int × Int) => RingAt H most x r.1 r.2) xs rs
theorem paired_snoc {α β : Type} {R : α → β → Prop} {x : α} {y : β} (h : R x y) : ∀ {xs : List α} {ys : List β}, Paired R xs ys → Paired R (xs ++ [x]) (ys ++ [y])
  | _, _, .nil => .cons h .nil
  | _, _, .cons r t => .cons r (paired_snoc h t)
theorem paired_imp {α β : Type} {R S : α → β → Prop} (h : ∀ x y, R x y → S x y) : ∀ {xs : List α} {ys : List β}, Paired R xs ys → Paired S xs ys
  | _, _, .nil => .nil
  | _, _, .cons r t => .cons (h _ _ r) (paired_imp h t)
theorem paired_append {α β : Type} {R : α → β → Prop} : ∀ {xs xs' : List α} {ys ys' : List β}, Paired R xs ys → Paired R xs' ys' → Paired R (xs ++ xs') (ys ++ ys')
  | _, _, _, _, .nil, s => s
  | _, _, _, _, .cons r t, s => .cons r (paired_append t s)
theorem paired_get {α β : Type} {R : α → β → Prop} : ∀ {xs : List α} {ys : List β} {i : Nat} {x : α}, Paired R xs ys → xs[i]? = some x → ∃ y, ys[i]? = some y ∧ R x y
  | _, _, _, _, .nil, e => by simp at e
  | _, _, 0, _, .cons r _, e => by simp at e; subst e; exact ⟨_, rfl, r⟩
  | _, _, i + 1, x, .cons _ t, e => by
    obtain ⟨u, h1, h2⟩ := paired_get (i := i) (x := x) t (by simpa using e)
    exact ⟨u, by simpa using h1, h2⟩
theorem paired_len {α β : Type} {R : α → β → Prop} {xs : List α} {ys : List β} (h : Paired R xs ys) : xs.length = ys.length := Paired.length h
section
variable {P : Program} {w : World} {K : PySem.W.Frag} {mg : Str → Option Value} {base : Heap}
def spChain : Sp := fun vs H Q _ => ∃ (d : Addr) (g most : Int), vs = [.ref d, .int g, .int most] ∧ Dice H d ∧ 1 ≤ g ∧ g ≤ 100 ∧ 2 ≤ most ∧ most ≤ 60 ∧
  ∀ p xs rs H', H' p = some (.tup xs) → RingsAt H' most xs rs → (xs.length : Int) = g → Dice H' d → Keep d H H' → Q (.ref p) H'
/-- what stands behind i rings of the list at D -/
def ChW (d Dl : Addr) (H : Hp) (most : Int) (i : Nat) (H' : Hp) : Prop := ∃ xs rs, H' Dl = some (.lst xs) ∧ RingsAt H' most xs rs ∧ xs.length = i ∧ Keep d H H' ∧ Dice H' d
theorem ChW.turn {d Dl : Addr} {H H' H2 : Hp} {most n s : Int} {x : V} {i : Nat} (W : ChW d Dl H most i H') (ndl : d ≠ Dl) (hD0 : H Dl = none) (k : Keep d H' H2) (hd : Dice H2 d) (r : RingAt H2 most x n s) (hi : i < 1000) :
    ∃ acc, H2 Dl = some (.lst acc) ∧ acc.length < sizeLine ∧ ChW d Dl H most (i + 1) (upd H2 Dl (.lst (acc ++ [x]))) := by
  obtain ⟨xs, rs, a1, a2, a3, a4, a5⟩ := W
  have e1 : H2 Dl = some (.lst xs) := k _ _ ndl.symm a1
  have nt : ∀ {y : V} {n s : Int}, RingAt H2 most y n s → RingAt (upd H2 Dl (.lst (xs ++ [x]))) most y n s := fun {y n s} q => q.upd fun t ht => by
    obtain ⟨t', rfl, ht', _⟩ := q
    cases ht
    exact ne_of ht' e1 (by intro z; cases z)
  refine ⟨xs, e1, small1000 (by omega), xs ++ [x], rs ++ [(n, s)], upd_same, paired_snoc (R := fun x (r : Int × Int) => RingAt (upd H2 Dl (.lst (xs ++ [_]))) most x r.1 r.2) (y := (n, s)) (nt r) (paired_imp (R := fun x (r : Int × Int) => RingAt H' most x r.1 r.2) (fun y r' q => nt (q.keep k a5)) a2), ?_, (a4.trans k).mut hD0, hd.upd ndl⟩
  rw [List.length_append, a3]
  rfl
theorem ok_chain (T : Txt K mg) {f : Addr} {fd : FuncData} (D : DefAt K mg "_law_chain" sLChain ["_law_dice_here", "_law_rings", "_law_most"] f fd) : FnOk P w K mg base CX0 4 f fd ["_law_dice_here", "_law_rings", "_law_most"] spChain := by
  refine D.F.ok scLChain (fun vs H Q E h => ?_) (fun cdv A outer s H vs Q E hr h => ?_)
  · obtain ⟨d, n, t, rfl, _⟩ := h
    rfl
  · obtain ⟨d, g, most, rfl, hd, h1, h2, h3, h4, q⟩ := h
    obtain ⟨f1, fd1, D1⟩ := T.d_l_roll
    obtain ⟨f2, fd2, D2⟩ := T.d_l_ring_of
    obtain ⟨f3, fd3, D3⟩ := T.d_l_ring
    have hr1 : Room 1 _ := hr.mono (by decide)
    have hr2 : Room 2 _ := hr.mono (by decide)
    refine ⟨_, pss_cons (ps_if (pt_cmpR op_eq (pe_call (ok_roll T D1) hr1 (by rfl) D1.g D1.F.kp D1.b .nil pass0 (pa_cons (pv 0) (pa_cons pe_int pa_nil))) pe_int (nomark _))
        (pss_cons (ps_set (i := 3) scLChain.nd rfl (.inr rfl) (pe_op op_add pe_int (pe_call (ok_roll T D1) hr1 (by rfl) D1.g D1.F.kp D1.b .nil pass0 (pa_cons (pv 0) (pa_cons (pe_callB (call_min2 rfl) (by rfl) T.z_min (by decide +kernel) (pa_cons pe_int (pa_cons (pe_op op_sub (pv 2) pe_int) pa_nil))) pa_nil)))))
        (pss_one (ps_ret (pe_callTy call_tuple_of (by rfl) T.z_tuple (by decide +kernel) (pa_cons (pe_lc (own := [("_law_turn", 4)]) (g := gName 4) (tt := tYes) rfl scLChain.nd (pi_range1 (by rfl) T.z_range (pa_cons (pv 1) pa_nil))
          (blkOk_by (N := nLChain) (sc := defScope sLChain) (by decide +kernel)) (fun _ _ _ _ _ => pg_name (i := 4) scLChain.nd rfl (Or.inl rfl)) (fun _ _ _ _ _ => pts_nil)
          (fun _ _ _ _ _ => pe_call (ok_ring_of T D2) hr (by rfl) D2.g D2.F.kp D2.b .nil pass0 (pa_cons (pv 0) (pa_cons (pv 3) (pa_cons (pe_op op_fdiv (pv 2) (pv 3)) pa_nil))))) pa_nil))))) pss_nil)
      (pss_one (ps_ret (pe_callTy call_tuple_of (by rfl) T.z_tuple (by decide +kernel) (pa_cons (pe_lc (own := [("_law_turn", 4)]) (g := gName 4) (tt := tYes) rfl scLChain.nd (pi_range1 (by rfl) T.z_range (pa_cons (pv 1) pa_nil))
          (blkOk_by (N := nLChain) (sc := defScope sLChain) (by decide +kernel)) (fun _ _ _ _ _ => pg_name (i := 4) scLChain.nd rfl (Or.inl rfl)) (fun _ _ _ _ _ => pts_nil)
          (fun _ _ _ _ _ => pe_call (ok_ring T D3) hr2 (by rfl) D3.g D3.F.kp D3.b .nil pass0 (pa_cons (pv 0) (pa_cons (pv 2) pa_nil)))) pa_nil)))), ?_⟩
    refine ⟨.ref d, rfl, d, 3, rfl, hd, by omega, by omega, fun r H1 r0 r1 hd1 k1 => ?_⟩
    refine ⟨rfl, _, rfl, ite2 (fun c => ?_) (fun c => ?_)⟩
    · refine ⟨.ref d, rfl, .int most, rfl, most, 1, rfl, rfl, 3, most - 1, rfl, d, _, rfl, hd1, ?_, ?_, fun r' H2 r0' r1' hd2 k2 => ?_⟩
      · split <;> omega
      · split <;> omega
      have hk : 2 + r' ≤ most ∧ 2 + r' ≤ 4 := by
        split at r1' <;> omega
      refine ⟨2, r', rfl, rfl, .int g, rfl, g, rfl, by omega, by omega, fun Dl hD => ?_⟩
      have ndl : d ≠ Dl := hd2.ne_new hD
      have k12 := k1.trans k2
      have hD0 : H Dl = none := k12.free ndl.symm hD
      refine lc_range (lo := 0) (n := g.toNat) (ChW d Dl H most) ⟨[], [], upd_same, .nil, rfl, k12.trans (Keep.new hD), hd2.upd ndl⟩ (fun i H' hi W => ?_) (fun H' W => ?_)
      · have hd' := W.choose_spec.choose_spec.2.2.2.2
        have hq : 1 ≤ most / (2 + r') := Int.le_ediv_of_mul_le (by omega) (by omega)
        have hq2 : most / (2 + r') ≤ most := Int.ediv_le_self _ (by omega)
        have hq3 : (2 + r') * (most / (2 + r')) ≤ most := Int.mul_ediv_self_le (by omega)
        refine ⟨rfl, ?_⟩
        dsimp only [tYes]
        rw [if_pos rfl]
        refine ⟨.ref d, rfl, .int (2 + r'), rfl, .int most, rfl, .int (2 + r'), rfl, most, 2 + r', rfl, rfl, ⟨by omega, by omega⟩, d, 2 + r', most / (2 + r'), rfl, hd', by omega, by omega, hq, by omega, fun x n s H3 hx hd3 k3 => ?_⟩
        exact W.turn ndl hD0 k3 hd3 (hx.most hq3) (by omega)
      · obtain ⟨xs, rs, a1, a2, a3, a4, a5⟩ := W
        refine ⟨Dl, xs, rfl, .inl ⟨SqL.of a1, fun p hp => q p xs rs _ upd_same (paired_imp (fun y r' z => RingAt.ex (.new hp) z) a2) (by omega) (a5.upd (a5.ne_new hp)) (a4.trans (Keep.new hp))⟩⟩
    · refine ⟨.int g, rfl, g, rfl, by omega, by omega, fun Dl hD => ?_⟩
      have ndl : d ≠ Dl := hd1.ne_new hD
      have hD0 : H Dl = none := k1.free ndl.symm hD
      refine lc_range (lo := 0) (n := g.toNat) (ChW d Dl H most) ⟨[], [], upd_same, .nil, rfl, k1.trans (Keep.new hD), hd1.upd ndl⟩ (fun i H' hi W => ?_) (fun H' W => ?_)
      · have hd' := W.choose_spec.choose_spec.2.2.2.2
        refine ⟨rfl, ?_⟩
        dsimp only [tYes]
        rw [if_pos rfl]
        refine ⟨.ref d, rfl, .int most, rfl, d, most, rfl, hd', by omega, by omega, fun x n s H3 hx hd3 k3 => ?_⟩
        exact W.turn ndl hD0 k3 hd3 hx (by omega)
      · obtain ⟨xs, rs, a1, a2, a3, a4, a5⟩ := W
        refine ⟨Dl, xs, rfl, .inl ⟨SqL.of a1, fun p hp => q p xs rs _ upd_same (paired_imp (fun y r' z => RingAt.ex (.new hp) z) a2) (by omega) (a5.upd (a5.ne_new hp)) (a4.trans (Keep.new hp))⟩⟩
end
end K1

namespace K1
open PySem PySem.Spec PyProof.Rows L2 Evl
/-! ### judges of rings and chains -/
/-- no tuple -/
inductive NotTup (K : PySem.W.Frag) (H : Hp) : V → Prop where
  | bl (b : Bool) : NotTup K H (.bl b)
  | non : NotTup K H .non
  | int (i : Int) : NotTup K H (.int i)
  | str (x : Str) : NotTup K H (.str x)
  | lst {a : Addr} {xs : List V} (e : H a = some (.lst xs)) : NotTup K H (.ref a)
  | dK {a : Addr} {kvs : List (Key × V)} (e : H a = some (.dK kvs)) : NotTup K H (.ref a)
theorem NotTup.ty {K : PySem.W.Frag} {H : Hp} {x : V} (h : NotTup K H x) : ∃ t : Value, TyX K H x t ∧ PySem.W.kitOne K t (.type "tuple") = some false := by
  cases h with
  | bl b => exact ⟨_, .base (.bl b), (kit_ty (by decide +kernel))⟩
  | non => exact ⟨_, .base .non, (kit_ty (by decide +kernel))⟩
  | int x => exact ⟨_, .base (.int x), (kit_ty (by decide +kernel))⟩
  | str x => exact ⟨_, .base (.str x), (kit_ty (by decide +kernel))⟩
  | lst e => exact ⟨_, .base (.lst e), (kit_ty (by decide +kernel))⟩
  | dK e => exact ⟨_, .base (.dK e), (kit_ty (by decide +kernel))⟩
theorem NotTup.mono {K : PySem.W.Frag} {H H' : Hp} {x : V} (e : Ex H H') (h : NotTup K H x) : NotTup K H' x := by
  cases h with
  | bl b => exact .bl b
  | non => exact .non
  | int x => exact .int x
  | str x => exact .str x
  | lst q => exact .lst (e _ _ q)
  | dK q => exact .dK (e _ _ q)
theorem BtwB.mono {K : PySem.W.Frag} {H H' : Hp} {lo hi : Int} {x : V} {b : Bool} (e : Ex H H') (h : BtwB K H lo hi x b) : BtwB K H' lo hi x b := by
  cases h with
  | int i => exact .int i
  | no h => exact .no (h.mono e)
theorem BtwB.yes {K : PySem.W.Frag} {H : Hp} {lo hi i : Int} (h1 : lo ≤ i) (h2 : i ≤ hi) (h3 : -(10 ^ 60) < i) (h4 : i < 10 ^ 60) : BtwB K H lo hi (.int i) true := by
  have := BtwB.int (K := K) (H := H) (lo := lo) (hi := hi) i
  rw [decide_eq_true h1, decide_eq_true h2, decide_eq_true h3, decide_eq_true h4] at this
  exact this
theorem BtwB.out {K : PySem.W.Frag} {H : Hp} {lo hi i : Int} (h1 : ¬ (lo ≤ i ∧ i ≤ hi)) : BtwB K H lo hi (.int i) false := by
  have := BtwB.int (K := K) (H := H) (lo := lo) (hi := hi) i
  have e : (decide (lo ≤ i) && decide (i ≤ hi)) = false := by
    by_cases c : lo ≤ i
    · have c2 : ¬ i ≤ hi := fun z => h1 ⟨c, z⟩
      rw [decide_eq_false c2, Bool.and_false]
    · rw [decide_eq_false c, Bool.false_and]
  rw [e, Bool.and_false] at this
  exact this
inductive PairB (K : PySem.W.Frag) (H : Hp) : V → Bool → Prop where
  | no {x : V} (h : NotTup K H x) : PairB K H x false
  | tup {a : Addr} {xs : List V} (e : H a = some (.tup xs)) : PairB K H (.ref a) (decide (xs.length = 2))
inductive RingB (K : PySem.W.Frag) (H : Hp) : V → Bool → Prop where
  | no {x : V} (h : NotTup K H x) : RingB K H x false
  | len {a : Addr} {xs : List V} (e : H a = some (.tup xs)) (h : xs.length ≠ 2) : RingB K H (.ref a) false
  | first {a : Addr} {x y : V} (e : H a = some (.tup [x, y])) (h : BtwB K H 2 60 x false) : RingB K H (.ref a) false
  | both {a : Addr} {n : Int} {y : V} {b : Bool} (e : H a = some (.tup [.int n, y])) (h1 : 2 ≤ n) (h2 : n ≤ 60) (h : BtwB K H 1 (n - 1) y b) : RingB K H (.ref a) b
theorem RingB.mono {K : PySem.W.Frag} {H H' : Hp} {x : V} {b : Bool} (e : Ex H H') (h : RingB K H x b) : RingB K H' x b := by
  cases h with
  | no h => exact .no (h.mono e)
  | len q h => exact .len (e _ _ q) h
  | first q h => exact .first (e _ _ q) (h.mono e)
  | both q h1 h2 h => exact .both (e _ _ q) h1 h2 (h.mono e)
inductive ChainB (K : PySem.W.Frag) (H : Hp) : V → Bool → Prop where
  | no {x : V} (h : NotTup K H x) : ChainB K H x false
  | len {a : Addr} {xs : List V} (e : H a = some (.tup xs)) (h : ¬ (1 ≤ xs.length ∧ xs.length ≤ 12)) : ChainB K H (.ref a) false
  | tup {a : Addr} {xs : List V} {bs : List Bool} (e : H a = some (.tup xs)) (h : 1 ≤ xs.length ∧ xs.length ≤ 12) (hb : Paired (RingB K H) xs bs) : ChainB K H (.ref a) (bs.all id)
theorem RingAt.ring {K : PySem.W.Frag} {H : Hp} {most n s : Int} {x : V} (h : RingAt H most x n s) (hm : most ≤ 60) : RingB K H x true := by
  obtain ⟨t, rfl, ht, h1, h2, h3, h4⟩ := h
  exact .both ht h1 (by omega) (.yes h3 (by omega) (by omega) (by omega))
section
variable {P : Program} {w : World} {K : PySem.W.Frag} {mg : Str → Option Value} {base : Heap}
def spIsPair (K : PySem.W.Frag) : Sp := fun vs H Q _ => ∃ x b, vs = [x] ∧ PairB K H x b ∧ ∀ H', Ex H H' → Q (.bl b) H'
theorem ok_is_pair (T : Txt K mg) {f : Addr} {fd : FuncData} (D : DefAt K mg "is_pair" sIsPair ["value"] f fd) : FnOk P w K mg base CX0 1 f fd ["value"] (spIsPair K) := by
  refine D.F.ok scIsPair (fun vs H Q E h => ?_) (fun cdv A outer s H vs Q E hr h => ?_)
  · obtain ⟨x, b, rfl, _⟩ := h
    rfl
  · obtain ⟨x, b, rfl, hb, q⟩ := h
    refine ⟨_, pss_one (ps_ret (pe_and (pe_callB call_isi (by rfl) T.z_isinstance (by decide +kernel) (pa_cons (pv 0) (pa_cons (pe_bltn (v := .ty "tuple") (by rfl) T.z_tuple (by decide +kernel) rfl) pa_nil)))
      (pe_one (pe_cmpR op_eq (pe_callB call_len (by rfl) T.z_len PySem.boot_len (pa_cons (pv 0) pa_nil)) pe_int (nomark _))))), ?_⟩
    cases hb with
    | no hn =>
      obtain ⟨t, ty, h⟩ := hn.ty
      exact ⟨x, rfl, x, .ty "tuple", t, .type "tuple", false, rfl, .ty _, ty, h, false, rfl, iteF (q _ (Ex.refl _))⟩
    | @tup a xs e =>
      refine ⟨_, rfl, .ref a, .ty "tuple", .type "tuple", .type "tuple", true, rfl, .ty _, .base (.tup e), kit_ty (by decide +kernel), true, rfl, iteT ?_⟩
      refine ⟨_, rfl, _, xs.length, rfl, .inr ⟨_, SqT.of e, rfl⟩, rfl, ?_⟩
      have e2 : decide (V.int (xs.length : Int) = V.int 2) = decide (xs.length = 2) := by
        by_cases c : xs.length = 2
        · rw [c]
          rfl
        · rw [decide_eq_false c, decide_eq_false (fun z => c (by have := V.int.inj z; omega))]
      rw [e2]
      exact q _ (Ex.refl _)
def spIsRing (K : PySem.W.Frag) : Sp := fun vs H Q _ => ∃ x b, vs = [x] ∧ RingB K H x b ∧ ∀ H', Ex H H' → Q (.bl b) H'
theorem ok_is_ring (T : Txt K mg) {f : Addr} {fd : FuncData} (D : DefAt K mg "is_ring" sIsRing ["value"] f fd) : FnOk P w K mg base CX0 3 f fd ["value"] (spIsRing K) := by
  refine D.F.ok scIsRing (fun vs H Q E h => ?_) (fun cdv A outer s H vs Q E hr h => ?_)
  · obtain ⟨x, b, rfl, _⟩ := h
    rfl
  · obtain ⟨x, b, rfl, hb, q⟩ := h
    obtain ⟨f1, fd1, D1⟩ := T.d_is_pair
    obtain ⟨f2, fd2, D2⟩ := T.d_is_between
    obtain ⟨tM, vM⟩ := T.v_PLACES
    have hr1 : Room 1 _ := hr.mono (by decide)
    refine ⟨_, pss_cons (ps_if (pt_not (pt_val (pe_call (ok_is_pair T D1) hr1 (by rfl) D1.g D1.F.kp D1.b .nil pass0 (pa_cons (pv 0) pa_nil)))) (pss_one (ps_ret pe_bl)) pss_nil)
      (pss_cons (ps_asg (pv 0) (pg_tup (by rfl) (pgs_cons (pg_name (i := 1) scIsRing.nd rfl (.inl rfl)) (pgs_cons (pg_name (i := 2) scIsRing.nd rfl (.inl rfl)) pgs_nil))))
      (pss_one (ps_ret (pe_and (pe_call (ok_is_between T D2) hr (by rfl) D2.g D2.F.kp D2.b .nil pass0 (pa_cons (pv 1) (pa_cons pe_int (pa_cons (pe_glob (v := .int 60) rfl vM ⟨_, rfl⟩) pa_nil))))
        (pe_one (pe_call (ok_is_between T D2) hr (by rfl) D2.g D2.F.kp D2.b .nil pass0 (pa_cons (pv 2) (pa_cons pe_int (pa_cons (pe_op op_sub (pv 1) pe_int) pa_nil))))))))), ?_⟩
    cases hb with
    | no h => exact ⟨x, rfl, x, false, rfl, .no h, fun H1 e1 => ⟨false, rfl, iteT (q _ e1)⟩⟩
    | @len a xs e h => exact ⟨_, rfl, .ref a, false, rfl, by have := PairB.tup (K := K) e; rw [decide_eq_false h] at this; exact this, fun H1 e1 => ⟨false, rfl, iteT (q _ e1)⟩⟩
    | @first a x y e h =>
      refine ⟨_, rfl, .ref a, true, rfl, .tup e, fun H1 e1 => ⟨true, rfl, iteF ?_⟩⟩
      refine ⟨_, rfl, a, [x, y], rfl, SqT.of (e1 _ _ e), rfl, x, [y], rfl, y, [], rfl, rfl, ?_⟩
      exact ⟨x, rfl, x, 2, 60, false, rfl, h.mono e1, fun H2 e2 => ⟨false, rfl, iteF (q _ (e1.trans e2))⟩⟩
    | @both a n y b e h1 h2 h =>
      refine ⟨_, rfl, .ref a, true, rfl, .tup e, fun H1 e1 => ⟨true, rfl, iteF ?_⟩⟩
      refine ⟨_, rfl, a, [.int n, y], rfl, SqT.of (e1 _ _ e), rfl, .int n, [y], rfl, y, [], rfl, rfl, ?_⟩
      refine ⟨.int n, rfl, .int n, 2, 60, true, rfl, .yes h1 h2 (by omega) (by omega), fun H2 e2 => ⟨true, rfl, iteT ?_⟩⟩
      exact ⟨y, rfl, .int n, rfl, n, 1, rfl, rfl, y, 1, n - 1, b, rfl, h.mono (e1.trans e2), fun H3 e3 => q _ ((e1.trans e2).trans e3)⟩
def spIsChain (K : PySem.W.Frag) : Sp := fun vs H Q _ => ∃ x b, vs = [x] ∧ ChainB K H x b ∧ ∀ H', Ex H H' → Q (.bl b) H'
theorem ok_is_chain (T : Txt K mg) {f : Addr} {fd : FuncData} (D : DefAt K mg "is_chain" sIsChain ["value"] f fd) : FnOk P w K mg base CX0 4 f fd ["value"] (spIsChain K) := by
  refine D.F.ok scIsChain (fun vs H Q E h => ?_) (fun cdv A outer s H vs Q E hr h => ?_)
  · obtain ⟨x, b, rfl, _⟩ := h
    rfl
  · obtain ⟨x, b, rfl, hb, q⟩ := h
    obtain ⟨f1, fd1, D1⟩ := T.d_is_ring
    obtain ⟨tM, vM⟩ := T.v_RINGS
    refine ⟨_, pss_cons (ps_if (PW.pt (pw_or (pt_not (pt_val (pe_callB call_isi (by rfl) T.z_isinstance (by decide +kernel) (pa_cons (pv 0) (pa_cons (pe_bltn (v := .ty "tuple") (by rfl) T.z_tuple (by decide +kernel) rfl) pa_nil)))))
        (pw_or1 (pt_not (pt_chain op_le op_le pe_int (pe_callB call_len (by rfl) T.z_len PySem.boot_len (pa_cons (pv 0) pa_nil)) (pe_glob (v := .int 12) rfl vM ⟨_, rfl⟩)))))) (pss_one (ps_ret pe_bl)) pss_nil)
      (pss_one (ps_ret (pe_callB (cr_all rfl) (by rfl) T.z_all (by decide +kernel) (pa_cons (pe_lc (own := [("ring", 1)]) (g := gName 1) (tt := tYes) rfl scIsChain.nd (pi_tup (pv 0))
          (blkOk_by (N := nIsChain) (sc := defScope sIsChain) (by decide +kernel)) (fun _ _ _ _ _ => pg_name (i := 1) scIsChain.nd rfl (Or.inl rfl)) (fun _ _ _ _ _ => pts_nil)
          (fun _ _ _ _ _ => pe_call (ok_is_ring T D1) hr (by rfl) D1.g D1.F.kp D1.b .nil pass0 (pa_cons (pv 1) pa_nil))) pa_nil)))), ?_⟩
    cases hb with
    | no hn =>
      obtain ⟨t, ty, h⟩ := hn.ty
      exact ⟨x, rfl, x, .ty "tuple", t, .type "tuple", false, rfl, .ty _, ty, h, false, rfl, iteT (iteT (q _ (Ex.refl _)))⟩
    | @len a xs e h =>
      refine ⟨_, rfl, .ref a, .ty "tuple", .type "tuple", .type "tuple", true, rfl, .ty _, .base (.tup e), kit_ty (by decide +kernel), true, rfl, iteF ?_⟩
      refine ⟨_, rfl, _, xs.length, rfl, .inr ⟨_, SqT.of e, rfl⟩, _, _, rfl, rfl, _, rfl, ite2 (fun c => ?_) (fun c => ?_)⟩
      · refine ⟨_, _, rfl, rfl, _, rfl, ?_⟩
        have c2 : ¬ ((xs.length : Int) ≤ 12) := fun z => h ⟨by have : (1 : Int) ≤ (xs.length : Int) := of_decide_eq_true c; omega, by omega⟩
        rw [decide_eq_false c2]
        exact iteT (q _ (Ex.refl _))
      · exact ⟨_, rfl, iteT (q _ (Ex.refl _))⟩
    | @tup a xs bs e h hb =>
      refine ⟨_, rfl, .ref a, .ty "tuple", .type "tuple", .type "tuple", true, rfl, .ty _, .base (.tup e), kit_ty (by decide +kernel), true, rfl, iteF ?_⟩
      refine ⟨_, rfl, _, xs.length, rfl, .inr ⟨_, SqT.of e, rfl⟩, _, _, rfl, rfl, _, rfl, ite2 (fun c => ?_) (fun c => ?_)⟩
      · refine ⟨_, _, rfl, rfl, _, rfl, ?_⟩
        rw [decide_eq_true (show (xs.length : Int) ≤ 12 by omega)]
        refine iteF ?_
        refine ⟨_, rfl, a, rfl, ⟨_, SqT.of e⟩, fun Dl hD => ?_⟩
        refine lc_tup (K := K) (a := a) (xs := xs) (fun i H' => H' Dl = some (.lst ((bs.take i).map V.bl)) ∧ Ex H H') ⟨upd_same, Ex.new hD⟩ (fun i H' _ hp => SqT.of (hp.2 _ _ e)) (fun i x H' hx hp => ?_) (fun H' hp => ?_)
        · obtain ⟨y, hy, hR⟩ := paired_get hb hx
          refine ⟨rfl, ?_⟩
          dsimp only [tYes]
          rw [if_pos rfl]
          refine ⟨x, rfl, x, y, rfl, hR.mono hp.2, fun H2 e2 => ⟨_, e2 _ _ hp.1, ?_, ?_, ?_⟩⟩
          · have := (List.getElem?_eq_some_iff.mp hx).1
            rw [List.length_map, List.length_take]
            exact small1000 (Nat.le_trans (Nat.min_le_left _ _) (by omega))
          · rw [upd_same, List.take_add_one, hy, List.map_append]
            rfl
          · exact Ex.mut (hp.2.trans e2) hD
        · refine ⟨Dl, bs, rfl, ?_, q _ hp.2⟩
          have e3 : bs.take xs.length = bs := List.take_of_length_le (by rw [paired_len hb]; exact Nat.le_refl _)
          have h1 := hp.1
          rw [e3] at h1
          exact SqL.of h1
      · exact absurd (decide_eq_true (show (1 : Int) ≤ (xs.length : Int) by omega)) c
end
end K1

namespace K1
open PySem PySem.Spec PyProof.Rows L2 Evl
/-! ### orders and diagonals -/
section
variable {P : Program} {w : World} {K : PySem.W.Frag} {mg : Str → Option Value} {base : Heap}
def spCheckInteger (K : PySem.W.Frag) : Sp := fun vs H Q _ => ∃ i : Int, vs = [.int i] ∧ -(10 ^ 60) < i ∧ i < 10 ^ 60 ∧ ∀ H', Ex H H' → Q .non H'
theorem ok_check_integer (T : Txt K mg) {f : Addr} {fd : FuncData} (D : DefAt K mg "check_integer" sCheckInteger ["value"] f fd) : FnOk P w K mg base CX0 2 f fd ["value"] (spCheckInteger K) := by
  refine D.F.ok scCheckInteger (fun vs H Q E h => ?_) (fun cdv A outer s H vs Q E hr h => ?_)
  · obtain ⟨x, rfl, _⟩ := h
    rfl
  · obtain ⟨i, rfl, h1, h2, q⟩ := h
    obtain ⟨f1, fd1, D1⟩ := T.d_is_integer
    refine ⟨_, pss_one (ps_if (pt_not (pt_val (pe_call (ok_is_integer T D1) hr (by rfl) D1.g D1.F.kp D1.b .nil pass0 (pa_cons (pv 0) pa_nil)))) pss_never pss_nil), ?_⟩
    refine ⟨_, rfl, .int i, true, rfl, ?_, fun H1 e1 => ⟨true, rfl, iteF (q _ e1)⟩⟩
    have := IntB.int (K := K) (H := H) i
    rw [decide_eq_true h1, decide_eq_true h2] at this
    exact this
def spCheckRing (K : PySem.W.Frag) : Sp := fun vs H Q _ => ∃ x, vs = [x] ∧ RingB K H x true ∧ ∀ H', Ex H H' → Q .non H'
theorem ok_check_ring (T : Txt K mg) {f : Addr} {fd : FuncData} (D : DefAt K mg "check_ring" sCheckRing ["ring"] f fd) : FnOk P w K mg base CX0 4 f fd ["ring"] (spCheckRing K) := by
  refine D.F.ok scCheckRing (fun vs H Q E h => ?_) (fun cdv A outer s H vs Q E hr h => ?_)
  · obtain ⟨x, rfl, _⟩ := h
    rfl
  · obtain ⟨x, rfl, hb, q⟩ := h
    obtain ⟨f1, fd1, D1⟩ := T.d_is_ring
    refine ⟨_, pss_one (ps_if (pt_not (pt_val (pe_call (ok_is_ring T D1) hr (by rfl) D1.g D1.F.kp D1.b .nil pass0 (pa_cons (pv 0) pa_nil)))) pss_never pss_nil), ?_⟩
    exact ⟨_, rfl, x, true, rfl, hb, fun H1 e1 => ⟨true, rfl, iteF (q _ e1)⟩⟩
def spCheckChain (K : PySem.W.Frag) : Sp := fun vs H Q _ => ∃ x, vs = [x] ∧ ChainB K H x true ∧ ∀ H', Ex H H' → Q .non H'
theorem ok_check_chain (T : Txt K mg) {f : Addr} {fd : FuncData} (D : DefAt K mg "check_chain" sCheckChain ["chain"] f fd) : FnOk P w K mg base CX0 5 f fd ["chain"] (spCheckChain K) := by
  refine D.F.ok scCheckChain (fun vs H Q E h => ?_) (fun cdv A outer s H vs Q E hr h => ?_)
  · obtain ⟨x, rfl, _⟩ := h
    rfl
  · obtain ⟨x, rfl, hb, q⟩ := h
    obtain ⟨f1, fd1, D1⟩ := T.d_is_chain
    refine ⟨_, pss_one (ps_if (pt_not (pt_val (pe_call (ok_is_chain T D1) hr (by rfl) D1.g D1.F.kp D1.b .nil pass0 (pa_cons (pv 0) pa_nil)))) pss_never pss_nil), ?_⟩
    exact ⟨_, rfl, x, true, rfl, hb, fun H1 e1 => ⟨true, rfl, iteF (q _ e1)⟩⟩
def spLets : Sp := fun vs H Q _ => ∃ x n s p c, vs = [x, .int p, .int c] ∧ RingAt H 60 x n s ∧ ∀ H', Ex H H' → Q (.bl (decide ((c * s - p) % n = 0))) H'
theorem ok_lets (T : Txt K mg) {f : Addr} {fd : FuncData} (D : DefAt K mg "lets" sLets ["ring", "place", "diagonal"] f fd) : FnOk P w K mg base CX0 1 f fd ["ring", "place", "diagonal"] spLets := by
  refine D.F.ok scLets (fun vs H Q E h => ?_) (fun cdv A outer s H vs Q E hr h => ?_)
  · obtain ⟨x, n, s, p, c, rfl, _⟩ := h
    rfl
  · obtain ⟨x, n, s, p, c, rfl, hx, q⟩ := h
    refine ⟨_, pss_one (ps_ret (pe_cmpR op_eq (pe_op op_mod (pe_op op_sub (pe_op op_mul (pv 2) (pe_ix ix_tup (pv 0) pe_int (fun _ _ => rfl))) (pv 1)) (pe_ix ix_tup (pv 0) pe_int (fun _ _ => rfl))) pe_int (nomark _))), ?_⟩
    obtain ⟨t, rfl, ht, h1, h2, h3, h4⟩ := hx
    have ht1 := SqT.of (K := K) ht
    refine ⟨_, rfl, _, rfl, t, _, 1, .int s, rfl, rfl, ht1, rfl, c, s, rfl, rfl, .inr (by constructor <;> omega), _, rfl, _, _, rfl, rfl, _, rfl, t, _, 0, .int n, rfl, rfl, ht1, rfl, _, n, rfl, rfl, by omega, rfl, ?_⟩
    have e : decide (V.int ((c * s - p) % n) = V.int 0) = decide ((c * s - p) % n = 0) := by
      by_cases z : (c * s - p) % n = 0
      · rw [z]
        rfl
      · rw [decide_eq_false z, decide_eq_false (fun y => z (V.int.inj y))]
    show Q (V.bl (decide (V.int ((c * s - p) % n) = V.int 0))) H
    rw [e]
    exact q _ (Ex.refl _)
def spDoesLet : Sp := fun vs H Q _ => ∃ x n s p c, vs = [x, .int p, .int c] ∧ RingAt H 60 x n s ∧ 0 ≤ p ∧ p < n ∧ -(10 ^ 60) < c ∧ c < 10 ^ 60 ∧ ∀ H', Ex H H' → Q (.bl (decide ((c * s) % n = p))) H'
end
end K1

/-! plain mathematics of heaps: heights of columns that do not ascend -/
namespace HM
def hAt (h : List Nat) (c : Nat) : Nat := h.getD c 0
theorem hAt_lt {h : List Nat} {c : Nat} (hc : c < h.length) : h[c]? = some (hAt h c) := by
  unfold hAt
  rw [List.getD_eq_getElem?_getD, List.getElem?_eq_getElem hc]
  rfl
theorem hAt_ge {h : List Nat} {c : Nat} (hc : h.length ≤ c) : hAt h c = 0 := by
  unfold hAt
  rw [List.getD_eq_getElem?_getD, List.getElem?_eq_none hc]
  rfl
structure IsHeap (h : List Nat) : Prop where
  pos : ∀ c, c < h.length → 0 < hAt h c
  fall : ∀ c, hAt h (c + 1) ≤ hAt h c
theorem IsHeap.nil : IsHeap [] := ⟨fun c hc => absurd hc (Nat.not_lt_zero c), fun c => by rw [hAt_ge (Nat.zero_le _), hAt_ge (Nat.zero_le _)]; exact Nat.le_refl _⟩
theorem IsHeap.le {h : List Nat} (H : IsHeap h) {c : Nat} : ∀ {d : Nat}, c ≤ d → hAt h d ≤ hAt h c
  | 0, hd => by
    have : c = 0 := by omega
    rw [this]
    exact Nat.le_refl _
  | d + 1, hd => by
    by_cases e : c = d + 1
    · rw [e]
      exact Nat.le_refl _
    · exact Nat.le_trans (H.fall d) (H.le (by omega))
/-- two heaps with the same heights are one -/
theorem heap_ext {h h' : List Nat} (H : IsHeap h) (H' : IsHeap h') (e : ∀ c, hAt h c = hAt h' c) : h = h' := by
  have l : h.length = h'.length := by
    rcases Nat.lt_trichotomy h.length h'.length with q | q | q
    · have a := H'.pos _ q
      rw [← e, hAt_ge (Nat.le_refl _)] at a
      omega
    · exact q
    · have a := H.pos _ q
      rw [e, hAt_ge (Nat.le_refl _)] at a
      omega
  refine List.ext_getElem? fun c => ?_
  by_cases hc : c < h.length
  · rw [hAt_lt hc, hAt_lt (by omega), e]
  · rw [List.getElem?_eq_none (by omega), List.getElem?_eq_none (by omega)]
/-- a square can be added on top of the column -/
def opn (h : List Nat) (c : Nat) : Bool := decide (c = 0) || decide (hAt h c < hAt h (c - 1))
theorem opn_le {h : List Nat} {c : Nat} (o : opn h c = true) : c ≤ h.length := by
  unfold opn at o
  by_cases hc : c ≤ h.length
  · exact hc
  · rw [decide_eq_false (show ¬ c = 0 by omega), hAt_ge (show h.length ≤ c by omega), hAt_ge (show h.length ≤ c - 1 by omega)] at o
    exact absurd o (by decide)
theorem opn_lt {h : List Nat} {c : Nat} (o : opn h (c + 1) = true) : hAt h (c + 1) < hAt h c := by
  unfold opn at o
  rw [decide_eq_false (show ¬ c + 1 = 0 by omega), Bool.false_or] at o
  exact of_decide_eq_true o
def b2n (b : Bool) : Nat := if b = true then 1 else 0
theorem b2n_le (b : Bool) : b2n b ≤ 1 := by cases b <;> decide
def grow (h : List Nat) (g : Nat → Bool) : List Nat := (List.range h.length).map (fun c => hAt h c + b2n (g c)) ++ (if g h.length = true then [1] else [])
theorem grow_len (h : List Nat) (g : Nat → Bool) : (grow h g).length = h.length + b2n (g h.length) := by
  unfold grow b2n
  rw [List.length_append, List.length_map, List.length_range]
  split <;> rfl
theorem hAt_grow {h : List Nat} {g : Nat → Bool} (hg : ∀ c, g c = true → opn h c = true) (c : Nat) : hAt (grow h g) c = hAt h c + b2n (g c) := by
  unfold hAt
  rw [List.getD_eq_getElem?_getD, List.getD_eq_getElem?_getD]
  unfold grow
  by_cases hc : c < h.length
  · rw [List.getElem?_append_left (by rw [List.length_map, List.length_range]; exact hc), List.getElem?_map, List.getElem?_range hc, hAt_lt hc]
    rfl
  · rw [List.getElem?_append_right (by rw [List.length_map, List.length_range]; omega), List.length_map, List.length_range, List.getElem?_eq_none (show h.length ≤ c by omega)]
    by_cases e : c = h.length
    · subst e
      rw [Nat.sub_self]
      unfold b2n
      by_cases q : g h.length = true
      · rw [if_pos q, if_pos q]
        rfl
      · rw [if_neg q, if_neg q]
        rfl
    · have q : g c = false := by
        cases q : g c with
        | false => rfl
        | true => exact absurd (opn_le (hg c q)) (by omega)
      rw [q]
      have l : (if g h.length = true then [1] else []).length ≤ 1 := by split <;> decide
      rw [List.getElem?_eq_none (by omega)]
      rfl
theorem grow_heap {h : List Nat} {g : Nat → Bool} (H : IsHeap h) (hg : ∀ c, g c = true → opn h c = true) : IsHeap (grow h g) := by
  refine ⟨fun c hc => ?_, fun c => ?_⟩
  · rw [hAt_grow hg]
    rw [grow_len] at hc
    by_cases q : c < h.length
    · have := H.pos c q
      omega
    · have : c = h.length := by
        have := b2n_le (g h.length)
        omega
      subst this
      omega
  · rw [hAt_grow hg, hAt_grow hg]
    have := H.fall c
    cases q : g (c + 1) with
    | false =>
      show hAt h (c + 1) + 0 ≤ _
      omega
    | true =>
      have := opn_lt (hg _ q)
      show hAt h (c + 1) + 1 ≤ _
      omega
/-- heights and one more, 0, with some more -/
def hts (h : List Nat) (f : Nat → Nat) : List Nat := (List.range (h.length + 1)).map fun c => hAt h c + f c
theorem hts_len (h : List Nat) (f : Nat → Nat) : (hts h f).length = h.length + 1 := by
  unfold hts
  rw [List.length_map, List.length_range]
theorem hts_get {h : List Nat} {f : Nat → Nat} {c : Nat} (hc : c ≤ h.length) : (hts h f)[c]? = some (hAt h c + f c) := by
  unfold hts
  rw [List.getElem?_map, List.getElem?_range (by omega)]
  rfl
theorem hts_zero (h : List Nat) : h ++ [0] = hts h fun _ => 0 := by
  refine List.ext_getElem? fun c => ?_
  by_cases q : c < h.length
  · rw [List.getElem?_append_left q, hAt_lt q, hts_get (by omega)]
    rfl
  · by_cases e : c = h.length
    · subst e
      rw [List.getElem?_append_right (Nat.le_refl _), Nat.sub_self, hts_get (Nat.le_refl _), hAt_ge (Nat.le_refl _)]
      rfl
    · rw [List.getElem?_eq_none (by rw [List.length_append]; show h.length + 1 ≤ c; omega), List.getElem?_eq_none (by rw [hts_len]; omega)]
def cnt (cols : List Nat) (c : Nat) : Nat := (cols.filter fun d => d == c).length
theorem cnt_snoc (cols : List Nat) (d c : Nat) : cnt (cols ++ [d]) c = cnt cols c + b2n (d == c) := by
  unfold cnt
  rw [List.filter_append, List.length_append]
  cases q : (d == c) with
  | true =>
    rw [List.filter_cons, if_pos q]
    rfl
  | false =>
    rw [List.filter_cons, if_neg (by rw [q]; decide)]
    rfl
theorem hts_set {h : List Nat} {cols : List Nat} {d : Nat} (hd : d ≤ h.length) : (hts h (cnt cols)).set d (hAt h d + cnt cols d + 1) = hts h (cnt (cols ++ [d])) := by
  refine List.ext_getElem? fun c => ?_
  rw [List.getElem?_set]
  by_cases e : d = c
  · subst e
    rw [if_pos rfl, if_pos (by rw [hts_len]; omega), hts_get hd, cnt_snoc]
    show some _ = some (hAt h d + (cnt cols d + b2n (d == d)))
    rw [beq_self_eq_true]
    rfl
  · rw [if_neg e]
    by_cases q : c ≤ h.length
    · rw [hts_get q, hts_get q, cnt_snoc]
      have : (d == c) = false := by simpa using e
      rw [this]
      rfl
    · rw [List.getElem?_eq_none (by rw [hts_len]; omega), List.getElem?_eq_none (by rw [hts_len]; omega)]
theorem range_filter_cnt (n : Nat) (g : Nat → Bool) (c : Nat) : cnt ((List.range n).filter g) c = b2n (decide (c < n) && g c) := by
  induction n with
  | zero => rfl
  | succ n ih =>
    rw [List.range_succ, List.filter_append]
    have e : cnt ((List.range n).filter g ++ [n].filter g) c = cnt ((List.range n).filter g) c + cnt ([n].filter g) c := by
      unfold cnt
      rw [List.filter_append, List.length_append]
    rw [e, ih]
    by_cases q : g n = true
    · have : [n].filter g = [n] := by
        rw [List.filter_cons, if_pos q]
        rfl
      rw [this]
      unfold cnt
      by_cases z : n = c
      · subst z
        rw [List.filter_cons, if_pos (beq_self_eq_true n), decide_eq_false (Nat.lt_irrefl n), decide_eq_true (Nat.lt_succ_self n), q]
        rfl
      · rw [List.filter_cons, if_neg (show ¬ (n == c) = true by simpa using z)]
        have : decide (c < n) = decide (c < n + 1) := decide_eq_decide.mpr (by omega)
        rw [this]
        rfl
    · have : [n].filter g = [] := by
        rw [List.filter_cons, if_neg q]
        rfl
      rw [this]
      by_cases z : c = n
      · subst z
        have : g c = false := by simpa using q
        rw [this, Bool.and_false, Bool.and_false]
        rfl
      · have : decide (c < n) = decide (c < n + 1) := decide_eq_decide.mpr (by omega)
        rw [this]
        rfl
/-- what heaped makes of columns -/
theorem hts_filter {h : List Nat} (hp : ∀ c, c < h.length → 0 < hAt h c) {g : Nat → Bool} {f : Nat → Nat} (hf : ∀ c, c ≤ h.length → f c = b2n (g c)) : (hts h f).filter (fun x => decide (0 < x)) = grow h g := by
  unfold hts grow
  rw [List.range_succ, List.map_append, List.filter_append]
  have e1 : ((List.range h.length).map fun c => hAt h c + f c).filter (fun x => decide (0 < x)) = (List.range h.length).map fun c => hAt h c + b2n (g c) := by
    have e : ((List.range h.length).map fun c => hAt h c + f c) = (List.range h.length).map fun c => hAt h c + b2n (g c) := by
      refine List.map_congr_left fun c hc => ?_
      rw [hf c (Nat.le_of_lt (List.mem_range.mp hc))]
    rw [e]
    refine List.filter_eq_self.mpr fun x hx => ?_
    obtain ⟨c, hc, rfl⟩ := List.mem_map.mp hx
    have := hp c (List.mem_range.mp hc)
    exact decide_eq_true (by omega)
  rw [e1]
  congr 1
  show [hAt h h.length + f h.length].filter _ = _
  rw [hAt_ge (Nat.le_refl _), hf _ (Nat.le_refl _)]
  unfold b2n
  by_cases q : g h.length = true
  · rw [if_pos q, if_pos q]
    rfl
  · rw [if_neg q, if_neg q]
    rfl
/-- the diagonal of the square on top -/
def dg (h : List Nat) (c : Nat) : Int := (c : Int) - (hAt h c : Int)
theorem dg_lt {h : List Nat} (H : IsHeap h) {c d : Nat} (hcd : c < d) : dg h c < dg h d := by
  unfold dg
  have := H.le (Nat.le_of_lt hcd)
  omega
theorem dg_inj {h : List Nat} (H : IsHeap h) {c d : Nat} (e : dg h c = dg h d) : c = d := by
  rcases Nat.lt_trichotomy c d with q | q | q
  · have := dg_lt H q
    omega
  · exact q
  · have := dg_lt H q
    omega
theorem dg_two {h : List Nat} (H : IsHeap h) {c d : Nat} (hcd : c < d) (o : opn h d = true) : dg h c + 2 ≤ dg h d := by
  obtain ⟨e, rfl⟩ : ∃ e, d = e + 1 := ⟨d - 1, by omega⟩
  have a := opn_lt o
  have b := H.le (show c ≤ e by omega)
  unfold dg
  omega
def oc (h : List Nat) : List Nat := (List.range (h.length + 1)).filter (opn h)
theorem oc_mem {h : List Nat} {c : Nat} : c ∈ oc h ↔ opn h c = true := by
  unfold oc
  rw [List.mem_filter, List.mem_range]
  exact ⟨fun z => z.2, fun z => ⟨Nat.lt_succ_of_le (opn_le z), z⟩⟩
end HM

/-! own rules: xs[i] op= e of a list; range(n) as a value, walked later -/
namespace LX
open PySem PySem.Spec PyProof.Rows L2
section
variable {X : Cx}
/-- xs[i] by values, 0 ≤ i -/
def rGetL (K : PySem.W.Frag) : V → V → Hp → VK → Prop := fun o i H Q => ∃ (a : Addr) (ys : List V) (j : Nat) (v : V), o = .ref a ∧ i = .int (j : Int) ∧ SqL K H a ys ∧ ys[j]? = some v ∧ Q v H
theorem get_list : PGet X (rGetL X.K) := by
  intro pins s σ H o i ov iv Q I ro ri h
  obtain ⟨a, ys, j, v, rfl, rfl, hq, hv, q⟩ := h
  cases ro
  obtain ⟨t, rfl⟩ := ri
  obtain ⟨its, r, pl, hz⟩ := I.list hq
  obtain ⟨u, hu, ru⟩ := r.get hv
  have hn := line63
  have hj := (List.getElem?_eq_some_iff.mp hu).1
  have hl := r.length
  exact wpAny_getItem_list pl.isList (by omega) (by omega) (by simpa using hu) ⟨v, H, I, ru, q⟩
/-- range(n), a new range object -/
theorem cr_range1 : CallR X (.type "range") (fun vs H Q => ∃ j, vs = [V.int j] ∧ ∀ p, H p = none → Q (.ref p) (upd H p (.rng 0 j))) := by
  intro pins s σ H vs us Q I r h
  obtain ⟨j, rfl, q⟩ := h
  obtain ⟨u1, rfl, rj⟩ := vals1 r
  obtain ⟨t, rfl⟩ := rj
  have nw : ObjOk X.prog X.w (upd H s.heap.objs.size (.rng 0 j)) (s.heap.push { cls := .type "range", data := .fields #[.int 0 s.toks, .int j t, .int 1 (s.toks + 1)] }) s.heap.objs.size (.rng 0 j) := ⟨s.toks, t, s.toks + 1, Heap.get?_push_size _ rfl⟩
  exact call_range_1 ⟨.ref s.heap.objs.size, _, I.laid (t' := s.toks + 1 + 1) (fun b o e => Heap.get?_push_of_some _ e) (Nat.le_refl _) nw, rfl, q _ (I.hok.fresh (Nat.le_refl _))⟩
/-- a range object that stands, walked -/
def iRngV (te : TE) : TI := fun σ H R => te σ H fun x H1 => ∃ (p : Addr) (lo hi : Int), x = .ref p ∧ H1 p = some (.rng lo hi) ∧ (-(2 ^ 62) ≤ lo ∧ lo < 2 ^ 62 ∧ -(2 ^ 62) ≤ hi ∧ hi < 2 ^ 62) ∧ R (Itr lo (hi - lo).toNat) H1
theorem pi_rngV {tg e : Expr} {te : TE} (he : PE X e te) : PI X tg e (iRngV te) := by
  refine ⟨fun pins s σ H R I h => ?_⟩
  refine thn (he.run pins s σ H _ I h) fun u s1 ⟨x, H1, I1, r1, p, lo, hi, ex, hp, ⟨b1, b2, b3, b4⟩, q⟩ => ?_
  subst ex
  obtain rfl : u = Value.ref p := r1
  obtain ⟨t, u, v, g⟩ := (show ObjOk X.prog X.w H1 s1.heap p (.rng lo hi) from I1.hok p _ hp)
  refine wpAny_pyIter_range (s := s1) g (small_one b1 b2 b3 b4) ?_
  refine ⟨s1.heap.objs.size, [s1.heap.objs.size], _, _, H1, rfl, I1.kept (t' := s1.toks) fun b o e => Heap.get?_push_of_some _ e, turn_range _ lo (hi - lo).toNat, ?_, fun b hb => ?_, q⟩
  · have e1 : lo + ((0 : Nat) : Int) * 1 = lo := by simp
    have e2 : (((hi - lo).toNat : Nat) : Int) - ((0 : Nat) : Int) = Builtin.Range.rangeSize lo hi 1 := by
      rw [rangeSize_one]
      split <;> omega
    show IsRangeIter _ _ (lo + ((0 : Nat) : Int) * 1) ((((hi - lo).toNat : Nat) : Int) - ((0 : Nat) : Int)) 1
    rw [e1, e2]
    exact Heap.get?_push_size _ rfl
  · obtain rfl : b = s1.heap.objs.size := by simpa using hb
    exact I1.fpOk (Nat.le_refl _) (I1.hok.fresh (Nat.le_refl _))
end
end LX

namespace K1
open PySem PySem.Spec PyProof.Rows L2 Evl HM LX
/-! ### heaps -/
def hv (h : List Nat) : List V := h.map fun (n : Nat) => V.int (n : Int)
theorem hv_len (h : List Nat) : (hv h).length = h.length := List.length_map ..
theorem hv_get {h : List Nat} {c : Nat} (hc : c < h.length) : (hv h)[c]? = some (V.int (hAt h c : Int)) := by
  unfold hv
  rw [List.getElem?_map, hAt_lt hc]
  rfl
def HeapAt (H : Hp) (p : Addr) (h : List Nat) : Prop := H p = some (.tup (hv h))
/-- a heap that the package takes -/
structure Good (h : List Nat) : Prop where
  heap : IsHeap h
  len : h.length ≤ 60
  top : hAt h 0 ≤ 60
theorem Good.all {h : List Nat} (G : Good h) (c : Nat) : hAt h c ≤ 60 := Nat.le_trans (G.heap.le (Nat.zero_le c)) G.top
section
variable {P : Program} {w : World} {K : PySem.W.Frag} {mg : Str → Option Value} {base : Heap}
def spCheckBetween (K : PySem.W.Frag) : Sp := fun vs H Q _ => ∃ i lo hi : Int, vs = [.int i, .int lo, .int hi] ∧ lo ≤ i ∧ i ≤ hi ∧ -(10 ^ 60) < i ∧ i < 10 ^ 60 ∧ ∀ H', Ex H H' → Q .non H'
theorem ok_check_between (T : Txt K mg) {f : Addr} {fd : FuncData} (D : DefAt K mg "check_between" sCheckBetween ["value", "low", "high"] f fd) : FnOk P w K mg base CX0 3 f fd ["value", "low", "high"] (spCheckBetween K) := by
  refine D.F.ok scCheckBetween (fun vs H Q E h => ?_) (fun cdv A outer s H vs Q E hr h => ?_)
  · obtain ⟨i, lo, hi, rfl, _⟩ := h
    rfl
  · obtain ⟨i, lo, hi, rfl, h1, h2, h3, h4, q⟩ := h
    obtain ⟨f1, fd1, D1⟩ := T.d_is_between
    refine ⟨_, pss_one (ps_if (pt_not (pt_val (pe_call (ok_is_between T D1) hr (by rfl) D1.g D1.F.kp D1.b .nil pass0 (pa_cons (pv 0) (pa_cons (pv 1) (pa_cons (pv 2) pa_nil)))))) pss_never pss_nil), ?_⟩
    exact ⟨_, rfl, _, rfl, _, rfl, _, lo, hi, true, rfl, .yes h1 h2 h3 h4, fun H1 e1 => ⟨true, rfl, iteF (q _ e1)⟩⟩
def spIsHeap (K : PySem.W.Frag) : Sp := fun vs H Q _ => ∃ p h, vs = [.ref p] ∧ HeapAt H p h ∧ Good h ∧ ∀ H', Ex H H' → Q (.bl true) H'
theorem ok_is_heap (T : Txt K mg) {f : Addr} {fd : FuncData} (D : DefAt K mg "is_heap" sIsHeap ["value"] f fd) : FnOk P w K mg base CX0 3 f fd ["value"] (spIsHeap K) := by
  refine D.F.ok scIsHeap (fun vs H Q E h => ?_) (fun cdv A outer s H vs Q E hr h => ?_)
  · obtain ⟨p, h, rfl, _⟩ := h
    rfl
  · obtain ⟨p, h, rfl, hp, G, q⟩ := h
    obtain ⟨f1, fd1, D1⟩ := T.d_is_between
    obtain ⟨tM, vM⟩ := T.v_SIDE
    refine ⟨_, pss_cons (ps_if (PW.pt (pw_or (pt_not (pt_val (pe_callB call_isi (by rfl) T.z_isinstance (by decide +kernel) (pa_cons (pv 0) (pa_cons (pe_bltn (v := .ty "tuple") (by rfl) T.z_tuple (by decide +kernel) rfl) pa_nil)))))
        (pw_or1 (pt_cmpR op_gt (pe_callB call_len (by rfl) T.z_len PySem.boot_len (pa_cons (pv 0) pa_nil)) (pe_glob (v := .int 60) rfl vM ⟨_, rfl⟩) (nomark _))))) (pss_one (ps_ret pe_bl)) pss_nil)
      (pss_cons (ps_set (i := 1) scIsHeap.nd rfl (.inl rfl) (pe_glob (v := .int 60) rfl vM ⟨_, rfl⟩))
      (pss_cons (ps_for PassesOwn.never rfl (pi_tup (pv 0)) (pg_name (i := 2) scIsHeap.nd rfl (.inl rfl))
        (pss_cons (ps_if (pt_not (pt_val (pe_call (ok_is_between T D1) hr (by rfl) D1.g D1.F.kp D1.b .nil pass0 (pa_cons (pv 2) (pa_cons pe_int (pa_cons (pv 1) pa_nil)))))) (pss_one (ps_ret pe_bl)) pss_nil)
        (pss_one (ps_set (i := 1) scIsHeap.nd rfl (.inl rfl) (pv 2)))))
      (pss_one (ps_ret pe_bl)))), ?_⟩
    refine ⟨_, rfl, .ref p, .ty "tuple", .type "tuple", .type "tuple", true, rfl, .ty _, .base (.tup hp), kit_ty (by decide +kernel), true, rfl, iteF ?_⟩
    refine ⟨_, rfl, _, (hv h).length, rfl, .inr ⟨_, SqT.of hp, rfl⟩, _, _, rfl, rfl, _, rfl, ?_⟩
    rw [hv_len, decide_eq_false (show ¬ (60 : Int) < (h.length : Int) by have := G.len; omega)]
    refine iteF ?_
    refine ⟨_, rfl, p, rfl, ⟨_, SqT.of hp⟩, for_tup (K := K) (a := p) (xs := hv h) (fun i σ' H' => ∃ (a : Nat) (y : Option V), σ' = [some (.ref p), some (.int (a : Int)), y] ∧ hAt h i ≤ a ∧ a ≤ 60 ∧ Ex H H') ⟨60, none, rfl, G.all 0, Nat.le_refl _, Ex.refl _⟩ (fun i σ' H' _ hW => ?_) (fun i x σ' H' hx hW => ?_) (fun σ' H' hW => ?_)⟩
    · obtain ⟨_, _, _, _, _, e⟩ := hW
      exact SqT.of (e _ _ hp)
    · obtain ⟨a, y, rfl, h1, h2, e⟩ := hW
      have hi : i < h.length := by
        have := (List.getElem?_eq_some_iff.mp hx).1
        rw [hv_len] at this
        exact this
      rw [hv_get hi] at hx
      obtain rfl := Option.some.inj hx
      have hp0 := G.heap.pos i hi
      refine ⟨_, rfl, _, rfl, _, 1, a, true, rfl, .yes (by omega) (by omega) (by omega) (by omega), fun H1 e1 => ⟨true, rfl, iteF ?_⟩⟩
      exact ⟨_, rfl, hAt h i, _, rfl, G.heap.fall i, by omega, e.trans e1⟩
    · obtain ⟨a, y, rfl, h1, h2, e⟩ := hW
      exact q _ e
def spCheckHeap (K : PySem.W.Frag) : Sp := fun vs H Q _ => ∃ p h, vs = [.ref p] ∧ HeapAt H p h ∧ Good h ∧ ∀ H', Ex H H' → Q .non H'
theorem ok_check_heap (T : Txt K mg) {f : Addr} {fd : FuncData} (D : DefAt K mg "check_heap" sCheckHeap ["heap"] f fd) : FnOk P w K mg base CX0 4 f fd ["heap"] (spCheckHeap K) := by
  refine D.F.ok scCheckHeap (fun vs H Q E h => ?_) (fun cdv A outer s H vs Q E hr h => ?_)
  · obtain ⟨p, h, rfl, _⟩ := h
    rfl
  · obtain ⟨p, h, rfl, hp, G, q⟩ := h
    obtain ⟨f1, fd1, D1⟩ := T.d_is_heap
    refine ⟨_, pss_one (ps_if (pt_not (pt_val (pe_call (ok_is_heap T D1) hr (by rfl) D1.g D1.F.kp D1.b .nil pass0 (pa_cons (pv 0) pa_nil)))) pss_never pss_nil), ?_⟩
    exact ⟨_, rfl, p, h, rfl, hp, G, fun H1 e1 => ⟨true, rfl, iteF (q _ e1)⟩⟩
theorem ok_check_side (T : Txt K mg) {f : Addr} {fd : FuncData} (D : DefAt K mg "check_side" sCheckSide ["heap"] f fd) : FnOk P w K mg base CX0 4 f fd ["heap"] (spCheckHeap K) := by
  refine D.F.ok scCheckSide (fun vs H Q E h => ?_) (fun cdv A outer s H vs Q E hr h => ?_)
  · obtain ⟨p, h, rfl, _⟩ := h
    rfl
  · obtain ⟨p, h, rfl, hp, G, q⟩ := h
    obtain ⟨f1, fd1, D1⟩ := T.d_is_heap
    refine ⟨_, pss_one (ps_if (pt_not (pt_val (pe_call (ok_is_heap T D1) hr (by rfl) D1.g D1.F.kp D1.b .nil pass0 (pa_cons (pv 0) pa_nil)))) pss_never pss_nil), ?_⟩
    exact ⟨_, rfl, p, h, rfl, hp, G, fun H1 e1 => ⟨true, rfl, iteF (q _ e1)⟩⟩
def spHeightAt : Sp := fun vs H Q _ => ∃ p h, ∃ c : Nat, vs = [.ref p, .int (c : Int)] ∧ HeapAt H p h ∧ ∀ H', Ex H H' → Q (.int (hAt h c : Int)) H'
theorem ok_height_at (T : Txt K mg) {f : Addr} {fd : FuncData} (D : DefAt K mg "height_at" sHeightAt ["heap", "column"] f fd) : FnOk P w K mg base CX0 1 f fd ["heap", "column"] spHeightAt := by
  refine D.F.ok scHeightAt (fun vs H Q E h => ?_) (fun cdv A outer s H vs Q E hr h => ?_)
  · obtain ⟨p, h, c, rfl, _⟩ := h
    rfl
  · obtain ⟨p, h, c, rfl, hp, q⟩ := h
    refine ⟨_, pss_one (ps_ret (pe_ifExp (pt_cmpR op_lt (pv 1) (pe_callB call_len_seq (by rfl) T.z_len PySem.boot_len (pa_cons (pv 0) pa_nil)) (nomark _)) (pe_ix ix_tup (pv 0) (pv 1) (fun _ _ => rfl)) pe_int)), ?_⟩
    refine ⟨_, rfl, _, rfl, p, _, rfl, .inr (SqT.of hp), _, _, rfl, rfl, _, rfl, ite2 (fun cc => ?_) (fun cc => ?_)⟩
    · have hc : c < h.length := by
        have : (c : Int) < ((hv h).length : Int) := of_decide_eq_true cc
        rw [hv_len] at this
        omega
      exact ⟨_, rfl, _, rfl, p, _, _, _, rfl, rfl, SqT.of hp, atI_nat (hv_get hc), q _ (Ex.refl _)⟩
    · have hc : h.length ≤ c := by
        have : ¬ (c : Int) < ((hv h).length : Int) := fun z => cc (decide_eq_true z)
        rw [hv_len] at this
        omega
      have := hAt_ge hc
      have q2 := q _ (Ex.refl _)
      rw [this] at q2
      exact q2
/-- the list of columns -/
def spOpenColumns : Sp := fun vs H Q _ => ∃ p h, vs = [.ref p] ∧ HeapAt H p h ∧ h.length ≤ 100 ∧ ∀ a H', Ex H H' → H a = none → H' a = some (.lst (hv (oc h))) → Q (.ref a) H'
theorem oc_snoc (h : List Nat) (i : Nat) : ((List.range (i + 1)).filter (opn h)) = ((List.range i).filter (opn h)) ++ (if opn h i = true then [i] else []) := by
  rw [List.range_succ, List.filter_append]
  by_cases q : opn h i = true
  · rw [if_pos q, List.filter_cons, if_pos q]
    rfl
  · rw [if_neg q, List.filter_cons, if_neg q]
    rfl
theorem hv_snoc (l : List Nat) (c : Nat) : hv (l ++ [c]) = hv l ++ [V.int (c : Int)] := by
  unfold hv
  rw [List.map_append]
  rfl
theorem ok_open_columns (T : Txt K mg) {f : Addr} {fd : FuncData} (D : DefAt K mg "open_columns" sOpenColumns ["heap"] f fd) : FnOk P w K mg base CX0 2 f fd ["heap"] spOpenColumns := by
  refine D.F.ok scOpenColumns (fun vs H Q E h => ?_) (fun cdv A outer s H vs Q E hr h => ?_)
  · obtain ⟨p, h, rfl, _⟩ := h
    rfl
  · obtain ⟨p, h, rfl, hp, hl, q⟩ := h
    obtain ⟨f1, fd1, D1⟩ := T.d_height_at
    refine ⟨_, pss_cons (ps_set (i := 1) scOpenColumns.nd rfl (.inl rfl) (pe_callTy cr_range1 (by rfl) T.z_range (by decide +kernel) (pa_cons (pe_op op_add (pe_callB call_len_seq (by rfl) T.z_len PySem.boot_len (pa_cons (pv 0) pa_nil)) pe_int) pa_nil)))
      (pss_one (ps_ret (pe_lc (own := [("column", 2)]) (g := gName 2) rfl scOpenColumns.nd (pi_rngV (pv 1)) (blkOk_by (N := nOpenColumns) (sc := defScope sOpenColumns) (by decide +kernel)) (fun _ _ _ _ _ => pg_name (i := 2) scOpenColumns.nd rfl (Or.inl rfl))
        (fun _ _ _ _ _ => pts_one (PW.pt (pw_or (pt_cmpR op_eq (pv 2) pe_int (nomark _)) (pw_or1 (pt_cmpR op_gt (pe_ix (show IxR _ (rIxT K) from ix_tup) (pv 0) (pe_op op_sub (pv 2) pe_int) (fun _ _ => rfl)) (pe_call (ok_height_at T D1) hr (by rfl) D1.g D1.F.kp D1.b .nil pass0 (pa_cons (pv 0) (pa_cons (pv 2) pa_nil))) (nomark _))))))
        (fun _ _ _ _ _ => pv 2)))), ?_⟩
    refine ⟨_, rfl, p, _, rfl, .inr (SqT.of hp), _, _, rfl, rfl, _, rfl, fun r hr0 => ?_⟩
    have e1 := Ex.new (o := .rng 0 (((hv h).length : Int) + 1)) hr0
    have hr1 : (upd H r (.rng 0 (((hv h).length : Int) + 1))) r = some (.rng 0 (((hv h).length : Int) + 1)) := upd_same
    generalize hG : upd H r (.rng 0 (((hv h).length : Int) + 1)) = H1 at *
    have hp1 : HeapAt H1 p h := e1 _ _ hp
    refine ⟨.ref r, rfl, r, 0, _, rfl, hr1, ⟨by decide, by decide, by rw [hv_len]; omega, by rw [hv_len]; omega⟩, fun Dl hD => ?_⟩
    refine lc_range (lo := 0) (n := (((hv h).length : Int) + 1 - 0).toNat) (fun i H' => H' Dl = some (.lst (hv ((List.range i).filter (opn h)))) ∧ Ex H1 H') ⟨upd_same, Ex.new hD⟩ (fun i H' hi hW => ?_) (fun H' hW => ?_)
    · obtain ⟨w1, w2⟩ := hW
      rw [hv_len] at hi
      have hi' : i ≤ h.length := by omega
      have hp2 := w2 _ _ hp1
      have ll : (hv ((List.range i).filter (opn h))).length < sizeLine := by
        rw [hv_len]
        have := List.length_filter_le (opn h) (List.range i)
        rw [List.length_range] at this
        exact small1000 (by omega)
      have fin : ∀ H3, Ex H' H3 → opn h i = true → ∃ acc, H3 Dl = some (.lst acc) ∧ acc.length < sizeLine ∧ (upd H3 Dl (.lst (acc ++ [V.int (0 + (i : Int))]))) Dl = some (.lst (hv ((List.range (i + 1)).filter (opn h)))) ∧ Ex H1 (upd H3 Dl (.lst (acc ++ [V.int (0 + (i : Int))]))) := fun H3 e3 o => by
        refine ⟨_, e3 _ _ w1, ll, ?_, Ex.mut (w2.trans e3) hD⟩
        rw [upd_same, oc_snoc, if_pos o, hv_snoc, Int.zero_add]
      refine ⟨rfl, _, rfl, rfl, _, rfl, ite2 (fun c => ?_) (fun c => ?_)⟩
      · have c2 : i = 0 := by
          have := V.int.inj (of_decide_eq_true c)
          omega
        have o : opn h i = true := by
          unfold opn
          rw [decide_eq_true c2, Bool.true_or]
        exact ⟨_, rfl, fin H' (Ex.refl _) o⟩
      · have c2 : i ≠ 0 := fun z => c (by subst z; rfl)
        have hx : (hv h)[i - 1]? = some (V.int (hAt h (i - 1) : Int)) := hv_get (by omega)
        refine ⟨_, rfl, _, rfl, _, _, rfl, rfl, p, _, _, _, rfl, rfl, SqT.of hp2, at_of (show (0 + (i : Int)) - 1 = ((i - 1 : Nat) : Int) by omega) hx, _, rfl, _, rfl, p, h, i, by rw [Int.zero_add]; rfl, hp2, fun H3 e3 => ⟨_, _, rfl, rfl, _, rfl, ite2 (fun cc => ?_) (fun cc => ?_)⟩⟩
        · have o : opn h i = true := by
            unfold opn
            have := of_decide_eq_true cc
            rw [decide_eq_true (show hAt h i < hAt h (i - 1) by omega), Bool.or_true]
          exact ⟨_, rfl, fin H3 e3 o⟩
        · have o : ¬ opn h i = true := fun z => by
            unfold opn at z
            rw [decide_eq_false c2, Bool.false_or] at z
            have := of_decide_eq_true z
            exact cc (decide_eq_true (by omega))
          refine ⟨?_, w2.trans e3⟩
          rw [oc_snoc, if_neg o, List.append_nil]
          exact e3 _ _ w1
    · obtain ⟨w1, w2⟩ := hW
      have e : (((hv h).length : Int) + 1 - 0).toNat = h.length + 1 := by
        rw [hv_len]
        omega
      rw [e] at w1
      exact q Dl H' (e1.trans w2) (fresh_back e1 hD) w1
end
end K1

namespace K1
open PySem PySem.Spec PyProof.Rows L2 Evl HM LX
theorem hv_set {l : List Nat} {d x : Nat} : (hv l).set d (V.int (x : Int)) = hv (l.set d x) := by
  unfold hv
  rw [List.map_set]
theorem hv_at {l : List Nat} {i x : Nat} (h : l[i]? = some x) : (hv l)[i]? = some (V.int (x : Int)) := by
  unfold hv
  rw [List.getElem?_map, h]
  rfl
theorem hv_inv {l : List Nat} {i : Nat} {v : V} (h : (hv l)[i]? = some v) : ∃ x, l[i]? = some x ∧ v = V.int (x : Int) := by
  unfold hv at h
  rw [List.getElem?_map] at h
  cases e : l[i]? with
  | none =>
    rw [e] at h
    cases h
  | some x =>
    rw [e] at h
    exact ⟨x, rfl, (Option.some.inj h).symm⟩
theorem take_filter_snoc {α : Type} {l : List α} {i : Nat} {x : α} (g : α → Bool) (h : l[i]? = some x) : (l.take (i + 1)).filter g = (l.take i).filter g ++ (if g x = true then [x] else []) := by
  rw [List.take_add_one, h, List.filter_append]
  show _ ++ [x].filter g = _
  by_cases q : g x = true
  · rw [if_pos q, List.filter_cons, if_pos q]
    rfl
  · rw [if_neg q, List.filter_cons, if_neg q]
    rfl
section
variable {P : Program} {w : World} {K : PySem.W.Frag} {mg : Str → Option Value} {base : Heap}
def spHeaped : Sp := fun vs H Q _ => ∃ p a h cols, vs = [.ref p, .ref a] ∧ HeapAt H p h ∧ H a = some (.lst (hv cols)) ∧ h.length ≤ 100 ∧ (∀ c ∈ cols, c ≤ h.length) ∧
  ∀ r H', Ex H H' → HeapAt H' r ((hts h (cnt cols)).filter fun x => decide (0 < x)) → Q (.ref r) H'
theorem ok_heaped (T : Txt K mg) {f : Addr} {fd : FuncData} (D : DefAt K mg "heaped" sHeaped ["heap", "columns"] f fd) : FnOk P w K mg base CX0 1 f fd ["heap", "columns"] spHeaped := by
  refine D.F.ok scHeaped (fun vs H Q E h => ?_) (fun cdv A outer s H vs Q E hr h => ?_)
  · obtain ⟨p, a, h, cols, rfl, _⟩ := h
    rfl
  · obtain ⟨p, a, h, cols, rfl, hp, ha, hl, hc, q⟩ := h
    refine ⟨_, pss_cons (ps_set (i := 2) scHeaped.nd rfl (.inl rfl) (pe_op op_cat (pe_callTy call_list_of (by rfl) T.z_list (by decide +kernel) (pa_cons (pv 0) pa_nil)) (pe_lst (pa_cons pe_int pa_nil))))
      (pss_cons (ps_for PassesOwn.never rfl (pi_list (pv 1)) (pg_name (i := 3) scHeaped.nd rfl (.inl rfl)) (pss_one (ps_augS (pv 2) (pv 3) get_list pe_int ip_add set_list)))
      (pss_one (ps_ret (pe_callTy call_tuple_of (by rfl) T.z_tuple (by decide +kernel) (pa_cons (pe_lc (own := [("height", 4)]) (g := gName 4) rfl scHeaped.nd (pi_list (pv 2)) (blkOk_by (N := nHeaped) (sc := defScope sHeaped) (by decide +kernel)) (fun _ _ _ _ _ => pg_name (i := 4) scHeaped.nd rfl (Or.inl rfl))
        (fun _ _ _ _ _ => pts_one (pt_cmpR op_gt (pv 4) pe_int (nomark _))) (fun _ _ _ _ _ => pv 4)) pa_nil))))), ?_⟩
    refine ⟨_, rfl, p, hv h, rfl, .inr (SqT.of hp), fun l1 hl1 => ⟨by show 1 ≤ sizeLine; decide, fun l2 hl2 => ?_⟩⟩
    have e1 := Ex.new (o := .lst (hv h)) hl1
    have e2 := Ex.new (o := .lst [V.int 0]) hl2
    refine ⟨l1, l2, hv h, [V.int 0], rfl, rfl, e2 _ _ upd_same, upd_same, ?_, fun l3 hl3 => ?_⟩
    · rw [hv_len]
      exact sz_of (by show h.length + 1 ≤ _; omega)
    have e03 : Ex H (upd (upd (upd H l1 (.lst (hv h))) l2 (.lst [V.int 0])) l3 (.lst (hv h ++ [V.int 0]))) := (e1.trans e2).trans (Ex.new hl3)
    have n3 : H l3 = none := fresh_back (e1.trans e2) hl3
    have g3 : (upd (upd (upd H l1 (.lst (hv h))) l2 (.lst [V.int 0])) l3 (.lst (hv h ++ [V.int 0]))) l3 = some (.lst (hv (hts h (cnt [])))) := by
      rw [upd_same, show hts h (cnt []) = h ++ [0] from (hts_zero h).symm, hv_snoc]
      rfl
    generalize upd (upd (upd H l1 (.lst (hv h))) l2 (.lst [V.int 0])) l3 (.lst (hv h ++ [V.int 0])) = H3 at *
    refine ⟨.ref a, rfl, a, rfl, ⟨_, SqL.of (e03 _ _ ha)⟩, for_list (K := K) (a := a) (xs := hv cols) (fun i σ' H' => ∃ y, σ' = [some (.ref p), some (.ref a), some (.ref l3), y, none] ∧ H' l3 = some (.lst (hv (hts h (cnt (cols.take i))))) ∧ Ex H H') ⟨none, rfl, g3, e03⟩ (fun i σ' H' _ hW => ?_) (fun i x σ' H' hx hW => ?_) (fun σ' H' hW => ?_)⟩
    · obtain ⟨_, _, _, e⟩ := hW
      exact SqL.of (e _ _ ha)
    · obtain ⟨y, rfl, w1, w2⟩ := hW
      obtain ⟨c, hcx, rfl⟩ := hv_inv hx
      have hcl : c ≤ h.length := hc c (List.mem_of_getElem? hcx)
      have gt : (hts h (cnt (cols.take i)))[c]? = some (hAt h c + cnt (cols.take i) c) := hts_get hcl
      refine ⟨_, rfl, _, rfl, l3, _, c, _, rfl, rfl, SqL.of w1, hv_at gt, _, _, rfl, rfl, l3, _, _, c, rfl, rfl, w1, ?_, ?_⟩
      · refine ixN_nat ?_
        rw [hv_len, hts_len]
        omega
      · refine ⟨_, rfl, ?_, Ex.mut w2 n3⟩
        rw [upd_same]
        dsimp only
        rw [show ((hAt h c + cnt (cols.take i) c : Nat) : Int) + 1 = ((hAt h c + cnt (cols.take i) c + 1 : Nat) : Int) by omega, hv_set, hts_set hcl, List.take_add_one, hcx]
        rfl
    · obtain ⟨y, rfl, w1, w2⟩ := hW
      rw [hv_len, List.take_length] at w1
      refine ⟨.ref l3, rfl, l3, rfl, ⟨_, SqL.of w1⟩, fun Dl hD => ?_⟩
      refine lc_list (K := K) (a := l3) (xs := hv (hts h (cnt cols))) (fun i H2 => H2 Dl = some (.lst (hv (((hts h (cnt cols)).take i).filter fun x => decide (0 < x)))) ∧ Ex H' H2) ⟨upd_same, Ex.new hD⟩ (fun i H2 _ hp2 => SqL.of (hp2.2 _ _ w1)) (fun i x H2 hx hp2 => ?_) (fun H2 hp2 => ?_)
      · obtain ⟨v1, v2⟩ := hp2
        obtain ⟨c, hcx, rfl⟩ := hv_inv hx
        refine ⟨rfl, _, rfl, _, _, rfl, rfl, _, rfl, ite2 (fun cc => ?_) (fun cc => ?_)⟩
        · have c0 : 0 < c := by
            have := of_decide_eq_true cc
            omega
          refine ⟨_, rfl, _, v1, ?_, ?_, Ex.mut v2 hD⟩
          · rw [hv_len]
            have a1 := List.length_filter_le (fun x => decide (0 < x)) ((hts h (cnt cols)).take i)
            have a2 : ((hts h (cnt cols)).take i).length ≤ (hts h (cnt cols)).length := by
              rw [List.length_take]
              exact Nat.min_le_right _ _
            rw [hts_len] at a2
            exact small1000 (by omega)
          · rw [upd_same, take_filter_snoc _ hcx, if_pos (decide_eq_true c0), hv_snoc]
        · have c0 : ¬ 0 < c := fun z => cc (decide_eq_true (by omega))
          refine ⟨?_, v2⟩
          rw [take_filter_snoc _ hcx, if_neg (by rw [decide_eq_false c0]; decide), List.append_nil]
          exact v1
      · obtain ⟨v1, v2⟩ := hp2
        rw [hv_len, List.take_length] at v1
        exact ⟨Dl, _, rfl, .inl ⟨SqL.of v1, fun r hr => q r _ ((w2.trans v2).trans (Ex.new hr)) upd_same⟩⟩
/-- which columns a ring with a place adds to -/
def gl (h : List Nat) (n s q : Int) (c : Nat) : Bool := opn h c && decide ((dg h c * s - q) % n = 0)
theorem gl_opn {h : List Nat} {n s q : Int} (c : Nat) (z : gl h n s q c = true) : opn h c = true := by
  unfold gl at z
  exact (Bool.and_eq_true_iff.mp z).1
def spGrownBy : Sp := fun vs H Q _ => ∃ p h x n s q, vs = [.ref p, x, .int q] ∧ HeapAt H p h ∧ IsHeap h ∧ h.length ≤ 100 ∧ RingAt H 60 x n s ∧ ∀ r H', Ex H H' → HeapAt H' r (grow h (gl h n s q)) → Q (.ref r) H'
theorem ok_grown_by (T : Txt K mg) {f : Addr} {fd : FuncData} (D : DefAt K mg "grown_by" sGrownBy ["heap", "ring", "place"] f fd) : FnOk P w K mg base CX0 3 f fd ["heap", "ring", "place"] spGrownBy := by
  refine D.F.ok scGrownBy (fun vs H Q E h => ?_) (fun cdv A outer s₀ H vs Q E hr h => ?_)
  · obtain ⟨p, h, x, n, s, q, rfl, _⟩ := h
    rfl
  · obtain ⟨p, h, x, n, s, q, rfl, hp, IH, hl, hx, k⟩ := h
    obtain ⟨f1, fd1, D1⟩ := T.d_open_columns
    obtain ⟨f2, fd2, D2⟩ := T.d_heaped
    obtain ⟨f3, fd3, D3⟩ := T.d_lets
    obtain ⟨f4, fd4, D4⟩ := T.d_height_at
    have hr1 : Room 1 _ := hr.mono (by decide)
    refine ⟨_, pss_cons (ps_set (i := 3) scGrownBy.nd rfl (.inl rfl) (pe_call (ok_open_columns T D1) hr (by rfl) D1.g D1.F.kp D1.b .nil pass0 (pa_cons (pv 0) pa_nil)))
      (pss_one (ps_ret (pe_call (ok_heaped T D2) hr1 (by rfl) D2.g D2.F.kp D2.b .nil pass0 (pa_cons (pv 0) (pa_cons (pe_lc (own := [("column", 4)]) (g := gName 4) rfl scGrownBy.nd (pi_list (pv 3)) (blkOk_by (N := nGrownBy) (sc := defScope sGrownBy) (by decide +kernel)) (fun _ _ _ _ _ => pg_name (i := 4) scGrownBy.nd rfl (Or.inl rfl))
        (fun _ _ _ _ _ => pts_one (pt_val (pe_call (ok_lets T D3) hr1 (by rfl) D3.g D3.F.kp D3.b .nil pass0 (pa_cons (pv 1) (pa_cons (pv 2) (pa_cons (pe_op op_sub (pv 4) (pe_call (ok_height_at T D4) hr1 (by rfl) D4.g D4.F.kp D4.b .nil pass0 (pa_cons (pv 0) (pa_cons (pv 4) pa_nil)))) pa_nil))))))
        (fun _ _ _ _ _ => pv 4)) pa_nil))))), ?_⟩
    refine ⟨_, rfl, p, h, rfl, hp, hl, fun a H1 e1 ha0 ha => ?_⟩
    have hp1 : HeapAt H1 p h := e1 _ _ hp
    have hx1 := hx.ex e1
    let lt : Nat → Bool := fun c => decide ((dg h c * s - q) % n = 0)
    refine ⟨_, rfl, .ref a, rfl, a, rfl, ⟨_, SqL.of ha⟩, fun Dl hD => ?_⟩
    refine lc_list (K := K) (a := a) (xs := hv (oc h)) (fun i H2 => H2 Dl = some (.lst (hv (((oc h).take i).filter lt))) ∧ Ex H1 H2) ⟨upd_same, Ex.new hD⟩ (fun i H2 _ hp2 => SqL.of (hp2.2 _ _ ha)) (fun i x H2 hx2 hp2 => ?_) (fun H2 hp2 => ?_)
    · obtain ⟨v1, v2⟩ := hp2
      obtain ⟨c, hcx, rfl⟩ := hv_inv hx2
      have ol : (oc h).length ≤ 101 := by
        unfold oc
        have := List.length_filter_le (opn h) (List.range (h.length + 1))
        rw [List.length_range] at this
        omega
      refine ⟨rfl, _, rfl, _, rfl, _, rfl, _, rfl, _, rfl, p, h, c, rfl, v2 _ _ hp1, fun H3 e3 => ⟨_, _, rfl, rfl, _, n, s, q, dg h c, rfl, (hx1.ex v2).ex e3, fun H4 e4 => ⟨_, rfl, ite2 (fun cc => ?_) (fun cc => ?_)⟩⟩⟩
      · refine ⟨_, rfl, _, e4 _ _ (e3 _ _ v1), ?_, ?_, Ex.mut ((v2.trans e3).trans e4) hD⟩
        · rw [hv_len]
          have a1 := List.length_filter_le lt ((oc h).take i)
          have a2 : ((oc h).take i).length ≤ (oc h).length := by
            rw [List.length_take]
            exact Nat.min_le_right _ _
          exact small1000 (by omega)
        · rw [upd_same, take_filter_snoc lt hcx, if_pos (show lt c = true from cc), hv_snoc]
      · refine ⟨?_, (v2.trans e3).trans e4⟩
        rw [take_filter_snoc lt hcx, if_neg (show ¬ lt c = true from cc), List.append_nil]
        exact e4 _ _ (e3 _ _ v1)
    · obtain ⟨v1, v2⟩ := hp2
      rw [hv_len, List.take_length] at v1
      have ef : (oc h).filter lt = (List.range (h.length + 1)).filter (gl h n s q) := by
        unfold oc
        rw [List.filter_filter]
        refine List.filter_congr fun c _ => ?_
        unfold gl
        rw [Bool.and_comm]
      refine ⟨p, Dl, h, (oc h).filter lt, rfl, v2 _ _ hp1, v1, hl, fun c hc => opn_le (oc_mem.mp (List.mem_filter.mp hc).1), fun r H3 e3 hrr => ?_⟩
      rw [ef, hts_filter IH.pos (g := gl h n s q) (fun c hc => by rw [range_filter_cnt, decide_eq_true (show c < h.length + 1 by omega), Bool.true_and])] at hrr
      exact k r H3 ((e1.trans v2).trans e3) hrr
end
end K1

/-! own walks: comprehensions and loops over zip and enumerate of tuples, zip of lists of any lengths -/
namespace ZW
open PySem PySem.Spec PyProof.Rows L2
theorem lc_zipT {K : PySem.W.Frag} {a b : Addr} {xs ys : List V} {n : Nat} {g : TG} {tt : TT} {te : TE} {vs : List Nat} {σ : L2.St} {H1 : Hp} {D : Addr} {Qd : Hp → Prop} (hx : n ≤ xs.length) (hy : n ≤ ys.length) (hn : xs.length ≤ n ∨ ys.length ≤ n)
    (Pv : Nat → Hp → Prop) (h0 : Pv 0 (upd H1 D (.lst []))) (hq : ∀ i H, Pv i H → SqT K H a xs ∧ SqT K H b ys)
    (hs : ∀ i x y T H, i < n → xs[i]? = some x → ys[i]? = some y → Pv i H → H T = none → g (.ref T) (wipe σ vs) (upd H T (.tup [x, y])) fun σ2 H2 => wipe σ2 vs = wipe σ vs ∧ tt σ2 H2 fun c H3 =>
      if c = true then te σ2 H3 fun z H4 => ∃ acc, H4 D = some (.lst acc) ∧ acc.length < sizeLine ∧ Pv (i + 1) (upd H4 D (.lst (acc ++ [z]))) else Pv (i + 1) H3) (hd : ∀ H, Pv n H → Qd H) :
    ∃ W : Nat → Nat → Hp → Prop, (∃ m, W 0 m (upd H1 D (.lst []))) ∧ ∀ i m H, W i m H →
      ((RZ.ItzT K a b).stop i H ∧ Qd H) ∨ ((RZ.ItzT K a b).go i H ∧ ∃ Nx : Hp → Prop, (∀ H', Nx H' → ∃ m', m' < m ∧ W (i + 1) m' H') ∧ ∀ v H', (RZ.ItzT K a b).yld i H v H' → g v (wipe σ vs) H' fun σ2 H2 => wipe σ2 vs = wipe σ vs ∧ tt σ2 H2 fun c H3 =>
        if c = true then te σ2 H3 fun z H4 => ∃ acc, H4 D = some (.lst acc) ∧ acc.length < sizeLine ∧ Nx (upd H4 D (.lst (acc ++ [z]))) else Nx H3) := by
  refine ⟨fun i m H => m = n - i ∧ i ≤ n ∧ Pv i H, ⟨n, (Nat.sub_zero n).symm, Nat.zero_le _, h0⟩, ?_⟩
  rintro i m H ⟨rfl, hi, p⟩
  obtain ⟨qa, qb⟩ := hq i H p
  by_cases hlt : i < n
  · have e1 : xs[i]? = some (xs[i]'(by omega)) := List.getElem?_eq_getElem _
    have e2 : ys[i]? = some (ys[i]'(by omega)) := List.getElem?_eq_getElem _
    refine .inr ⟨⟨xs, ys, _, _, qa, qb, e1, e2⟩, Pv (i + 1), fun H' p' => ⟨n - (i + 1), by omega, rfl, hlt, p'⟩, fun v H' hy' => ?_⟩
    obtain ⟨T, x, y, rfl, nT, rfl, fx, fy⟩ := hy'
    exact hs i x y T H hlt (fx _ qa) (fy _ qb) p nT
  · have e : i = n := by omega
    subst e
    exact .inl ⟨⟨xs, ys, qa, qb, by omega⟩, hd H p⟩
theorem for_zipT {K : PySem.W.Frag} {a b : Addr} {xs ys : List V} {n : Nat} {g : TG} {tb : TS} {D : Ends} {σ : L2.St} {H : Hp} (hx : n ≤ xs.length) (hy : n ≤ ys.length) (hn : xs.length ≤ n ∨ ys.length ≤ n)
    (Pv : Nat → L2.St → Hp → Prop) (h0 : Pv 0 σ H) (hq : ∀ i σ H, Pv i σ H → SqT K H a xs ∧ SqT K H b ys)
    (hs : ∀ i x y T σ H, i < n → xs[i]? = some x → ys[i]? = some y → Pv i σ H → H T = none → g (.ref T) σ (upd H T (.tup [x, y])) fun σ2 H2 => tb { D with nx := Pv (i + 1), ct := Pv (i + 1), bk := D.nx } σ2 H2) (hd : ∀ σ H, Pv n σ H → D.nx σ H) :
    ∃ W : Nat → Nat → L2.St → Hp → Prop, (∃ m, W 0 m σ H) ∧ ∀ i m σ H, W i m σ H →
      ((RZ.ItzT K a b).stop i H ∧ D.nx σ H) ∨ ((RZ.ItzT K a b).go i H ∧ ∃ N : L2.St → Hp → Prop, (∀ σ' H', N σ' H' → ∃ m', m' < m ∧ W (i + 1) m' σ' H') ∧ ∀ v H', (RZ.ItzT K a b).yld i H v H' → g v σ H' fun σ2 H2 => tb { D with nx := N, ct := N, bk := D.nx } σ2 H2) := by
  refine ⟨fun i m σ H => m = n - i ∧ i ≤ n ∧ Pv i σ H, ⟨n, (Nat.sub_zero n).symm, Nat.zero_le _, h0⟩, ?_⟩
  rintro i m σ H ⟨rfl, hi, p⟩
  obtain ⟨qa, qb⟩ := hq i σ H p
  by_cases hlt : i < n
  · have e1 : xs[i]? = some (xs[i]'(by omega)) := List.getElem?_eq_getElem _
    have e2 : ys[i]? = some (ys[i]'(by omega)) := List.getElem?_eq_getElem _
    refine .inr ⟨⟨xs, ys, _, _, qa, qb, e1, e2⟩, Pv (i + 1), fun σ' H' p' => ⟨n - (i + 1), by omega, rfl, hlt, p'⟩, fun v H' hy' => ?_⟩
    obtain ⟨T, x, y, rfl, nT, rfl, fx, fy⟩ := hy'
    exact hs i x y T σ H hlt (fx _ qa) (fy _ qb) p nT
  · have e : i = n := by omega
    subst e
    exact .inl ⟨⟨xs, ys, qa, qb, by omega⟩, hd σ H p⟩
theorem lc_zipL {K : PySem.W.Frag} {a b : Addr} {xs ys : List V} {n : Nat} {g : TG} {tt : TT} {te : TE} {vs : List Nat} {σ : L2.St} {H1 : Hp} {D : Addr} {Qd : Hp → Prop} (hx : n ≤ xs.length) (hy : n ≤ ys.length) (hn : xs.length ≤ n ∨ ys.length ≤ n)
    (Pv : Nat → Hp → Prop) (h0 : Pv 0 (upd H1 D (.lst []))) (hq : ∀ i H, Pv i H → SqL K H a xs ∧ SqL K H b ys)
    (hs : ∀ i x y T H, i < n → xs[i]? = some x → ys[i]? = some y → Pv i H → H T = none → g (.ref T) (wipe σ vs) (upd H T (.tup [x, y])) fun σ2 H2 => wipe σ2 vs = wipe σ vs ∧ tt σ2 H2 fun c H3 =>
      if c = true then te σ2 H3 fun z H4 => ∃ acc, H4 D = some (.lst acc) ∧ acc.length < sizeLine ∧ Pv (i + 1) (upd H4 D (.lst (acc ++ [z]))) else Pv (i + 1) H3) (hd : ∀ H, Pv n H → Qd H) :
    ∃ W : Nat → Nat → Hp → Prop, (∃ m, W 0 m (upd H1 D (.lst []))) ∧ ∀ i m H, W i m H →
      ((Itz K a b).stop i H ∧ Qd H) ∨ ((Itz K a b).go i H ∧ ∃ Nx : Hp → Prop, (∀ H', Nx H' → ∃ m', m' < m ∧ W (i + 1) m' H') ∧ ∀ v H', (Itz K a b).yld i H v H' → g v (wipe σ vs) H' fun σ2 H2 => wipe σ2 vs = wipe σ vs ∧ tt σ2 H2 fun c H3 =>
        if c = true then te σ2 H3 fun z H4 => ∃ acc, H4 D = some (.lst acc) ∧ acc.length < sizeLine ∧ Nx (upd H4 D (.lst (acc ++ [z]))) else Nx H3) := by
  refine ⟨fun i m H => m = n - i ∧ i ≤ n ∧ Pv i H, ⟨n, (Nat.sub_zero n).symm, Nat.zero_le _, h0⟩, ?_⟩
  rintro i m H ⟨rfl, hi, p⟩
  obtain ⟨qa, qb⟩ := hq i H p
  by_cases hlt : i < n
  · have e1 : xs[i]? = some (xs[i]'(by omega)) := List.getElem?_eq_getElem _
    have e2 : ys[i]? = some (ys[i]'(by omega)) := List.getElem?_eq_getElem _
    refine .inr ⟨⟨xs, ys, _, _, qa, qb, e1, e2⟩, Pv (i + 1), fun H' p' => ⟨n - (i + 1), by omega, rfl, hlt, p'⟩, fun v H' hy' => ?_⟩
    obtain ⟨T, x, y, rfl, nT, rfl, fx, fy⟩ := hy'
    exact hs i x y T H hlt (fx _ qa) (fy _ qb) p nT
  · have e : i = n := by omega
    subst e
    exact .inl ⟨⟨xs, ys, qa, qb, by omega⟩, hd H p⟩
theorem for_zipL {K : PySem.W.Frag} {a b : Addr} {xs ys : List V} {n : Nat} {g : TG} {tb : TS} {D : Ends} {σ : L2.St} {H : Hp} (hx : n ≤ xs.length) (hy : n ≤ ys.length) (hn : xs.length ≤ n ∨ ys.length ≤ n)
    (Pv : Nat → L2.St → Hp → Prop) (h0 : Pv 0 σ H) (hq : ∀ i σ H, Pv i σ H → SqL K H a xs ∧ SqL K H b ys)
    (hs : ∀ i x y T σ H, i < n → xs[i]? = some x → ys[i]? = some y → Pv i σ H → H T = none → g (.ref T) σ (upd H T (.tup [x, y])) fun σ2 H2 => tb { D with nx := Pv (i + 1), ct := Pv (i + 1), bk := D.nx } σ2 H2) (hd : ∀ σ H, Pv n σ H → D.nx σ H) :
    ∃ W : Nat → Nat → L2.St → Hp → Prop, (∃ m, W 0 m σ H) ∧ ∀ i m σ H, W i m σ H →
      ((Itz K a b).stop i H ∧ D.nx σ H) ∨ ((Itz K a b).go i H ∧ ∃ N : L2.St → Hp → Prop, (∀ σ' H', N σ' H' → ∃ m', m' < m ∧ W (i + 1) m' σ' H') ∧ ∀ v H', (Itz K a b).yld i H v H' → g v σ H' fun σ2 H2 => tb { D with nx := N, ct := N, bk := D.nx } σ2 H2) := by
  refine ⟨fun i m σ H => m = n - i ∧ i ≤ n ∧ Pv i σ H, ⟨n, (Nat.sub_zero n).symm, Nat.zero_le _, h0⟩, ?_⟩
  rintro i m σ H ⟨rfl, hi, p⟩
  obtain ⟨qa, qb⟩ := hq i σ H p
  by_cases hlt : i < n
  · have e1 : xs[i]? = some (xs[i]'(by omega)) := List.getElem?_eq_getElem _
    have e2 : ys[i]? = some (ys[i]'(by omega)) := List.getElem?_eq_getElem _
    refine .inr ⟨⟨xs, ys, _, _, qa, qb, e1, e2⟩, Pv (i + 1), fun σ' H' p' => ⟨n - (i + 1), by omega, rfl, hlt, p'⟩, fun v H' hy' => ?_⟩
    obtain ⟨T, x, y, rfl, nT, rfl, fx, fy⟩ := hy'
    exact hs i x y T σ H hlt (fx _ qa) (fy _ qb) p nT
  · have e : i = n := by omega
    subst e
    exact .inl ⟨⟨xs, ys, qa, qb, by omega⟩, hd σ H p⟩
theorem for_enumT {K : PySem.W.Frag} {a : Addr} {xs : List V} {g : TG} {tb : TS} {D : Ends} {σ : L2.St} {H : Hp} (Pv : Nat → L2.St → Hp → Prop) (h0 : Pv 0 σ H) (hq : ∀ i σ H, Pv i σ H → SqT K H a xs)
    (hs : ∀ i x T σ H, xs[i]? = some x → Pv i σ H → H T = none → g (.ref T) σ (upd H T (.tup [.int (i : Nat), x])) fun σ2 H2 => tb { D with nx := Pv (i + 1), ct := Pv (i + 1), bk := D.nx } σ2 H2) (hd : ∀ σ H, Pv xs.length σ H → D.nx σ H) :
    ∃ W : Nat → Nat → L2.St → Hp → Prop, (∃ m, W 0 m σ H) ∧ ∀ i m σ H, W i m σ H →
      ((EnT.IteT K a).stop i H ∧ D.nx σ H) ∨ ((EnT.IteT K a).go i H ∧ ∃ N : L2.St → Hp → Prop, (∀ σ' H', N σ' H' → ∃ m', m' < m ∧ W (i + 1) m' σ' H') ∧ ∀ v H', (EnT.IteT K a).yld i H v H' → g v σ H' fun σ2 H2 => tb { D with nx := N, ct := N, bk := D.nx } σ2 H2) := by
  refine ⟨fun i m σ H => m = xs.length - i ∧ i ≤ xs.length ∧ Pv i σ H, ⟨xs.length, (Nat.sub_zero _).symm, Nat.zero_le _, h0⟩, ?_⟩
  rintro i m σ H ⟨rfl, hi, p⟩
  have qa := hq i σ H p
  by_cases hlt : i < xs.length
  · have e1 : xs[i]? = some (xs[i]'hlt) := List.getElem?_eq_getElem _
    refine .inr ⟨⟨xs, _, qa, e1⟩, Pv (i + 1), fun σ' H' p' => ⟨xs.length - (i + 1), by omega, rfl, hlt, p'⟩, fun v H' hy' => ?_⟩
    obtain ⟨T, x, rfl, nT, rfl, fx⟩ := hy'
    exact hs i x T σ H (fx _ qa) p nT
  · have e : i = xs.length := by omega
    subst e
    exact .inl ⟨⟨xs, qa, rfl⟩, hd σ H p⟩
theorem lc_enumT {K : PySem.W.Frag} {a : Addr} {xs : List V} {g : TG} {tt : TT} {te : TE} {vs : List Nat} {σ : L2.St} {H1 : Hp} {D : Addr} {Qd : Hp → Prop} (Pv : Nat → Hp → Prop) (h0 : Pv 0 (upd H1 D (.lst []))) (hq : ∀ i H, Pv i H → SqT K H a xs)
    (hs : ∀ i x T H, xs[i]? = some x → Pv i H → H T = none → g (.ref T) (wipe σ vs) (upd H T (.tup [.int (i : Nat), x])) fun σ2 H2 => wipe σ2 vs = wipe σ vs ∧ tt σ2 H2 fun c H3 =>
      if c = true then te σ2 H3 fun z H4 => ∃ acc, H4 D = some (.lst acc) ∧ acc.length < sizeLine ∧ Pv (i + 1) (upd H4 D (.lst (acc ++ [z]))) else Pv (i + 1) H3) (hd : ∀ H, Pv xs.length H → Qd H) :
    ∃ W : Nat → Nat → Hp → Prop, (∃ m, W 0 m (upd H1 D (.lst []))) ∧ ∀ i m H, W i m H →
      ((EnT.IteT K a).stop i H ∧ Qd H) ∨ ((EnT.IteT K a).go i H ∧ ∃ Nx : Hp → Prop, (∀ H', Nx H' → ∃ m', m' < m ∧ W (i + 1) m' H') ∧ ∀ v H', (EnT.IteT K a).yld i H v H' → g v (wipe σ vs) H' fun σ2 H2 => wipe σ2 vs = wipe σ vs ∧ tt σ2 H2 fun c H3 =>
        if c = true then te σ2 H3 fun z H4 => ∃ acc, H4 D = some (.lst acc) ∧ acc.length < sizeLine ∧ Nx (upd H4 D (.lst (acc ++ [z]))) else Nx H3) := by
  refine ⟨fun i m H => m = xs.length - i ∧ i ≤ xs.length ∧ Pv i H, ⟨xs.length, (Nat.sub_zero _).symm, Nat.zero_le _, h0⟩, ?_⟩
  rintro i m H ⟨rfl, hi, p⟩
  have qa := hq i H p
  by_cases hlt : i < xs.length
  · have e1 : xs[i]? = some (xs[i]'hlt) := List.getElem?_eq_getElem _
    refine .inr ⟨⟨xs, _, qa, e1⟩, Pv (i + 1), fun H' p' => ⟨xs.length - (i + 1), by omega, rfl, hlt, p'⟩, fun v H' hy' => ?_⟩
    obtain ⟨T, x, rfl, nT, rfl, fx⟩ := hy'
    exact hs i x T H (fx _ qa) p nT
  · have e : i = xs.length := by omega
    subst e
    exact .inl ⟨⟨xs, qa, rfl⟩, hd H p⟩
end ZW

namespace K1
open PySem PySem.Spec PyProof.Rows L2 Evl HM LX ZW
theorem grow_good {h : List Nat} {g : Nat → Bool} (G : IsHeap h) (h1 : h.length < 60) (h2 : hAt h 0 < 60) (hg : ∀ c, g c = true → opn h c = true) : Good (grow h g) := by
  refine ⟨grow_heap G hg, ?_, ?_⟩
  · rw [grow_len]
    have := b2n_le (g h.length)
    omega
  · rw [hAt_grow hg]
    have := b2n_le (g 0)
    omega
/-- ints of a tuple of places -/
def PlacesT (H : Hp) (a : Addr) (ps : List Int) : Prop := H a = some (.tup (ps.map V.int))
/-- the heaps behind each ring -/
def hseq (rs : List (Int × Int)) (ps : List Int) : Nat → List Nat
  | 0 => []
  | i + 1 => grow (hseq rs ps i) (gl (hseq rs ps i) (K1N.nAt rs i) (K1N.sAt rs i) (ps.getD i 0))
theorem hseq_ok (rs : List (Int × Int)) (ps : List Int) : ∀ i, IsHeap (hseq rs ps i) ∧ (hseq rs ps i).length ≤ i ∧ hAt (hseq rs ps i) 0 ≤ i
  | 0 => ⟨IsHeap.nil, Nat.le_refl _, Nat.le_refl _⟩
  | i + 1 => by
    obtain ⟨a, b, c⟩ := hseq_ok rs ps i
    refine ⟨grow_heap a gl_opn, ?_, ?_⟩
    · show (grow _ _).length ≤ _
      rw [grow_len]
      have := b2n_le (gl (hseq rs ps i) (K1N.nAt rs i) (K1N.sAt rs i) (ps.getD i 0) (hseq rs ps i).length)
      omega
    · show hAt (grow _ _) 0 ≤ _
      rw [hAt_grow gl_opn]
      have := b2n_le (gl (hseq rs ps i) (K1N.nAt rs i) (K1N.sAt rs i) (ps.getD i 0) 0)
      omega
theorem rings_nth4 {H : Hp} {most : Int} {xs : List V} {rs : List (Int × Int)} (h : RingsAt H most xs rs) {j : Nat} {x : V} (hx : xs[j]? = some x) : RingAt H most x (K1N.nAt rs j : Int) (K1N.sAt rs j) := by
  obtain ⟨r, hr, q⟩ := paired_get h hx
  have e : rs.getD j (0, 0) = r := by
    rw [List.getD_eq_getElem?_getD, hr]
    rfl
  obtain ⟨t, e1, e2, e3, e4, e5, e6⟩ := id q
  unfold K1N.nAt K1N.sAt
  rw [e, show ((r.1.toNat : Nat) : Int) = r.1 by omega]
  exact q
theorem rings_ex4 {H H' : Hp} {most : Int} {xs : List V} {rs : List (Int × Int)} (e : Ex H H') (h : RingsAt H most xs rs) : RingsAt H' most xs rs := paired_imp (fun _ _ z => RingAt.ex e z) h
theorem rings_chain4 {K : PySem.W.Frag} {H : Hp} {a : Addr} {xs : List V} {rs : List (Int × Int)} (h : RingsAt H 60 xs rs) (ha : H a = some (.tup xs)) (h1 : 1 ≤ xs.length) (h2 : xs.length ≤ 12) : ChainB K H (.ref a) true := by
  have p : ∀ {xs : List V} {rs : List (Int × Int)}, RingsAt H 60 xs rs → Paired (RingB K H) xs (List.replicate xs.length true) := by
    intro xs rs h
    induction h with
    | nil => exact .nil
    | cons r _ ih => exact .cons (RingAt.ring r (Int.le_refl _)) ih
  have q := ChainB.tup (K := K) ha ⟨h1, h2⟩ (p h)
  rw [show (List.replicate xs.length true).all id = true by simp] at q
  exact q
section
variable {P : Program} {w : World} {K : PySem.W.Frag} {mg : Str → Option Value} {base : Heap}
def spGrown : Sp := fun vs H Q _ => ∃ p h x n s q, vs = [.ref p, x, .int q] ∧ HeapAt H p h ∧ IsHeap h ∧ h.length < 60 ∧ hAt h 0 < 60 ∧ RingAt H 60 x n s ∧ 0 ≤ q ∧ q < n ∧ ∀ r H', Ex H H' → HeapAt H' r (grow h (gl h n s q)) → Q (.ref r) H'
theorem ok_grown (T : Txt K mg) {f : Addr} {fd : FuncData} (D : DefAt K mg "grown" sGrown ["heap", "ring", "place"] f fd) : FnOk P w K mg base CX0 5 f fd ["heap", "ring", "place"] spGrown := by
  refine D.F.ok scGrown (fun vs H Q E h => ?_) (fun cdv A outer s₀ H vs Q E hr h => ?_)
  · obtain ⟨p, h, x, n, s, q, rfl, _⟩ := h
    rfl
  · obtain ⟨p, h, x, n, s, q, rfl, hp, IH, hl, ht, hx, q0, q1, k⟩ := h
    obtain ⟨f1, fd1, D1⟩ := T.d_check_heap
    obtain ⟨f2, fd2, D2⟩ := T.d_check_ring
    obtain ⟨f3, fd3, D3⟩ := T.d_check_between
    obtain ⟨f4, fd4, D4⟩ := T.d_grown_by
    obtain ⟨f5, fd5, D5⟩ := T.d_check_side
    have hr3 : Room 3 _ := hr.mono (by decide)
    refine ⟨_, pss_cons (ps_expr (pe_call (ok_check_heap T D1) hr (by rfl) D1.g D1.F.kp D1.b .nil pass0 (pa_cons (pv 0) pa_nil)))
      (pss_cons (ps_expr (pe_call (ok_check_ring T D2) hr (by rfl) D2.g D2.F.kp D2.b .nil pass0 (pa_cons (pv 1) pa_nil)))
      (pss_cons (ps_expr (pe_call (ok_check_between T D3) hr3 (by rfl) D3.g D3.F.kp D3.b .nil pass0 (pa_cons (pv 2) (pa_cons pe_int (pa_cons (pe_op op_sub (pe_ix ix_tup (pv 1) pe_int (fun _ _ => rfl)) pe_int) pa_nil)))))
      (pss_cons (ps_set (i := 3) scGrown.nd rfl (.inl rfl) (pe_call (ok_grown_by T D4) hr3 (by rfl) D4.g D4.F.kp D4.b .nil pass0 (pa_cons (pv 0) (pa_cons (pv 1) (pa_cons (pv 2) pa_nil)))))
      (pss_cons (ps_expr (pe_call (ok_check_side T D5) hr (by rfl) D5.g D5.F.kp D5.b .nil pass0 (pa_cons (pv 3) pa_nil)))
      (pss_one (ps_ret (pv 3))))))), ?_⟩
    have G : Good h := ⟨IH, by omega, by omega⟩
    refine ⟨_, rfl, p, h, rfl, hp, G, fun H1 e1 => ?_⟩
    refine ⟨_, rfl, x, rfl, (hx.ex e1).ring (Int.le_refl _), fun H2 e2 => ?_⟩
    have hx2 := (hx.ex e1).ex e2
    obtain ⟨t, rfl, ht2, b1, b2, b3, b4⟩ := id hx2
    refine ⟨_, rfl, _, rfl, t, _, 0, .int n, rfl, rfl, SqT.of ht2, rfl, n, 1, rfl, rfl, q, 0, n - 1, rfl, q0, by omega, by omega, by omega, fun H3 e3 => ?_⟩
    have e13 := (e1.trans e2).trans e3
    refine ⟨_, rfl, _, rfl, _, rfl, p, h, _, n, s, q, rfl, e13 _ _ hp, IH, by omega, hx2.ex e3, fun r H4 e4 hr4 => ?_⟩
    refine ⟨_, rfl, r, _, rfl, hr4, grow_good IH hl ht gl_opn, fun H5 e5 => ?_⟩
    exact ⟨_, rfl, k r H5 ((e13.trans e4).trans e5) (e5 _ _ hr4)⟩
def spCheckPlaces (K : PySem.W.Frag) : Sp := fun vs H Q _ => ∃ c a xs rs ps, vs = [.ref c, .ref a] ∧ H c = some (.tup xs) ∧ RingsAt H 60 xs rs ∧ xs.length ≤ 12 ∧ PlacesT H a ps ∧ ps.length = xs.length ∧ (∀ j : Nat, j < ps.length → 0 ≤ ps.getD j 0 ∧ ps.getD j 0 < (K1N.nAt rs j : Int)) ∧ ∀ H', Ex H H' → Q .non H'
def spLiesTold (K : PySem.W.Frag) : Sp := fun vs H Q E => spCheckPlaces K vs H (fun _ H' => Q (.bl true) H') E
theorem ok_lies_told (T : Txt K mg) {f : Addr} {fd : FuncData} (D : DefAt K mg "lies_told" sLiesTold ["chain", "value"] f fd) : FnOk P w K mg base CX0 3 f fd ["chain", "value"] (spLiesTold K) := by
  refine D.F.ok scLiesTold (fun vs H Q E h => ?_) (fun cdv A outer s₀ H vs Q E hr h => ?_)
  · obtain ⟨c, a, xs, rs, ps, rfl, _⟩ := h
    rfl
  · obtain ⟨c, a, xs, rs, ps, rfl, hc, hR, hl, ha, hlen, hb, q⟩ := h
    obtain ⟨f1, fd1, D1⟩ := T.d_is_between
    refine ⟨_, pss_cons (ps_if (PW.pt (pw_or (pt_not (pt_val (pe_callB call_isi (by rfl) T.z_isinstance (by decide +kernel) (pa_cons (pv 1) (pa_cons (pe_bltn (v := .ty "tuple") (by rfl) T.z_tuple (by decide +kernel) rfl) pa_nil)))))
        (pw_or1 (pt_cmpR op_ne (pe_callB call_len_seq (by rfl) T.z_len PySem.boot_len (pa_cons (pv 1) pa_nil)) (pe_callB call_len_seq (by rfl) T.z_len PySem.boot_len (pa_cons (pv 0) pa_nil)) (nomark _))))) (pss_one (ps_ret pe_bl)) pss_nil)
      (pss_one (ps_ret (pe_callB (cr_all rfl) (by rfl) T.z_all (by decide +kernel) (pa_cons (pe_lc (own := [("place", 2), ("ring", 3)]) (g := gTup K 2 (gCons (gName 2) (gCons (gName 3) gNil))) (tt := tYes) rfl scLiesTold.nd (RZ.pi_zipA (by rfl) T.z_zip (pa_cons (pv 1) (pa_cons (pv 0) pa_nil)))
          (blkOk_by (N := nLiesTold) (sc := defScope sLiesTold) (by decide +kernel)) (fun _ _ _ _ _ => pg_tup (by rfl) (pgs_cons (pg_name (i := 2) scLiesTold.nd rfl (.inl rfl)) (pgs_cons (pg_name (i := 3) scLiesTold.nd rfl (.inl rfl)) pgs_nil))) (fun _ _ _ _ _ => pts_nil)
          (fun _ _ _ _ _ => pe_call (ok_is_between T D1) hr (by rfl) D1.g D1.F.kp D1.b .nil pass0 (pa_cons (pv 2) (pa_cons pe_int (pa_cons (pe_op op_sub (pe_ix (show IxR _ (rIxT K) from ix_tup) (pv 3) pe_int (fun _ _ => rfl)) pe_int) pa_nil))))) pa_nil)))), ?_⟩
    refine ⟨_, rfl, .ref a, .ty "tuple", .type "tuple", .type "tuple", true, rfl, .ty _, .base (.tup ha), kit_ty (by decide +kernel), true, rfl, iteF ?_⟩
    refine ⟨_, rfl, a, _, rfl, .inr (SqT.of ha), _, rfl, c, _, rfl, .inr (SqT.of hc), rfl, _, rfl, ?_⟩
    rw [List.length_map, hlen, decide_eq_true (rfl : V.int (xs.length : Int) = V.int (xs.length : Int))]
    refine iteF ?_
    refine ⟨_, rfl, _, rfl, a, c, _, _, rfl, .inr ⟨SqT.of ha, SqT.of hc, fun Dl hD => ?_⟩⟩
    refine lc_zipT (K := K) (a := a) (b := c) (xs := ps.map V.int) (ys := xs) (n := xs.length) (by rw [List.length_map]; omega) (Nat.le_refl _) (.inr (Nat.le_refl _)) (fun i H' => H' Dl = some (.lst ((List.replicate i true).map V.bl)) ∧ Ex H H') ⟨upd_same, Ex.new hD⟩ (fun i H' hp => ⟨SqT.of (hp.2 _ _ ha), SqT.of (hp.2 _ _ hc)⟩) (fun i x y Tp H' hi hx hy hp nT => ?_) (fun H' hp => ?_)
    · have ex : ∃ p : Int, x = .int p ∧ ps.getD i 0 = p := by
        rw [List.getElem?_map] at hx
        cases e : ps[i]? with
        | none =>
          rw [e] at hx
          cases hx
        | some p =>
          rw [e] at hx
          refine ⟨p, (Option.some.inj hx).symm, ?_⟩
          rw [List.getD_eq_getElem?_getD, e]
          rfl
      obtain ⟨p, rfl, hpv⟩ := ex
      have eT := Ex.new (o := .tup [.int p, y]) nT
      have hy1 := rings_nth4 (rings_ex4 (hp.2.trans eT) hR) hy
      obtain ⟨t, rfl, ht, b1, b2, b3, b4⟩ := hy1
      obtain ⟨c0, c1⟩ := hb i (by omega)
      rw [hpv] at c0 c1
      refine ⟨Tp, _, rfl, SqT.of upd_same, rfl, .int p, [.ref t], rfl, .ref t, [], rfl, rfl, rfl, ?_⟩
      dsimp only [tYes]
      rw [if_pos rfl]
      refine ⟨_, rfl, _, rfl, t, _, 0, _, rfl, rfl, SqT.of ht, rfl, _, _, rfl, rfl, .int p, 0, _, true, rfl, .yes c0 (by omega) (by omega) (by omega), fun H3 e3 => ?_⟩
      refine ⟨_, e3 _ _ (eT _ _ hp.1), ?_, ?_, Ex.mut ((hp.2.trans eT).trans e3) hD⟩
      · rw [List.length_map, List.length_replicate]
        exact small1000 (by omega)
      · rw [upd_same, List.replicate_succ', List.map_append]
        rfl
    · refine ⟨Dl, List.replicate xs.length true, rfl, SqL.of hp.1, ?_⟩
      rw [show (List.replicate xs.length true).all id = true by simp]
      exact q _ hp.2
theorem ok_check_places (T : Txt K mg) {f : Addr} {fd : FuncData} (D : DefAt K mg "check_places" sCheckPlaces ["chain", "places"] f fd) : FnOk P w K mg base CX0 4 f fd ["chain", "places"] (spCheckPlaces K) := by
  refine D.F.ok scCheckPlaces (fun vs H Q E h => ?_) (fun cdv A outer s₀ H vs Q E hr h => ?_)
  · obtain ⟨c, a, xs, rs, ps, rfl, _⟩ := h
    rfl
  · obtain ⟨c, a, xs, rs, ps, rfl, hc, hR, hl, ha, hlen, hb, q⟩ := h
    obtain ⟨f1, fd1, D1⟩ := T.d_lies_told
    refine ⟨_, pss_one (ps_if (pt_not (pt_val (pe_call (ok_lies_told T D1) hr (by rfl) D1.g D1.F.kp D1.b .nil pass0 (pa_cons (pv 0) (pa_cons (pv 1) pa_nil))))) pss_never pss_nil), ?_⟩
    exact ⟨_, rfl, _, rfl, c, a, xs, rs, ps, rfl, hc, hR, hl, ha, hlen, hb, fun H1 e1 => ⟨true, rfl, iteF (q _ e1)⟩⟩
/-- the list of the heaps -/
def spHeapsOf : Sp := fun vs H Q _ => ∃ c a xs rs ps, vs = [.ref c, .ref a] ∧ H c = some (.tup xs) ∧ RingsAt H 60 xs rs ∧ xs.length ≤ 12 ∧ PlacesT H a ps ∧ ps.length = xs.length ∧
  ∀ (p : Addr) (as : List Addr) (H' : Hp), Ex H H' → H p = none → H' p = some (.lst (as.map V.ref)) → as.length = xs.length + 1 → (∀ i b, as[i]? = some b → HeapAt H' b (hseq rs ps i)) → Q (.ref p) H'
theorem ok_heaps_of (T : Txt K mg) {f : Addr} {fd : FuncData} (D : DefAt K mg "heaps_of" sHeapsOf ["chain", "places"] f fd) : FnOk P w K mg base CX0 4 f fd ["chain", "places"] spHeapsOf := by
  refine D.F.ok scHeapsOf (fun vs H Q E h => ?_) (fun cdv A outer s₀ H vs Q E hr h => ?_)
  · obtain ⟨c, a, xs, rs, ps, rfl, _⟩ := h
    rfl
  · obtain ⟨c, a, xs, rs, ps, rfl, hc, hR, hl, ha, hlen, q⟩ := h
    obtain ⟨f1, fd1, D1⟩ := T.d_grown_by
    refine ⟨_, pss_cons (ps_set (i := 2) scHeapsOf.nd rfl (.inl rfl) (pe_lst (pa_cons (pe_tup pa_nil) pa_nil)))
      (pss_cons (ps_for PassesOwn.never rfl (EnT.pi_enumT (by rfl) T.z_enumerate (pa_cons (pv 0) pa_nil)) (pg_tup rfl (pgs_cons (pg_name (i := 3) scHeapsOf.nd rfl (.inl rfl)) (pgs_cons (pg_name (i := 4) scHeapsOf.nd rfl (.inl rfl)) pgs_nil)))
        (pss_one (ps_expr (pe_bm PySem.F.plainAttrs_list PySem.F.slot_list_append PySem.F.type_list_append mt_append (pv 2) (pa_cons (pe_call (ok_grown_by T D1) hr (by rfl) D1.g D1.F.kp D1.b .nil pass0
          (pa_cons (pe_ix ix_list (pv 2) (pv 3) (fun _ _ => rfl)) (pa_cons (pv 4) (pa_cons (pe_ix ix_tup (pv 1) (pv 3) (fun _ _ => rfl)) pa_nil)))) pa_nil)))))
      (pss_one (ps_ret (pv 2)))), ?_⟩
    refine ⟨by show 0 ≤ sizeLine; decide, fun t0 ht0 => ⟨by show 1 ≤ sizeLine; decide, fun l hl0 => ?_⟩⟩
    have e1 := Ex.new (o := .tup []) ht0
    have e2 := e1.trans (Ex.new (o := .lst [V.ref t0]) hl0)
    have nl : H l = none := fresh_back e1 hl0
    have gl0 : (upd (upd H t0 (.tup [])) l (.lst [V.ref t0])) l = some (.lst ([t0].map V.ref)) := upd_same
    have gt0 : HeapAt (upd (upd H t0 (.tup [])) l (.lst [V.ref t0])) t0 (hseq rs ps 0) := by
      show (upd (upd H t0 (.tup [])) l (.lst [V.ref t0])) t0 = some (.tup (hv []))
      exact (Ex.new hl0) _ _ upd_same
    generalize upd (upd H t0 (.tup [])) l (.lst [V.ref t0]) = H2 at *
    refine ⟨_, rfl, c, xs, rfl, SqT.of (e2 _ _ hc), for_enumT (K := K) (a := c) (xs := xs) (fun i σ' H' => ∃ (y3 y4 : Option V) (as : List Addr), σ' = [some (.ref c), some (.ref a), some (.ref l), y3, y4] ∧ H' l = some (.lst (as.map V.ref)) ∧ as.length = i + 1 ∧ (∀ j b, as[j]? = some b → HeapAt H' b (hseq rs ps j)) ∧ Ex H H')
      ⟨none, none, [t0], rfl, gl0, rfl, fun j b hb => ?_, e2⟩ (fun i σ' H' hp => ?_) (fun i x Tp σ' H' hx hp nT => ?_) (fun σ' H' hp => ?_)⟩
    · cases j with
      | zero =>
        obtain rfl := Option.some.inj hb
        exact gt0
      | succ j => simp at hb
    · obtain ⟨_, _, _, _, _, _, _, e⟩ := hp
      exact SqT.of (e _ _ hc)
    · obtain ⟨y3, y4, as, rfl, w1, w2, w3, e⟩ := hp
      have eT := Ex.new (o := .tup [.int (i : Nat), x]) nT
      have hi : i < xs.length := (List.getElem?_eq_some_iff.mp hx).1
      have hx1 := rings_nth4 (rings_ex4 (e.trans eT) hR) hx
      have hasi : as[i]? = some (as[i]'(by omega)) := List.getElem?_eq_getElem _
      have hpi : (ps.map V.int)[i]? = some (.int (ps.getD i 0)) := by
        rw [List.getElem?_map, List.getD_eq_getElem?_getD, List.getElem?_eq_getElem (by omega)]
        rfl
      obtain ⟨ok1, ok2, ok3⟩ := hseq_ok rs ps i
      have hl1 := eT _ _ w1
      refine ⟨Tp, _, rfl, SqT.of upd_same, rfl, .int (i : Nat), [x], rfl, x, [], rfl, rfl, ?_⟩
      refine ⟨_, rfl, .inl ⟨rfl, _, SqL.of hl1⟩, _, rfl, _, rfl, l, _, _, .ref (as[i]'(by omega)), rfl, rfl, SqL.of hl1, atI_nat (by rw [List.getElem?_map, hasi]; rfl), _, rfl, _, rfl, _, rfl, a, _, _, _, rfl, rfl, SqT.of ((e.trans eT) _ _ ha), atI_nat hpi,
        as[i]'(by omega), hseq rs ps i, x, _, _, _, rfl, eT _ _ (w3 i _ hasi), ok1, by omega, hx1, fun r H4 e4 hr4 => ?_⟩
      have hl4 := e4 _ _ hl1
      have nlr : ∀ {b : Addr} {h : List Nat}, HeapAt H4 b h → b ≠ l := fun {b h} z => ne_of z hl4 (by intro y; cases y)
      refine ⟨l, _, _, rfl, rfl, hl4, ?_, some (.int (i : Nat)), some x, as ++ [r], rfl, ?_, ?_, ?_, Ex.mut ((e.trans eT).trans e4) nl⟩
      · rw [List.length_map]
        exact small1000 (by omega)
      · rw [upd_same, List.map_append]
        rfl
      · rw [List.length_append, w2]
        rfl
      · intro j b hb
        by_cases hj : j < as.length
        · rw [List.getElem?_append_left hj] at hb
          have z := e4 _ _ (eT _ _ (w3 j b hb))
          show (upd H4 l _) b = _
          rw [upd_ne (nlr z)]
          exact z
        · have ej : j = i + 1 := by
            have := (List.getElem?_eq_some_iff.mp hb).1
            rw [List.length_append] at this
            have h1 : ([r] : List Addr).length = 1 := rfl
            omega
          subst ej
          rw [List.getElem?_append_right (by omega), show i + 1 - as.length = 0 by omega] at hb
          obtain rfl := Option.some.inj hb
          show (upd H4 l _) _ = _
          rw [upd_ne (nlr hr4)]
          exact hr4
    · obtain ⟨y3, y4, as, rfl, w1, w2, w3, e⟩ := hp
      exact ⟨_, rfl, q l as H' e nl w1 w2 w3⟩
end
end K1

namespace K1
open PySem PySem.Spec PyProof.Rows L2 Evl HM LX ZW
theorem at_end {as : List Addr} {g : Nat} (h : as.length = g + 1) : atI (as.map V.ref) (-1) = some (V.ref (as[g]'(by omega))) := by
  have e : as = as.take g ++ [as[g]'(by omega)] := by
    have := List.take_append_getElem (l := as) (i := g) (by omega)
    rw [this, List.take_of_length_le (by omega)]
  have e2 : as.map V.ref = (as.take g).map V.ref ++ [V.ref (as[g]'(by omega))] := by
    conv => lhs; rw [e]
    rw [List.map_append]
    rfl
  rw [e2]
  exact atI_last _ _
section
variable {P : Program} {w : World} {K : PySem.W.Frag} {mg : Str → Option Value} {base : Heap}
def spHeapOf : Sp := fun vs H Q _ => ∃ c a xs rs ps, vs = [.ref c, .ref a] ∧ H c = some (.tup xs) ∧ RingsAt H 60 xs rs ∧ (1 ≤ xs.length ∧ xs.length ≤ 12) ∧ PlacesT H a ps ∧ ps.length = xs.length ∧ (∀ j : Nat, j < ps.length → 0 ≤ ps.getD j 0 ∧ ps.getD j 0 < (K1N.nAt rs j : Int)) ∧
  ∀ (b : Addr) H', Ex H H' → HeapAt H' b (hseq rs ps xs.length) → Q (.ref b) H'
theorem ok_heap_of (T : Txt K mg) {f : Addr} {fd : FuncData} (D : DefAt K mg "heap_of" sHeapOf ["chain", "places"] f fd) : FnOk P w K mg base CX0 6 f fd ["chain", "places"] spHeapOf := by
  refine D.F.ok scHeapOf (fun vs H Q E h => ?_) (fun cdv A outer s₀ H vs Q E hr h => ?_)
  · obtain ⟨c, a, xs, rs, ps, rfl, _⟩ := h
    rfl
  · obtain ⟨c, a, xs, rs, ps, rfl, hc, hR, hl, ha, hlen, hb, q⟩ := h
    obtain ⟨f1, fd1, D1⟩ := T.d_check_chain
    obtain ⟨f2, fd2, D2⟩ := T.d_check_places
    obtain ⟨f3, fd3, D3⟩ := T.d_heaps_of
    have hr4 : Room 4 _ := hr.mono (by decide)
    refine ⟨_, pss_cons (ps_expr (pe_call (ok_check_chain T D1) hr (by rfl) D1.g D1.F.kp D1.b .nil pass0 (pa_cons (pv 0) pa_nil)))
      (pss_cons (ps_expr (pe_call (ok_check_places T D2) hr4 (by rfl) D2.g D2.F.kp D2.b .nil pass0 (pa_cons (pv 0) (pa_cons (pv 1) pa_nil))))
      (pss_one (ps_ret (pe_ix ix_list (pe_call (ok_heaps_of T D3) hr4 (by rfl) D3.g D3.F.kp D3.b .nil pass0 (pa_cons (pv 0) (pa_cons (pv 1) pa_nil))) (pe_un un_neg pe_int) (fun _ _ => rfl))))), ?_⟩
    refine ⟨_, rfl, .ref c, rfl, rings_chain4 hR hc hl.1 hl.2, fun H1 e1 => ?_⟩
    refine ⟨_, rfl, _, rfl, c, a, xs, rs, ps, rfl, e1 _ _ hc, rings_ex4 e1 hR, hl.2, e1 _ _ ha, hlen, hb, fun H2 e2 => ?_⟩
    have e12 := e1.trans e2
    refine ⟨_, rfl, _, rfl, c, a, xs, rs, ps, rfl, e12 _ _ hc, rings_ex4 e12 hR, hl.2, e12 _ _ ha, hlen, fun p as H3 e3 hp0 hp hal hh => ?_⟩
    exact ⟨1, rfl, p, _, -1, _, rfl, rfl, SqL.of hp, at_end hal, q _ H3 (e12.trans e3) (hh _ _ (List.getElem?_eq_getElem _))⟩
def spHeapsAlong : Sp := fun vs H Q _ => ∃ c a xs rs ps, vs = [.ref c, .ref a] ∧ H c = some (.tup xs) ∧ RingsAt H 60 xs rs ∧ (1 ≤ xs.length ∧ xs.length ≤ 12) ∧ PlacesT H a ps ∧ ps.length = xs.length ∧ (∀ j : Nat, j < ps.length → 0 ≤ ps.getD j 0 ∧ ps.getD j 0 < (K1N.nAt rs j : Int)) ∧
  ∀ (r : Addr) (as : List Addr) H', Ex H H' → H' r = some (.tup (as.map V.ref)) → as.length = xs.length + 1 → (∀ i b, as[i]? = some b → HeapAt H' b (hseq rs ps i)) → Q (.ref r) H'
/-- how many squares the first columns have -/
def sumT (h : List Nat) : Nat → Nat
  | 0 => 0
  | i + 1 => sumT h i + hAt h i
theorem sumT_le {h : List Nat} (G : Good h) : ∀ i, sumT h i ≤ 60 * i
  | 0 => Nat.le_refl _
  | i + 1 => by
    show sumT h i + hAt h i ≤ _
    have := sumT_le G i
    have := G.all i
    omega
def spSquares : Sp := fun vs H Q _ => ∃ p h, vs = [.ref p] ∧ HeapAt H p h ∧ Good h ∧ ∀ r ys H', Ex H H' → H' r = some (.tup ys) → ys.length = sumT h h.length → Q (.ref r) H'
end
end K1

namespace K1
open PySem PySem.Spec PyProof.Rows L2 Evl HM LX ZW
/-! ### data: ints in lists and tuples -/
theorem dp_ints {K : PySem.W.Frag} {H : Hp} : ∀ ns : List Int, DpAll K H (ns.map V.int) (ns.map PyData.int)
  | [] => .nil
  | n :: r => .cons (.int n) (dp_ints r)
theorem can_ints : ∀ l : List Int, PyData.canLayAll0 (l.map PyData.int) = true
  | [] => rfl
  | b :: r => by simp [PyData.canLayAll0, PyData.canLay0, can_ints r]
theorem shaped_intsL (ns : List Int) : SeqAt.shaped (.list (ns.map PyData.int)) = true := by
  induction ns with
  | nil => rfl
  | cons b r ih => exact ih
theorem depth_ints : ∀ l : List Int, PyData.depthAll (l.map PyData.int) ≤ 60
  | [] => by decide
  | b :: r => by
    have := depth_ints r
    simp only [List.map_cons, PyData.depthAll, PyData.depth]
    omega
theorem shaped_intsT (ns : List Int) : SeqAt.shaped (.tuple (ns.map PyData.int)) = true := by
  unfold SeqAt.shaped
  have h1 : (PyData.tuple (ns.map PyData.int)).canLay0 = true := by simp [PyData.canLay0, can_ints ns]
  have h2 : (PyData.tuple (ns.map PyData.int)).depth ≤ 64 := by
    have := depth_ints ns
    simp only [PyData.depth]
    omega
  rw [h1, decide_eq_true h2]
  rfl
theorem eqv_intsL (ns : List Int) : PyData.eqv (.list (ns.map PyData.int)) (.list (ns.map PyData.int)) = true := SeqAt.eqv_refl _ (by simp [PyData.canLay0, can_ints ns])
theorem eqv_intsT (ns : List Int) : PyData.eqv (.tuple (ns.map PyData.int)) (.tuple (ns.map PyData.int)) = true := SeqAt.eqv_refl _ (by simp [PyData.canLay0, can_ints ns])
theorem eqv_nil : PyData.eqv (.list []) (.list []) = true := eqv_intsL []
theorem eqv_consnil (d : PyData) (ds : List PyData) : PyData.eqv (.list (d :: ds)) (.list []) = false := by simp [PyData.eqv, PyData.eqvAll]
theorem erase_perm {ls : List Int} {i : Nat} {y : Int} (h : ls[i]? = some y) : ls.Perm (y :: ls.eraseIdx i) := by
  induction ls generalizing i with
  | nil => simp at h
  | cons x r ih =>
    cases i with
    | zero =>
      obtain rfl := Option.some.inj h
      exact .refl _
    | succ i =>
      have := ih (i := i) h
      exact (List.Perm.cons x this).trans (List.Perm.swap y x _)
theorem map_erase {α β : Type} (g : α → β) : ∀ (ls : List α) (i : Nat), (ls.eraseIdx i).map g = (ls.map g).eraseIdx i
  | [], _ => rfl
  | _ :: _, 0 => rfl
  | x :: r, i + 1 => congrArg (g x :: ·) (map_erase g r i)
section
variable {P : Program} {w : World} {K : PySem.W.Frag} {mg : Str → Option Value} {base : Heap}
def spMixed : Sp := fun vs H Q _ => ∃ (d a : Addr) (ns : List Int), vs = [.ref d, .ref a] ∧ Dice H d ∧ H a = some (.lst (ns.map V.int)) ∧ ns.length ≤ 1000 ∧
  ∀ (p : Addr) (ms : List Int) H', ms.Perm ns → H' p = some (.lst (ms.map V.int)) → Dice H' d → Keep d H H' → Q (.ref p) H'
end
end K1

namespace K1
open PySem PySem.Spec PyProof.Rows L2 Evl HM LX ZW
theorem getD_snoc_lt {l : List Int} {x : Int} {j : Nat} (h : j < l.length) : (l ++ [x]).getD j 0 = l.getD j 0 := by
  rw [List.getD_eq_getElem?_getD, List.getD_eq_getElem?_getD, List.getElem?_append_left h]
theorem getD_snoc_eq {l : List Int} {x : Int} : (l ++ [x]).getD l.length 0 = x := by
  rw [List.getD_eq_getElem?_getD, List.getElem?_append_right (Nat.le_refl _), Nat.sub_self]
  rfl
def PlOk (rs : List (Int × Int)) (ps : List Int) : Prop := ∀ j : Nat, j < ps.length → 0 ≤ ps.getD j 0 ∧ ps.getD j 0 < (K1N.nAt rs j : Int)
theorem PlOk.snoc {rs : List (Int × Int)} {ps : List Int} {x : Int} (h : PlOk rs ps) (h0 : 0 ≤ x) (h1 : x < (K1N.nAt rs ps.length : Int)) : PlOk rs (ps ++ [x]) := by
  intro j hj
  by_cases c : j < ps.length
  · rw [getD_snoc_lt c]
    exact h j c
  · have e : j = ps.length := by
      rw [List.length_append] at hj
      have : ([x] : List Int).length = 1 := rfl
      omega
    subst e
    rw [getD_snoc_eq]
    exact ⟨h0, h1⟩
section
variable {P : Program} {w : World} {K : PySem.W.Frag} {mg : Str → Option Value} {base : Heap}
def spTuple : Sp := fun vs H Q _ => ∃ d c xs rs, vs = [.ref d, .ref c] ∧ Dice H d ∧ H c = some (.tup xs) ∧ RingsAt H 60 xs rs ∧ xs.length ≤ 12 ∧
  ∀ (a : Addr) (ps : List Int) H', PlacesT H' a ps → ps.length = xs.length → PlOk rs ps → Dice H' d → Keep d H H' → Q (.ref a) H'
theorem ok_tuple (T : Txt K mg) {f : Addr} {fd : FuncData} (D : DefAt K mg "_law_tuple" sLTuple ["_law_dice_here", "_law_chain_here"] f fd) : FnOk P w K mg base CX0 2 f fd ["_law_dice_here", "_law_chain_here"] spTuple := by
  refine D.F.ok scLTuple (fun vs H Q E h => ?_) (fun cdv A outer s₀ H vs Q E hr h => ?_)
  · obtain ⟨d, c, xs, rs, rfl, _⟩ := h
    rfl
  · obtain ⟨d, c, xs, rs, rfl, hd, hc, hR, hl, q⟩ := h
    obtain ⟨f1, fd1, D1⟩ := T.d_l_roll
    refine ⟨_, pss_cons (ps_set (i := 2) scLTuple.nd rfl (.inl rfl) (pe_lst pa_nil))
      (pss_cons (ps_for PassesOwn.never rfl (pi_tup (pv 1)) (pg_tup (by rfl) (pgs_cons (pg_name (i := 3) scLTuple.nd rfl (.inl rfl)) (pgs_cons (pg_name (i := 4) scLTuple.nd rfl (.inl rfl)) pgs_nil)))
        (pss_one (ps_expr (pe_bm PySem.F.plainAttrs_list PySem.F.slot_list_append PySem.F.type_list_append mt_append (pv 2) (pa_cons
          (pe_ifExp (pt_cmpR op_eq (pe_call (ok_roll T D1) hr (by rfl) D1.g D1.F.kp D1.b .nil pass0 (pa_cons (pv 0) (pa_cons pe_int pa_nil))) pe_int (nomark _))
            (pe_call (ok_roll T D1) hr (by rfl) D1.g D1.F.kp D1.b .nil pass0 (pa_cons (pv 0) (pa_cons (pv 3) pa_nil)))
            (pe_op op_mod (pe_op op_mul (pe_op op_sub (pe_call (ok_roll T D1) hr (by rfl) D1.g D1.F.kp D1.b .nil pass0 (pa_cons (pv 0) (pa_cons pe_int pa_nil))) pe_int) (pv 4)) (pv 3))) pa_nil)))))
      (pss_one (ps_ret (pe_callTy call_tuple_of (by rfl) T.z_tuple (by decide +kernel) (pa_cons (pv 2) pa_nil))))), ?_⟩
    refine ⟨by show 0 ≤ sizeLine; decide, fun l hl0 => ?_⟩
    have ndl : d ≠ l := hd.ne_new hl0
    refine ⟨_, rfl, c, rfl, ⟨_, SqT.of (Ex.new hl0 _ _ hc)⟩, for_tup (K := K) (a := c) (xs := xs) (fun i σ' H' => ∃ (y3 y4 : Option V) (ps : List Int), σ' = [some (.ref d), some (.ref c), some (.ref l), y3, y4] ∧ H' l = some (.lst (ps.map V.int)) ∧ ps.length = i ∧ PlOk rs ps ∧ Dice H' d ∧ Keep d H H')
      ⟨none, none, [], rfl, upd_same, rfl, fun j hj => absurd hj (Nat.not_lt_zero j), hd.upd ndl, Keep.new hl0⟩ (fun i σ' H' _ hW => ?_) (fun i x σ' H' hx hW => ?_) (fun σ' H' hW => ?_)⟩
    · obtain ⟨_, _, _, _, _, _, _, _, k⟩ := hW
      exact SqT.of (k.tup hd hc)
    · obtain ⟨y3, y4, ps, rfl, w1, w2, w3, w4, w5⟩ := hW
      have hi : i < xs.length := (List.getElem?_eq_some_iff.mp hx).1
      have hx0 := rings_nth4 hR hx
      have hx1 := hx0.keep w5 hd
      obtain ⟨t, rfl, ht, b1, b2, b3, b4⟩ := hx1
      have fin : ∀ (z : Int) H3, 0 ≤ z → z < (K1N.nAt rs i : Int) → Dice H3 d → Keep d H' H3 → ∃ l' xs' y, V.ref l = .ref l' ∧ [V.int z] = [y] ∧ H3 l' = some (.lst xs') ∧ xs'.length < sizeLine ∧
          (∃ (y3 y4 : Option V) (ps : List Int), [some (V.ref d), some (V.ref c), some (V.ref l), some (V.int (K1N.nAt rs i : Int)), some (V.int (K1N.sAt rs i))] = [some (.ref d), some (.ref c), some (.ref l), y3, y4] ∧ (upd H3 l' (.lst (xs' ++ [y]))) l = some (.lst (ps.map V.int)) ∧ ps.length = i + 1 ∧ PlOk rs ps ∧ Dice (upd H3 l' (.lst (xs' ++ [y]))) d ∧ Keep d H (upd H3 l' (.lst (xs' ++ [y])))) := fun z H3 z0 z1 hd3 k3 => by
        refine ⟨l, ps.map V.int, _, rfl, rfl, k3 _ _ ndl.symm w1, ?_, _, _, ps ++ [z], rfl, ?_, ?_, ?_, hd3.upd ndl, (w5.trans k3).mut hl0⟩
        · rw [List.length_map]
          exact small1000 (by omega)
        · rw [upd_same, List.map_append]
          rfl
        · rw [List.length_append, w2]
          rfl
        · subst w2
          exact w3.snoc z0 z1
      refine ⟨t, _, rfl, SqT.of ht, rfl, .int _, [.int _], rfl, .int _, [], rfl, rfl, ?_⟩
      refine ⟨_, rfl, .inl ⟨rfl, _, SqL.of w1⟩, _, rfl, d, 4, rfl, w4, by decide, by decide, fun r1 H1 r10 r11 hd1 k1 => ?_⟩
      refine ⟨rfl, _, rfl, ite2 (fun cc => ?_) (fun cc => ?_)⟩
      · refine ⟨_, rfl, _, rfl, d, _, rfl, hd1, by omega, by omega, fun r2 H2 r20 r21 hd2 k2 => ?_⟩
        exact fin r2 H2 r20 r21 hd2 (k1.trans k2)
      · refine ⟨_, rfl, d, 5, rfl, hd1, by decide, by decide, fun r2 H2 r20 r21 hd2 k2 => ?_⟩
        refine ⟨_, _, rfl, rfl, _, rfl, _, _, rfl, rfl, .inr (by constructor <;> omega), _, rfl, _, _, rfl, rfl, by omega, ?_⟩
        exact fin _ H2 (Int.emod_nonneg _ (by omega)) (Int.emod_lt_of_pos _ (by omega)) hd2 (k1.trans k2)
    · obtain ⟨y3, y4, ps, rfl, w1, w2, w3, w4, w5⟩ := hW
      refine ⟨_, rfl, l, _, rfl, .inl ⟨SqL.of w1, fun p hp => ?_⟩⟩
      exact q p ps _ upd_same w2 w3 (w4.upd (w4.ne_new hp)) (w5.trans (Keep.new hp))
end
end K1

/-! plain mathematics of heaps, continued: growing column by column, tries, squares added in any order -/
namespace HM
theorem range_hAt (h : List Nat) : (List.range h.length).map (hAt h) = h := by
  refine List.ext_getElem? fun c => ?_
  by_cases q : c < h.length
  · rw [List.getElem?_map, List.getElem?_range q, hAt_lt q]
    rfl
  · rw [List.getElem?_eq_none (by rw [List.length_map, List.length_range]; omega), List.getElem?_eq_none (by omega)]
/-- grown at the first columns -/
def fr (h : List Nat) (g : Nat → Bool) (i : Nat) : List Nat := (List.range h.length).map (fun c => hAt h c + b2n (decide (c < i) && g c)) ++ (if (decide (h.length < i) && g h.length) = true then [1] else [])
theorem fr_zero (h : List Nat) (g : Nat → Bool) : fr h g 0 = h := by
  unfold fr
  rw [decide_eq_false (Nat.not_lt_zero _), Bool.false_and, if_neg (by decide), List.append_nil]
  conv => rhs; rw [← range_hAt h]
  refine List.map_congr_left fun c _ => ?_
  rw [decide_eq_false (Nat.not_lt_zero _), Bool.false_and]
  rfl
theorem fr_end (h : List Nat) (g : Nat → Bool) : fr h g (h.length + 1) = grow h g := by
  unfold fr grow
  rw [decide_eq_true (Nat.lt_succ_self _), Bool.true_and]
  congr 1
  refine List.map_congr_left fun c hc => ?_
  rw [decide_eq_true (show c < h.length + 1 from Nat.lt_succ_of_lt (List.mem_range.mp hc)), Bool.true_and]
theorem fr_skip {h : List Nat} {g : Nat → Bool} {i : Nat} (q : g i = false) : fr h g (i + 1) = fr h g i := by
  have e : ∀ c, (decide (c < i + 1) && g c) = (decide (c < i) && g c) := fun c => by
    by_cases z : c = i
    · subst z
      rw [q, Bool.and_false, Bool.and_false]
    · have : decide (c < i + 1) = decide (c < i) := decide_eq_decide.mpr (by omega)
      rw [this]
  unfold fr
  rw [e]
  congr 1
  exact List.map_congr_left fun c _ => by rw [e]
theorem fr_low {h : List Nat} {g : Nat → Bool} {i : Nat} (hi : i ≤ h.length) : fr h g i = (List.range h.length).map (fun c => hAt h c + b2n (decide (c < i) && g c)) := by
  unfold fr
  rw [decide_eq_false (show ¬ h.length < i by omega), Bool.false_and, if_neg (by decide), List.append_nil]
theorem fr_low_len {h : List Nat} {g : Nat → Bool} {i : Nat} (hi : i ≤ h.length) : (fr h g i).length = h.length := by
  rw [fr_low hi, List.length_map, List.length_range]
theorem fr_set {h : List Nat} {g : Nat → Bool} {i : Nat} (hi : i < h.length) (q : g i = true) : (fr h g i).set i (hAt h i + 1) = fr h g (i + 1) := by
  rw [fr_low (show i ≤ h.length by omega), fr_low (show i + 1 ≤ h.length by omega)]
  refine List.ext_getElem? fun c => ?_
  rw [List.getElem?_set]
  by_cases e : i = c
  · subst e
    rw [if_pos rfl, if_pos (by rw [List.length_map, List.length_range]; exact hi), List.getElem?_map, List.getElem?_range hi]
    show some _ = some (hAt h i + b2n (decide (i < i + 1) && g i))
    rw [decide_eq_true (Nat.lt_succ_self i), q]
    rfl
  · rw [if_neg e, List.getElem?_map, List.getElem?_map]
    have : decide (c < i + 1) = decide (c < i) := decide_eq_decide.mpr (by omega)
    by_cases l : c < h.length
    · rw [List.getElem?_range l]
      show some (hAt h c + b2n (decide (c < i) && g c)) = some (hAt h c + b2n (decide (c < i + 1) && g c))
      rw [this]
    · rw [List.getElem?_eq_none (by rw [List.length_range]; omega)]
      rfl
theorem fr_app {h : List Nat} {g : Nat → Bool} (q : g h.length = true) : fr h g h.length ++ [1] = fr h g (h.length + 1) := by
  rw [fr_end, fr_low (Nat.le_refl _)]
  unfold grow
  rw [if_pos q]
  congr 1
  refine List.map_congr_left fun c hc => ?_
  rw [decide_eq_true (List.mem_range.mp hc), Bool.true_and]
/-! ### tries -/
def Falls (ns : List Int) : Prop := (∀ j, j + 1 < ns.length → ns.getD (j + 1) 0 ≤ ns.getD j 0) ∧ ∀ y ∈ ns, (0 : Int) ≤ y
/-- heights with 0 behind them, one changed -/
def chg (h : List Nat) (st : Int) (c : Nat) : List Int := (List.range (h.length + 1)).map fun x => (hAt h x : Int) + (if x = c then st else 0)
theorem chg_len (h : List Nat) (st : Int) (c : Nat) : (chg h st c).length = h.length + 1 := by
  unfold chg
  rw [List.length_map, List.length_range]
theorem chg_get {h : List Nat} {st : Int} {c x : Nat} (hx : x ≤ h.length) : (chg h st c).getD x 0 = (hAt h x : Int) + (if x = c then st else 0) := by
  unfold chg
  rw [List.getD_eq_getElem?_getD, List.getElem?_map, List.getElem?_range (by omega)]
  rfl
/-- columns at which a try leaves a heap -/
def tr (h : List Nat) (st : Int) (c : Nat) : Bool := if st = 1 then opn h c else decide (hAt h (c + 1) < hAt h c)
theorem chg_falls {h : List Nat} (H : IsHeap h) {st : Int} (hst : st = 1 ∨ st = -1) {c : Nat} (hc : c ≤ h.length) : Falls (chg h st c) ↔ tr h st c = true := by
  have hm : ∀ y, y ∈ chg h st c → ∃ x, x ≤ h.length ∧ y = (hAt h x : Int) + (if x = c then st else 0) := fun y hy => by
    unfold chg at hy
    obtain ⟨x, hx, rfl⟩ := List.mem_map.mp hy
    exact ⟨x, Nat.le_of_lt_succ (List.mem_range.mp hx), rfl⟩
  have hm2 : ∀ x, x ≤ h.length → (hAt h x : Int) + (if x = c then st else 0) ∈ chg h st c := fun x hx => List.mem_map.mpr ⟨x, List.mem_range.mpr (Nat.lt_succ_of_le hx), rfl⟩
  rcases hst with rfl | rfl
  · unfold tr
    rw [if_pos rfl]
    constructor
    · rintro ⟨f1, f2⟩
      unfold opn
      by_cases z : c = 0
      · rw [decide_eq_true z, Bool.true_or]
      · have a := f1 (c - 1) (by rw [chg_len]; omega)
        rw [show c - 1 + 1 = c by omega, chg_get hc, chg_get (by omega), if_pos rfl, if_neg (by omega)] at a
        rw [decide_eq_true (show hAt h c < hAt h (c - 1) by omega), Bool.or_true]
    · intro o
      refine ⟨fun j hj => ?_, fun y hy => ?_⟩
      · rw [chg_len] at hj
        rw [chg_get (show j + 1 ≤ h.length by omega), chg_get (show j ≤ h.length by omega)]
        have := H.fall j
        by_cases z : j + 1 = c
        · subst z
          have := opn_lt o
          rw [if_pos rfl, if_neg (by omega)]
          omega
        · rw [if_neg z]
          split <;> omega
      · obtain ⟨x, _, rfl⟩ := hm y hy
        split <;> omega
  · unfold tr
    rw [if_neg (by decide)]
    constructor
    · rintro ⟨f1, f2⟩
      by_cases z : c = h.length
      · have := f2 _ (hm2 c hc)
        rw [if_pos rfl, z, hAt_ge (Nat.le_refl _)] at this
        exact absurd this (by decide)
      · have a := f1 c (by rw [chg_len]; omega)
        rw [chg_get (by omega), chg_get hc, if_pos rfl, if_neg (by omega)] at a
        exact decide_eq_true (by omega)
    · intro o
      have o' := of_decide_eq_true o
      refine ⟨fun j hj => ?_, fun y hy => ?_⟩
      · rw [chg_len] at hj
        rw [chg_get (show j + 1 ≤ h.length by omega), chg_get (show j ≤ h.length by omega)]
        have := H.fall j
        by_cases z : j = c
        · subst z
          rw [if_pos rfl, if_neg (by omega)]
          omega
        · rw [if_neg z]
          split <;> omega
      · obtain ⟨x, _, rfl⟩ := hm y hy
        split
        · next z =>
          subst z
          omega
        · omega
def tv (h : List Nat) (st : Int) (c : Nat) : Int := if st = 1 then dg h c else dg h c + 1
def trs (h : List Nat) (st : Int) (i : Nat) : List Int := ((List.range i).filter (tr h st)).map (tv h st)
theorem tv_lt {h : List Nat} (H : IsHeap h) {st : Int} {c d : Nat} (hcd : c < d) : tv h st c < tv h st d := by
  have := dg_lt H hcd
  unfold tv
  split <;> omega
theorem range_lt (n : Nat) : (List.range n).Pairwise (· < ·) := List.pairwise_lt_range
theorem trs_sorted {h : List Nat} (H : IsHeap h) (st : Int) (i : Nat) : (trs h st i).Pairwise (· ≤ ·) := by
  unfold trs
  refine List.pairwise_map.mpr ?_
  refine ((range_lt i).filter _).imp fun {a b} hab => ?_
  have := tv_lt H (st := st) hab
  omega
theorem sorted_eq : ∀ {a b : List Int}, a.Perm b → a.Pairwise (· ≤ ·) → b.Pairwise (· ≤ ·) → a = b
  | [], b, p, _, _ => (List.nil_perm.mp p).symm
  | x :: a, [], p, _, _ => absurd p.length_eq (by simp)
  | x :: a, y :: b, p, ha, hb => by
    have e : x = y := by
      have h1 : y ∈ x :: a := p.mem_iff.mpr List.mem_cons_self
      have h2 : x ∈ y :: b := p.mem_iff.mp List.mem_cons_self
      rcases List.mem_cons.mp h1 with z | z
      · exact z.symm
      · rcases List.mem_cons.mp h2 with u | u
        · exact u
        · have q1 := (List.pairwise_cons.mp ha).1 y z
          have q2 := (List.pairwise_cons.mp hb).1 x u
          omega
    subst e
    rw [sorted_eq ((List.perm_cons x).mp p) (List.pairwise_cons.mp ha).2 (List.pairwise_cons.mp hb).2]
theorem trs_add (h : List Nat) : trs h 1 (h.length + 1) = (oc h).map (dg h) := by
  have e : tr h 1 = opn h := funext fun c => if_pos rfl
  have e2 : tv h 1 = dg h := funext fun c => if_pos rfl
  unfold trs oc
  rw [e, e2]
theorem trs_sub (h : List Nat) : trs h (-1) (h.length + 1) = ((List.range h.length).filter fun c => decide (hAt h (c + 1) < hAt h c)).map fun c => dg h c + 1 := by
  have e : tr h (-1) = fun c => decide (hAt h (c + 1) < hAt h c) := funext fun c => if_neg (by decide)
  have e2 : tv h (-1) = fun c => dg h c + 1 := funext fun c => if_neg (by decide)
  unfold trs
  rw [e, e2, List.range_succ, List.filter_append, List.filter_cons, if_neg (by rw [hAt_ge (Nat.le_refl h.length)]; simp)]
  simp
theorem oc_two {h : List Nat} (H : IsHeap h) : ((oc h).map (dg h)).Pairwise (fun a b => a + 2 ≤ b) := by
  refine List.pairwise_map.mpr ?_
  unfold oc
  have : ((List.range (h.length + 1)).filter (opn h)).Pairwise (fun a b => a < b) := (range_lt _).filter _
  refine (List.Pairwise.and_mem.mp this).imp fun {a b} hab => ?_
  exact dg_two H hab.2.2 (List.mem_filter.mp hab.2.1).2
theorem two_next {l : List Int} (h : l.Pairwise (fun a b => a + 2 ≤ b)) {i : Nat} {x y : Int} (hx : l[i]? = some x) (hy : l[i + 1]? = some y) : x + 2 ≤ y := by
  obtain ⟨h1, rfl⟩ := List.getElem?_eq_some_iff.mp hx
  obtain ⟨h2, rfl⟩ := List.getElem?_eq_some_iff.mp hy
  exact List.pairwise_iff_getElem.mp h i (i + 1) h1 h2 (by omega)
/-! ### squares added in any order -/
def adm (h : List Nat) (ms : List Int) (i : Nat) (c : Nat) : Bool := opn h c && decide (dg h c ∈ ms.take i)
theorem adm_opn {h : List Nat} {ms : List Int} {i : Nat} (c : Nat) (z : adm h ms i c = true) : opn h c = true := by
  unfold adm at z
  exact (Bool.and_eq_true_iff.mp z).1
theorem adm_zero (h : List Nat) (ms : List Int) : grow h (adm h ms 0) = h := by
  have e : adm h ms 0 = fun _ => false := funext fun c => by
    unfold adm
    rw [List.take_zero, decide_eq_false (by simp), Bool.and_false]
  rw [e]
  unfold grow
  rw [if_neg (show ¬ false = true by decide), List.append_nil]
  exact range_hAt h
theorem grow_opn {h : List Nat} {g : Nat → Bool} (hg : ∀ c, g c = true → opn h c = true) {c : Nat} (o : opn h c = true) (q : g c = false) : opn (grow h g) c = true := by
  unfold opn
  by_cases z : c = 0
  · rw [decide_eq_true z, Bool.true_or]
  · obtain ⟨e, rfl⟩ : ∃ e, c = e + 1 := ⟨c - 1, by omega⟩
    have a := opn_lt o
    have b : hAt (grow h g) (e + 1) < hAt (grow h g) (e + 1 - 1) := by
      rw [hAt_grow hg, hAt_grow hg, q, show e + 1 - 1 = e by omega]
      have : b2n false = 0 := rfl
      omega
    rw [decide_eq_true b, Bool.or_true]
theorem grow_dg {h : List Nat} {g : Nat → Bool} (hg : ∀ c, g c = true → opn h c = true) {c : Nat} (q : g c = false) : dg (grow h g) c = dg h c := by
  unfold dg
  rw [hAt_grow hg, q]
  rfl
theorem adm_no {h : List Nat} (_ : IsHeap h) {ms : List Int} (nd : ms.Nodup) {i c : Nat} (hi : ms[i]? = some (dg h c)) : adm h ms i c = false := by
  unfold adm
  have : ¬ dg h c ∈ ms.take i := fun z => by
    obtain ⟨j, hj, e⟩ := List.getElem_of_mem z
    rw [List.length_take] at hj
    obtain ⟨hi', e'⟩ := List.getElem?_eq_some_iff.mp hi
    rw [List.getElem_take] at e
    have := (List.nodup_iff_pairwise_ne.mp nd)
    have := List.pairwise_iff_getElem.mp this j i (by omega) hi' (by omega)
    exact this (e.trans e'.symm)
  rw [decide_eq_false this, Bool.and_false]
theorem adm_next {h : List Nat} (H : IsHeap h) {ms : List Int} (nd : ms.Nodup) {i c : Nat} (o : opn h c = true) (hi : ms[i]? = some (dg h c)) {g1 : Nat → Bool} (hg1 : ∀ x, g1 x = (c == x)) :
    grow (grow h (adm h ms i)) g1 = grow h (adm h ms (i + 1)) := by
  have no := adm_no H nd hi
  have h1 : IsHeap (grow h (adm h ms i)) := grow_heap H adm_opn
  have o1 : ∀ x, g1 x = true → opn (grow h (adm h ms i)) x = true := fun x z => by
    rw [hg1] at z
    have e : c = x := by simpa using z
    subst e
    exact grow_opn adm_opn o no
  refine heap_ext (grow_heap h1 o1) (grow_heap H adm_opn) fun x => ?_
  rw [hAt_grow o1, hAt_grow adm_opn, hAt_grow adm_opn, hg1]
  by_cases e : c = x
  · subst e
    have yes : adm h ms (i + 1) c = true := by
      unfold adm
      rw [o, List.take_add_one, hi, decide_eq_true (by simp)]
      rfl
    rw [no, yes, beq_self_eq_true]
    rfl
  · have e2 : (c == x) = false := by simpa using e
    have e3 : adm h ms (i + 1) x = adm h ms i x := by
      unfold adm
      have : (dg h x ∈ ms.take (i + 1)) ↔ dg h x ∈ ms.take i := by
        rw [List.take_add_one, hi, List.mem_append]
        constructor
        · rintro (z | z)
          · exact z
          · have : dg h x = dg h c := by simpa using z
            exact absurd (dg_inj H this).symm e
        · exact Or.inl
      rw [decide_eq_decide.mpr this]
    rw [e2, e3]
    rfl
end HM

namespace K1
open PySem PySem.Spec PyProof.Rows L2 Evl HM LX ZW
section
variable {P : Program} {w : World} {K : PySem.W.Frag} {mg : Str → Option Value} {base : Heap}
def spLGrown : Sp := fun vs H Q _ => ∃ p h x n s q, vs = [.ref p, x, .int q] ∧ HeapAt H p h ∧ h.length ≤ 100 ∧ RingAt H 60 x n s ∧ ∀ r H', Ex H H' → HeapAt H' r (grow h (gl h n s q)) → Q (.ref r) H'
theorem ok_lgrown (T : Txt K mg) {f : Addr} {fd : FuncData} (D : DefAt K mg "_law_grown" sLGrown ["_law_heap_here", "_law_ring_here", "_law_x"] f fd) : FnOk P w K mg base CX0 1 f fd ["_law_heap_here", "_law_ring_here", "_law_x"] spLGrown := by
  refine D.F.ok scLGrown (fun vs H Q E h => ?_) (fun cdv A outer s₀ H vs Q E hr h => ?_)
  · obtain ⟨p, h, x, n, s, q, rfl, _⟩ := h
    rfl
  · obtain ⟨p, h, x, n, s, q, rfl, hp, hl, hx, k⟩ := h
    refine ⟨_, pss_cons (ps_asg (pv 1) (pg_tup (by rfl) (pgs_cons (pg_name (i := 3) scLGrown.nd rfl (.inl rfl)) (pgs_cons (pg_name (i := 4) scLGrown.nd rfl (.inl rfl)) pgs_nil))))
      (pss_cons (ps_set (i := 5) scLGrown.nd rfl (.inl rfl) (pe_callTy call_list_of (by rfl) T.z_list (by decide +kernel) (pa_cons (pv 0) pa_nil)))
      (pss_cons (ps_for PassesOwn.never rfl (pi_range1 (by rfl) T.z_range (pa_cons (pe_op op_add (pe_callB call_len_seq (by rfl) T.z_len PySem.boot_len (pa_cons (pv 0) pa_nil)) pe_int) pa_nil)) (pg_name (i := 6) scLGrown.nd rfl (.inl rfl))
        (pss_cut (ps_set (i := 7) scLGrown.nd rfl (.inl rfl) (pe_ifExp (pt_cmpR op_lt (pv 6) (pe_callB call_len_seq (by rfl) T.z_len PySem.boot_len (pa_cons (pv 0) pa_nil)) (nomark _)) (pe_ix ix_tup (pv 0) (pv 6) (fun _ _ => rfl)) pe_int))
        (pss_cut (ps_set (i := 8) scLGrown.nd rfl (.inl rfl) (pe_or (pe_cmpR op_eq (pv 6) pe_int (nomark _)) (pe_one (pe_cmpR op_gt (pe_ix ix_tup (pv 0) (pe_op op_sub (pv 6) pe_int) (fun _ _ => rfl)) (pv 7) (nomark _)))))
        (pss_one (ps_if (PW.pt (pw_and (pt_val (pv 8)) (pw_and1 (pt_cmpR op_eq (pe_op op_mod (pe_op op_sub (pe_op op_mul (pe_op op_sub (pv 6) (pv 7)) (pv 4)) (pv 2)) (pv 3)) pe_int (nomark _)))))
          (pss_one (ps_if (pt_cmpR op_lt (pv 6) (pe_callB call_len_seq (by rfl) T.z_len PySem.boot_len (pa_cons (pv 0) pa_nil)) (nomark _))
            (pss_one (ps_asg (pe_op op_add (pv 7) pe_int) (pg_sub (pv 5) (pv 6) set_list)))
            (pss_one (ps_expr (pe_bm PySem.F.plainAttrs_list PySem.F.slot_list_append PySem.F.type_list_append mt_append (pv 5) (pa_cons pe_int pa_nil)))))) pss_nil)))))
      (pss_one (ps_ret (pe_callTy call_tuple_of (by rfl) T.z_tuple (by decide +kernel) (pa_cons (pv 5) pa_nil)))))), ?_⟩
    obtain ⟨t, rfl, ht, b1, b2, b3, b4⟩ := id hx
    refine ⟨_, rfl, t, [.int n, .int s], rfl, SqT.of ht, rfl, .int n, [.int s], rfl, .int s, [], rfl, rfl, ?_⟩
    refine ⟨_, rfl, p, hv h, rfl, .inr (SqT.of hp), fun l hl0 => ?_⟩
    have e1 := Ex.new (o := .lst (hv h)) hl0
    have g0 : (upd H l (.lst (hv h))) l = some (.lst (hv (fr h (gl h n s q) 0))) := by
      rw [upd_same, fr_zero]
    generalize upd H l (.lst (hv h)) = H1 at *
    refine ⟨_, rfl, p, _, rfl, .inr (SqT.of (e1 _ _ hp)), _, _, rfl, rfl, _, rfl, by rw [hv_len]; omega, by rw [hv_len]; omega, ?_⟩
    refine for_range (lo := 0) (n := (((hv h).length : Int) + 1).toNat) (fun i σ' H' => ∃ (y6 y7 y8 : Option V), σ' = [some (.ref p), some (.ref t), some (.int q), some (.int n), some (.int s), some (.ref l), y6, y7, y8] ∧ H' l = some (.lst (hv (fr h (gl h n s q) i))) ∧ Ex H H')
      ⟨none, none, none, rfl, g0, e1⟩ (fun i σ' H' hi hW => ?_) (fun σ' H' hW => ?_)
    · obtain ⟨y6, y7, y8, rfl, w1, w2⟩ := hW
      rw [hv_len] at hi
      have hi' : i ≤ h.length := by omega
      have hp2 := w2 _ _ hp
      have e0 : (0 : Int) + (i : Int) = (i : Int) := Int.zero_add _
      refine ⟨fun σ2 H2 => σ2 = [some (.ref p), some (.ref t), some (.int q), some (.int n), some (.int s), some (.ref l), some (.int (0 + (i : Int))), some (.int (hAt h i : Int)), y8] ∧ H2 = H', ?_, ?_⟩
      · refine ⟨_, rfl, _, rfl, p, _, rfl, .inr (SqT.of hp2), _, _, rfl, rfl, _, rfl, ite2 (fun cc => ?_) (fun cc => ?_)⟩
        · have c2 : i < h.length := by
            have := of_decide_eq_true cc
            rw [hv_len] at this
            omega
          exact ⟨_, rfl, _, rfl, p, _, _, _, rfl, rfl, SqT.of hp2, at_of e0 (hv_get c2), rfl, rfl⟩
        · have c2 : h.length ≤ i := by
            have : ¬ ((0 : Int) + (i : Int) < ((hv h).length : Int)) := fun z => cc (decide_eq_true z)
            rw [hv_len] at this
            omega
          refine ⟨?_, rfl⟩
          rw [hAt_ge c2]
          rfl
      · rintro σ2 H2 ⟨rfl, rfl⟩
        refine ⟨fun σ3 H3 => σ3 = [some (.ref p), some (.ref t), some (.int q), some (.int n), some (.int s), some (.ref l), some (.int (0 + (i : Int))), some (.int (hAt h i : Int)), some (.bl (opn h i))] ∧ H3 = H2, ?_, ?_⟩
        · refine ⟨_, rfl, rfl, _, rfl, ite2 (fun cc => ?_) (fun cc => ?_)⟩
          · have c2 : i = 0 := by
              have := V.int.inj (of_decide_eq_true cc)
              omega
            refine ⟨?_, rfl⟩
            have : opn h i = true := by
              unfold opn
              rw [decide_eq_true c2, Bool.true_or]
            rw [this]
            rfl
          · have c2 : i ≠ 0 := fun z => cc (by subst z; rfl)
            refine ⟨_, rfl, _, rfl, _, _, rfl, rfl, p, _, _, _, rfl, rfl, SqT.of hp2, at_of (show (0 + (i : Int)) - 1 = ((i - 1 : Nat) : Int) by omega) (hv_get (by omega)), _, rfl, _, _, rfl, rfl, ?_, rfl⟩
            have : opn h i = decide ((hAt h i : Int) < (hAt h (i - 1) : Int)) := by
              unfold opn
              rw [decide_eq_false c2, Bool.false_or]
              exact decide_eq_decide.mpr (by omega)
            rw [this]
            rfl
        · rintro σ3 H3 ⟨rfl, rfl⟩
          refine ⟨_, rfl, _, rfl, ite2 (fun cc => ?_) (fun cc => ?_)⟩
          · refine ⟨_, rfl, _, rfl, _, _, rfl, rfl, _, rfl, _, _, rfl, rfl, .inr (by constructor <;> omega), _, rfl, _, _, rfl, rfl, _, rfl, _, _, rfl, rfl, by omega, rfl, _, rfl, ite2 (fun c3 => ?_) (fun c3 => ?_)⟩
            · have yes : gl h n s q i = true := by
                unfold gl
                rw [cc, Bool.true_and]
                have z := V.int.inj (of_decide_eq_true c3)
                rw [Int.zero_add] at z
                exact decide_eq_true z
              refine ⟨_, rfl, _, rfl, p, _, rfl, .inr (SqT.of hp2), _, _, rfl, rfl, _, rfl, ite2 (fun c4 => ?_) (fun c4 => ?_)⟩
              · have c5 : i < h.length := by
                  have := of_decide_eq_true c4
                  rw [hv_len] at this
                  omega
                refine ⟨_, rfl, _, _, rfl, rfl, _, rfl, _, rfl, l, _, _, i, rfl, rfl, w1, ?_, _, _, _, rfl, ?_, Ex.mut w2 hl0⟩
                · rw [e0]
                  refine ixN_nat ?_
                  rw [hv_len, fr_low_len hi']
                  exact c5
                · rw [upd_same]
                  dsimp only
                  rw [show ((hAt h i : Int)) + 1 = ((hAt h i + 1 : Nat) : Int) by omega, hv_set, fr_set c5 yes]
              · have c5 : i = h.length := by
                  have : ¬ ((0 : Int) + (i : Int) < ((hv h).length : Int)) := fun z => c4 (decide_eq_true z)
                  rw [hv_len] at this
                  omega
                subst c5
                refine ⟨_, rfl, .inl ⟨rfl, _, SqL.of w1⟩, l, _, _, rfl, rfl, w1, ?_, _, _, _, rfl, ?_, Ex.mut w2 hl0⟩
                · rw [hv_len, fr_low_len (Nat.le_refl _)]
                  exact small1000 (by omega)
                · rw [upd_same, ← fr_app yes, hv_snoc]
                  rfl
            · have no : gl h n s q i = false := by
                unfold gl
                have z : ¬ ((dg h i * s - q) % n = 0) := fun z => c3 (decide_eq_true (congrArg V.int (by rw [Int.zero_add]; exact z)))
                rw [decide_eq_false z, Bool.and_false]
              refine ⟨_, _, _, rfl, ?_, w2⟩
              rw [fr_skip no]
              exact w1
          · have no : gl h n s q i = false := by
              unfold gl
              rw [Bool.eq_false_iff.mpr cc, Bool.false_and]
            refine ⟨_, _, _, rfl, ?_, w2⟩
            rw [fr_skip no]
            exact w1
    · obtain ⟨y6, y7, y8, rfl, w1, w2⟩ := hW
      have e : (((hv h).length : Int) + 1).toNat = h.length + 1 := by
        rw [hv_len]
        omega
      rw [e, fr_end] at w1
      exact ⟨_, rfl, l, _, rfl, .inl ⟨SqL.of w1, fun r hr' => k r _ (w2.trans (Ex.new hr')) upd_same⟩⟩
end
end K1

namespace K1
open PySem PySem.Spec PyProof.Rows L2 Evl HM LX ZW
theorem pair_heap {l : List Nat} (hp : l.Pairwise (fun a b => b ≤ a)) (h0 : ∀ x ∈ l, 0 < x) : IsHeap l := by
  refine ⟨fun c hc => h0 _ (List.mem_of_getElem? (hAt_lt hc)), fun c => ?_⟩
  by_cases q : c + 1 < l.length
  · obtain ⟨h1, e1⟩ := List.getElem?_eq_some_iff.mp (hAt_lt q)
    obtain ⟨h2, e2⟩ := List.getElem?_eq_some_iff.mp (hAt_lt (show c < l.length by omega))
    have := List.pairwise_iff_getElem.mp hp c (c + 1) h2 h1 (by omega)
    rw [e1, e2] at this
    exact this
  · rw [hAt_ge (show l.length ≤ c + 1 by omega)]
    exact Nat.zero_le _
theorem hv_nat {js : List Int} (h : ∀ j ∈ js, 0 ≤ j) : js.map V.int = hv (js.map Int.toNat) := by
  unfold hv
  rw [List.map_map]
  refine List.map_congr_left fun j hj => ?_
  show V.int j = V.int ((j.toNat : Nat) : Int)
  rw [Int.toNat_of_nonneg (h j hj)]
theorem pl_get {ps : List Int} {i : Nat} {x : V} (hx : (ps.map V.int)[i]? = some x) : x = .int (ps.getD i 0) := by
  rw [List.getElem?_map] at hx
  rw [List.getD_eq_getElem?_getD]
  cases e : ps[i]? with
  | none =>
    rw [e] at hx
    cases hx
  | some p =>
    rw [e] at hx
    exact (Option.some.inj hx).symm
section
variable {P : Program} {w : World} {K : PySem.W.Frag} {mg : Str → Option Value} {base : Heap}
def spLHeap : Sp := fun vs H Q _ => ∃ c a xs rs ps, vs = [.ref c, .ref a] ∧ H c = some (.tup xs) ∧ RingsAt H 60 xs rs ∧ xs.length ≤ 12 ∧ PlacesT H a ps ∧ ps.length = xs.length ∧ ∀ b H', Ex H H' → HeapAt H' b (hseq rs ps xs.length) → Q (.ref b) H'
theorem ok_lheap (T : Txt K mg) {f : Addr} {fd : FuncData} (D : DefAt K mg "_law_heap" sLHeap ["_law_chain_here", "_law_x"] f fd) : FnOk P w K mg base CX0 2 f fd ["_law_chain_here", "_law_x"] spLHeap := by
  refine D.F.ok scLHeap (fun vs H Q E h => ?_) (fun cdv A outer s₀ H vs Q E hr h => ?_)
  · obtain ⟨c, a, xs, rs, ps, rfl, _⟩ := h
    rfl
  · obtain ⟨c, a, xs, rs, ps, rfl, hc, hR, hl, ha, hlen, q⟩ := h
    obtain ⟨f1, fd1, D1⟩ := T.d_l_grown
    refine ⟨_, pss_cons (ps_set (i := 2) scLHeap.nd rfl (.inl rfl) (pe_tup pa_nil))
      (pss_cons (ps_for PassesOwn.never rfl (RZ.pi_zipA (by rfl) T.z_zip (pa_cons (pv 0) (pa_cons (pv 1) pa_nil))) (pg_tup (by rfl) (pgs_cons (pg_name (i := 3) scLHeap.nd rfl (.inl rfl)) (pgs_cons (pg_name (i := 4) scLHeap.nd rfl (.inl rfl)) pgs_nil)))
        (pss_one (ps_set (i := 2) scLHeap.nd rfl (.inl rfl) (pe_call (ok_lgrown T D1) hr (by rfl) D1.g D1.F.kp D1.b .nil pass0 (pa_cons (pv 2) (pa_cons (pv 3) (pa_cons (pv 4) pa_nil)))))))
      (pss_one (ps_ret (pv 2)))), ?_⟩
    refine ⟨by show 0 ≤ sizeLine; decide, fun t0 ht0 => ?_⟩
    have e1 := Ex.new (o := .tup []) ht0
    have g0 : HeapAt (upd H t0 (.tup [])) t0 (hseq rs ps 0) := upd_same
    generalize upd H t0 (.tup []) = H1 at *
    refine ⟨_, rfl, _, rfl, c, a, _, _, rfl, .inr ⟨SqT.of (e1 _ _ hc), SqT.of (e1 _ _ ha), ?_⟩⟩
    refine for_zipT (K := K) (a := c) (b := a) (xs := xs) (ys := ps.map V.int) (n := xs.length) (Nat.le_refl _) (by rw [List.length_map]; omega) (.inl (Nat.le_refl _))
      (fun i σ' H' => ∃ (b : Addr) (y3 y4 : Option V), σ' = [some (.ref c), some (.ref a), some (.ref b), y3, y4] ∧ HeapAt H' b (hseq rs ps i) ∧ Ex H H') ⟨t0, none, none, rfl, g0, e1⟩ (fun i σ' H' hW => ?_) (fun i x y Tp σ' H' hi hx hy hW nT => ?_) (fun σ' H' hW => ?_)
    · obtain ⟨_, _, _, _, _, e⟩ := hW
      exact ⟨SqT.of (e _ _ hc), SqT.of (e _ _ ha)⟩
    · obtain ⟨b, y3, y4, rfl, w1, w2⟩ := hW
      have eT := Ex.new (o := .tup [x, y]) nT
      obtain rfl := pl_get hy
      have hx1 := rings_nth4 (rings_ex4 (w2.trans eT) hR) hx
      obtain ⟨ok1, ok2, ok3⟩ := hseq_ok rs ps i
      refine ⟨Tp, _, rfl, SqT.of upd_same, rfl, x, [_], rfl, _, [], rfl, rfl, ?_⟩
      refine ⟨_, rfl, _, rfl, _, rfl, b, hseq rs ps i, x, _, _, _, rfl, eT _ _ w1, by omega, hx1, fun r H4 e4 hr4 => ?_⟩
      exact ⟨r, _, _, rfl, hr4, (w2.trans eT).trans e4⟩
    · obtain ⟨b, y3, y4, rfl, w1, w2⟩ := hW
      exact ⟨_, rfl, q b _ w2 w1⟩
def spDrawnHeap : Sp := fun vs H Q _ => ∃ d, vs = [.ref d] ∧ Dice H d ∧ ∀ b h H', HeapAt H' b h → IsHeap h → h.length ≤ 9 → hAt h 0 ≤ 9 → Dice H' d → Keep d H H' → Q (.ref b) H'
end
end K1

/-! plain mathematics of heaps: what two have in common, what one holds, heaps turned over -/
namespace HM
theorem nat_ext {a b : Nat} (h : ∀ c, c < a ↔ c < b) : a = b := by
  rcases Nat.lt_trichotomy a b with q | q | q
  · exact absurd ((h a).mpr q) (Nat.lt_irrefl a)
  · exact q
  · exact absurd ((h b).mp q) (Nat.lt_irrefl b)
/-- the open columns whose diagonal is let -/
def gp (p : Int → Bool) (h : List Nat) (c : Nat) : Bool := opn h c && p (dg h c)
theorem gp_opn {p : Int → Bool} {h : List Nat} (c : Nat) (z : gp p h c = true) : opn h c = true := (Bool.and_eq_true_iff.mp z).1
/-! ### what two heaps have in common -/
def meet (a b : List Nat) : List Nat := (List.range (min a.length b.length)).map fun c => min (hAt a c) (hAt b c)
theorem hAt_meet (a b : List Nat) (c : Nat) : hAt (meet a b) c = min (hAt a c) (hAt b c) := by
  by_cases q : c < min a.length b.length
  · unfold hAt meet
    rw [List.getD_eq_getElem?_getD, List.getElem?_map, List.getElem?_range q]
    rfl
  · rw [hAt_ge (show (meet a b).length ≤ c by unfold meet; rw [List.length_map, List.length_range]; omega)]
    by_cases u : c < a.length
    · rw [hAt_ge (show b.length ≤ c by omega), Nat.min_zero]
    · rw [hAt_ge (show a.length ≤ c by omega), Nat.zero_min]
theorem meet_len (a b : List Nat) : (meet a b).length = min a.length b.length := by
  unfold meet
  rw [List.length_map, List.length_range]
theorem meet_heap {a b : List Nat} (A : IsHeap a) (B : IsHeap b) : IsHeap (meet a b) := by
  refine ⟨fun c hc => ?_, fun c => ?_⟩
  · rw [meet_len] at hc
    rw [hAt_meet]
    have := A.pos c (by omega)
    have := B.pos c (by omega)
    omega
  · rw [hAt_meet, hAt_meet]
    have := A.fall c
    have := B.fall c
    omega
theorem opn_iff {h : List Nat} {c : Nat} : opn h c = true ↔ (c = 0 ∨ hAt h c < hAt h (c - 1)) := by
  unfold opn
  rw [Bool.or_eq_true, decide_eq_true_iff, decide_eq_true_iff]
theorem bool_ext {a b : Bool} (h : a = true ↔ b = true) : a = b := by
  cases a <;> cases b <;> simp_all
theorem meet_gp {p : Int → Bool} {a b : List Nat} (B : IsHeap b) {c : Nat} (q : hAt a c < hAt b c) : gp p (meet a b) c = gp p a c := by
  have e : hAt (meet a b) c = hAt a c := by
    rw [hAt_meet]
    omega
  have d : dg (meet a b) c = dg a c := by
    unfold dg
    rw [e]
  have o : opn (meet a b) c = opn a c := bool_ext (by
    rw [opn_iff, opn_iff, e, hAt_meet]
    have := B.le (show c - 1 ≤ c by omega)
    omega)
  unfold gp
  rw [d, o]
theorem meet_comm (a b : List Nat) : meet a b = meet b a := by
  unfold meet
  rw [Nat.min_comm]
  exact List.map_congr_left fun c _ => Nat.min_comm _ _
theorem meet_gp2 {p : Int → Bool} {a b : List Nat} {c : Nat} (q : hAt a c = hAt b c) : gp p (meet a b) c = (gp p a c && gp p b c) := by
  have e : hAt (meet a b) c = hAt a c := by
    rw [hAt_meet]
    omega
  have d : dg (meet a b) c = dg a c := by
    unfold dg
    rw [e]
  have d2 : dg b c = dg a c := by
    unfold dg
    rw [q]
  have o : opn (meet a b) c = (opn a c && opn b c) := bool_ext (by
    rw [Bool.and_eq_true, opn_iff, opn_iff, opn_iff, e, hAt_meet, ← q]
    omega)
  unfold gp
  rw [d, d2, o]
  cases opn a c <;> cases opn b c <;> cases p (dg a c) <;> rfl
theorem meet_grow {p : Int → Bool} {a b : List Nat} (A : IsHeap a) (B : IsHeap b) : grow (meet a b) (gp p (meet a b)) = meet (grow a (gp p a)) (grow b (gp p b)) := by
  refine heap_ext (grow_heap (meet_heap A B) gp_opn) (meet_heap (grow_heap A gp_opn) (grow_heap B gp_opn)) fun c => ?_
  rw [hAt_grow gp_opn, hAt_meet, hAt_meet, hAt_grow gp_opn, hAt_grow gp_opn]
  rcases Nat.lt_trichotomy (hAt a c) (hAt b c) with q | q | q
  · rw [meet_gp B q]
    have := b2n_le (gp p a c)
    omega
  · rw [meet_gp2 q, q]
    cases gp p a c <;> cases gp p b c <;> (unfold b2n; simp) <;> omega
  · rw [meet_comm, meet_gp A q]
    have := b2n_le (gp p b c)
    omega
/-! ### what is held -/
def Sub (f h : List Nat) : Prop := ∀ c, hAt f c ≤ hAt h c
theorem Sub.refl (h : List Nat) : Sub h h := fun _ => Nat.le_refl _
theorem Sub.len {f h : List Nat} (F : IsHeap f) (s : Sub f h) : f.length ≤ h.length := by
  rcases Nat.lt_or_ge h.length f.length with q | q
  · have a := F.pos _ q
    have b := s h.length
    rw [hAt_ge (Nat.le_refl _)] at b
    omega
  · exact q
theorem sub_grow {p : Int → Bool} {f h : List Nat} {g : Nat → Bool} (s : Sub f h) (hg : ∀ c, g c = true → gp p f c = true) : Sub (grow f g) (grow h (gp p h)) := fun c => by
  rw [hAt_grow fun c z => gp_opn c (hg c z), hAt_grow gp_opn]
  have a := s c
  by_cases q : g c = true
  · have z := hg c q
    by_cases e : hAt f c < hAt h c
    · have := b2n_le (g c)
      omega
    · have e2 : hAt f c = hAt h c := by omega
      have : gp p h c = true := by
        unfold gp at z ⊢
        rw [Bool.and_eq_true] at z ⊢
        refine ⟨opn_iff.mpr ?_, ?_⟩
        · have := opn_iff.mp z.1
          have := s (c - 1)
          omega
        · have d : dg h c = dg f c := by
            unfold dg
            rw [e2]
          rw [d]
          exact z.2
      rw [q, this]
      omega
  · have : g c = false := by simpa using q
    rw [this]
    show _ + 0 ≤ _
    omega
theorem sub_more {f h : List Nat} {g : Nat → Bool} (s : Sub f h) (hg : ∀ c, g c = true → opn h c = true) : Sub f (grow h g) := fun c => by
  rw [hAt_grow hg]
  have := s c
  omega
/-! ### turned over -/
def conj (h : List Nat) : List Nat := (List.range (hAt h 0)).map fun r => (h.filter fun x => decide (r < x)).length
theorem IsHeap.pairs {h : List Nat} (H : IsHeap h) : h.Pairwise (fun a b => b ≤ a) := by
  refine List.pairwise_iff_getElem.mpr fun i j hi hj hij => ?_
  have := H.le (Nat.le_of_lt hij)
  have a := hAt_lt hi
  have b := hAt_lt hj
  rw [List.getElem?_eq_getElem hi] at a
  rw [List.getElem?_eq_getElem hj] at b
  rw [Option.some.inj a, Option.some.inj b]
  exact this
theorem cnt_iff : ∀ (l : List Nat), l.Pairwise (fun a b => b ≤ a) → ∀ c r, c < (l.filter fun x => decide (r < x)).length ↔ r < hAt l c
  | [], _, c, r => by
    rw [hAt_ge (Nat.zero_le _)]
    constructor
    · intro z
      exact absurd z (Nat.not_lt_zero c)
    · intro z
      exact absurd z (Nat.not_lt_zero r)
  | x :: l, hp, c, r => by
    obtain ⟨h1, h2⟩ := List.pairwise_cons.mp hp
    by_cases q : r < x
    · rw [List.filter_cons, if_pos (decide_eq_true q), List.length_cons]
      cases c with
      | zero => exact ⟨fun _ => q, fun _ => Nat.zero_lt_succ _⟩
      | succ c =>
        have := cnt_iff l h2 c r
        show c + 1 < _ + 1 ↔ r < hAt l c
        omega
    · have none : ∀ y ∈ x :: l, ¬ r < y := fun y hy => by
        rcases List.mem_cons.mp hy with rfl | hy
        · exact q
        · have := h1 y hy
          omega
      have e : ((x :: l).filter fun y => decide (r < y)) = [] := List.filter_eq_nil_iff.mpr fun y hy => by
        rw [decide_eq_false (none y hy)]
        decide
      rw [e]
      constructor
      · intro z
        exact absurd z (Nat.not_lt_zero c)
      · intro z
        by_cases u : c < (x :: l).length
        · exact absurd z (none _ (List.mem_of_getElem? (hAt_lt u)))
        · rw [hAt_ge (by omega)] at z
          exact absurd z (Nat.not_lt_zero r)
theorem conj_len (h : List Nat) : (conj h).length = hAt h 0 := by
  unfold conj
  rw [List.length_map, List.length_range]
theorem conj_iff {h : List Nat} (H : IsHeap h) (c r : Nat) : c < hAt (conj h) r ↔ r < hAt h c := by
  by_cases q : r < hAt h 0
  · have e : hAt (conj h) r = (h.filter fun x => decide (r < x)).length := by
      unfold hAt conj
      rw [List.getD_eq_getElem?_getD, List.getElem?_map, List.getElem?_range q]
      rfl
    rw [e]
    exact cnt_iff h H.pairs c r
  · rw [hAt_ge (by rw [conj_len]; omega)]
    have := H.le (Nat.zero_le c)
    constructor
    · intro z
      exact absurd z (Nat.not_lt_zero c)
    · intro z
      omega
theorem conj_heap {h : List Nat} (H : IsHeap h) : IsHeap (conj h) := by
  refine ⟨fun r hr => ?_, fun r => ?_⟩
  · rw [conj_len] at hr
    exact (conj_iff H 0 r).mpr hr
  · rcases Nat.lt_or_ge (hAt (conj h) r) (hAt (conj h) (r + 1)) with z | z
    · have a := (conj_iff H _ _).mp z
      exact absurd ((conj_iff H (hAt (conj h) r) r).mpr (by omega)) (Nat.lt_irrefl _)
    · exact z
theorem turn_sq {p p' : Int → Bool} (hp : ∀ z, p z = true → p' (-z) = true) {h k : List Nat} (hk : ∀ c r, c < hAt k r ↔ r < hAt h c) {c : Nat} (g : gp p h c = true) : c = hAt k (hAt h c) ∧ gp p' k (hAt h c) = true := by
  unfold gp at g
  obtain ⟨o, z⟩ := Bool.and_eq_true_iff.mp g
  have o' := opn_iff.mp o
  have e : hAt k (hAt h c) = c := by
    have a : ¬ c < hAt k (hAt h c) := fun z => absurd ((hk _ _).mp z) (Nat.lt_irrefl _)
    rcases Nat.lt_or_ge (hAt k (hAt h c)) c with q | q
    · have b : ¬ (c - 1 < hAt k (hAt h c)) := by omega
      rw [hk] at b
      omega
    · omega
  refine ⟨e.symm, ?_⟩
  unfold gp
  rw [Bool.and_eq_true]
  refine ⟨opn_iff.mpr ?_, ?_⟩
  · by_cases q : hAt h c = 0
    · exact .inl q
    · refine .inr ?_
      rw [e]
      exact (hk _ _).mpr (by omega)
  · have : dg k (hAt h c) = -(dg h c) := by
      unfold dg
      rw [e]
      omega
    rw [this]
    exact hp _ z
theorem conj_grow {p p' : Int → Bool} (hp : ∀ z, p' (-z) = p z) {h : List Nat} (H : IsHeap h) : conj (grow h (gp p h)) = grow (conj h) (gp p' (conj h)) := by
  have G := grow_heap H (gp_opn (p := p) (h := h))
  have C := conj_heap H
  refine heap_ext (conj_heap G) (grow_heap C gp_opn) fun r => nat_ext fun c => ?_
  rw [conj_iff G, hAt_grow gp_opn, hAt_grow gp_opn]
  have k := conj_iff H c r
  by_cases q : r < hAt h c
  · have := k.mpr q
    omega
  · have q2 : ¬ c < hAt (conj h) r := fun z => q (k.mp z)
    constructor
    · intro z
      cases u : gp p h c with
      | false =>
        rw [u] at z
        exact absurd z (by show ¬ r < hAt h c + 0; omega)
      | true =>
        rw [u] at z
        have z' : r < hAt h c + 1 := z
        have e : r = hAt h c := by omega
        obtain ⟨a, b⟩ := turn_sq (p := p) (p' := p') (fun z y => (hp z).trans y) (conj_iff H) u
        subst e
        rw [b]
        show c < _ + 1
        omega
    · intro z
      cases u : gp p' (conj h) r with
      | false =>
        rw [u] at z
        exact absurd z (by show ¬ c < hAt (conj h) r + 0; omega)
      | true =>
        rw [u] at z
        have z' : c < hAt (conj h) r + 1 := z
        have e : c = hAt (conj h) r := by omega
        have back : ∀ y, p' y = true → p (-y) = true := fun y hy => by
          have := hp (-y)
          rw [Int.neg_neg] at this
          rw [← this]
          exact hy
        obtain ⟨a, b⟩ := turn_sq (p := p') (p' := p) back (h := conj h) (k := h) (fun c r => (conj_iff H r c).symm) u
        subst e
        rw [b]
        show r < _ + 1
        omega
end HM

/-! own walk: zip of three tuples -/
namespace Z3
open PySem PySem.Spec PyProof.Rows L2
/-- three tuples, their items in new threes -/
def It3 (K : PySem.W.Frag) (a b c : Addr) : It :=
  ⟨fun i H => ∃ (xs ys us : List V) (x y u : V), SqT K H a xs ∧ SqT K H b ys ∧ SqT K H c us ∧ xs[i]? = some x ∧ ys[i]? = some y ∧ us[i]? = some u,
    fun i H v H' => ∃ T x y u, v = .ref T ∧ H T = none ∧ H' = upd H T (.tup [x, y, u]) ∧ (∀ xs, SqT K H a xs → xs[i]? = some x) ∧ (∀ ys, SqT K H b ys → ys[i]? = some y) ∧ ∀ us, SqT K H c us → us[i]? = some u,
    fun i H => ∃ xs ys us : List V, SqT K H a xs ∧ SqT K H b ys ∧ SqT K H c us ∧ xs.length = i ∧ ys.length = i ∧ us.length = i⟩
theorem turn3 {P : Program} {w : World} {K : PySem.W.Frag} {elts : List Expr} {kk : Nat} {tpos : Pos} {a b c z TI TO i1 i2 i3 : Addr} (S : ZipSep3 z TI TO i1 i2 i3 [i1, a] [i2, b] [i3, c]) (na : a ≠ i1) (nb : b ≠ i2) (nc : c ≠ i3) (w1 : z ≠ i1 ∧ z ≠ i2 ∧ z ≠ i3) :
    Turn P w K (.Tuple elts kk tpos) (It3 K a b c) [z, TI, TO, i1, i2, i3] z (fun i h => IsZip h z TI TO .none ∧ IsTupOf3 h TI (.ref i1) (.ref i2) (.ref i3) ∧ (∃ x y u, IsTupOf3 h TO x y u) ∧ h.IsTupleIter i1 a i ∧ h.IsTupleIter i2 b i ∧ h.IsTupleIter i3 c i) where
  mem := by simp
  obj := fun i h st t ht => by
    obtain ⟨hz, hTI, ⟨x, y, u, hTO⟩, ⟨o1, e1, _, d1⟩, ⟨o2, e2, _, d2⟩, ⟨o3, e3, _, d3⟩⟩ := st
    rcases (show t = z ∨ t = TI ∨ t = TO ∨ t = i1 ∨ t = i2 ∨ t = i3 by simpa using ht) with q | q | q | q | q | q
    · rw [q]
      exact ⟨_, hz, fun v q => nomatch q⟩
    · rw [q]
      exact ⟨_, hTI, fun v q => nomatch q⟩
    · rw [q]
      exact ⟨_, hTO, fun v q => nomatch q⟩
    · exact ⟨o1, q ▸ e1, fun v q => by rw [d1] at q; cases q⟩
    · exact ⟨o2, q ▸ e2, fun v q => by rw [d2] at q; cases q⟩
    · exact ⟨o3, q ▸ e3, fun v q => by rw [d3] at q; cases q⟩
  keep := fun i h h' st k => by
    obtain ⟨hz, hTI, ⟨x, y, u, hTO⟩, h1, h2, h3⟩ := st
    exact ⟨k z (by simp) _ hz, k TI (by simp) _ hTI, ⟨x, y, u, k TO (by simp) _ hTO⟩, h1.at fun o q => k i1 (by simp) o q, h2.at fun o q => k i2 (by simp) o q, h3.at fun o q => k i3 (by simp) o q⟩
  item := by
    intro X eP eW eK hc i pins s σ H E I hf st hg
    subst eP eW eK
    obtain ⟨hz, hTI, ⟨x0, y0, u0, hTO⟩, h1, h2, h3⟩ := st
    obtain ⟨xs, ys, us, x, y, u, qx, qy, qu, gx, gy, gu⟩ := hg
    obtain ⟨t1, r1, p1, _⟩ := I.tuple qx
    obtain ⟨t2, r2, p2, _⟩ := I.tuple qy
    obtain ⟨t3, r3, p3, _⟩ := I.tuple qu
    obtain ⟨v1, m1, rv1⟩ := r1.get gx
    obtain ⟨v2, m2, rv2⟩ := r2.get gy
    obtain ⟨v3, m3, rv3⟩ := r3.get gu
    have l1 : i < t1.toArray.size := by simpa using (List.getElem?_eq_some_iff.mp m1).1
    have l2 : i < t2.toArray.size := by simpa using (List.getElem?_eq_some_iff.mp m2).1
    have l3 : i < t3.toArray.size := by simpa using (List.getElem?_eq_some_iff.mp m3).1
    have hzl : z < s.heap.objs.size := Heap.lt_size hz
    have hh : X.A.in1.handled = none := I.ok.hd hc
    refine wpAny_pyNext_zipD3_item S (Draws.tuple hh i1 a na t1.toArray) (Draws.tuple hh i2 b nb t2.toArray) (Draws.tuple hh i3 c nc t3.toArray) hz hTI hTO ⟨h1, p1⟩ ⟨h2, p2⟩ ⟨h3, p3⟩ l1 l2 l3 fun w1' w2' w3' h' tk g1 g2 g3 zz tt s1 s2 s3 hT hsz hk => ?_
    have a1 : w1' = v1 := Option.some.inj (g1.symm.trans (by simpa using m1))
    have a2 : w2' = v2 := Option.some.inj (g2.symm.trans (by simpa using m2))
    have a3 : w3' = v3 := Option.some.inj (g3.symm.trans (by simpa using m3))
    subst a1 a2 a3
    refine ⟨_, rfl, wpAny_letOwnedTupleGo_zip (s := { s with heap := h', toks := tk }) zz fun h2' z2 sb => ?_⟩
    have hT2 : h2'.get? s.heap.objs.size = some { cls := .type "tuple", data := .seq #[w1', w2', w3'] } := (sb.2 _ (Nat.ne_of_gt hzl)).trans hT
    have made : ObjOk X.prog X.w (upd H s.heap.objs.size (.tup [x, y, u])) h2' s.heap.objs.size (.tup [x, y, u]) :=
      ⟨by show 3 ≤ sizeLine; decide, [w1', w2', w3'], .cons rv1 (.cons rv2 (.cons rv3 .nil)), ⟨_, hT2, rfl, _, rfl⟩⟩
    have I2 : Inv X pins σ (upd H s.heap.objs.size (.tup [x, y, u])) { s with heap := h2', toks := tk } :=
      I.turnedNew (ch := [z, TI, TO, i1, i2, i3]) (fun t o ht q => (sb.2 t (fun e => ht (by simp [e]))).trans (hk t o (fun e => ht (by simp [e])) (fun e => ht (by simp [e])) (fun e => ht (by simp [e])) (fun e => ht (by simp [e])) (fun e => ht (by simp [e])) q)) hf (Nat.le_refl _) made
    refine ⟨.ref s.heap.objs.size, _, I2, rfl, ⟨_, x, y, u, rfl, I.hok.fresh (Nat.le_refl _), rfl, fun l hl => by rw [EnT.tup_inj I hl qx]; exact gx, fun l hl => by rw [EnT.tup_inj I hl qy]; exact gy, fun l hl => by rw [EnT.tup_inj I hl qu]; exact gu⟩,
      ⟨z2, (sb.2 _ S.TIz).trans (hk _ _ S.TIz S.TITO S.TIi1 S.TIi2 S.TIi3 hTI), ⟨w1', w2', w3', (sb.2 _ S.TOz).trans tt⟩, s1.1.at fun o q => (sb.2 _ w1.1.symm).trans q, s2.1.at fun o q => (sb.2 _ w1.2.1.symm).trans q, s3.1.at fun o q => (sb.2 _ w1.2.2.symm).trans q⟩, fun t ht => ?_⟩
    have lt : t < s.heap.objs.size := by
      rcases (show t = z ∨ t = TI ∨ t = TO ∨ t = i1 ∨ t = i2 ∨ t = i3 by simpa using ht) with q | q | q | q | q | q
      · exact q ▸ hzl
      · exact q ▸ Heap.lt_size hTI
      · exact q ▸ Heap.lt_size hTO
      · obtain ⟨_, e, _⟩ := h1
        exact q ▸ Heap.lt_size e
      · obtain ⟨_, e, _⟩ := h2
        exact q ▸ Heap.lt_size e
      · obtain ⟨_, e, _⟩ := h3
        exact q ▸ Heap.lt_size e
    rw [upd_ne (Nat.ne_of_lt lt)]
    exact (hf t ht).1
  done := by
    intro X eP eW eK hc i pins s σ H E I hf st hg
    subst eP eW eK
    obtain ⟨hz, hTI, ⟨x0, y0, u0, hTO⟩, h1, h2, h3⟩ := st
    obtain ⟨xs, ys, us, qx, qy, qu, gx, gy, gu⟩ := hg
    obtain ⟨t1, r1, p1, _⟩ := I.tuple qx
    obtain ⟨t2, r2, p2, _⟩ := I.tuple qy
    obtain ⟨t3, r3, p3, _⟩ := I.tuple qu
    have k1 := r1.length
    have k2 := r2.length
    have k3 := r3.length
    have hh : X.A.in1.handled = none := I.ok.hd hc
    exact wpAny_pyNext_zipD3_end S (Draws.tuple hh i1 a na t1.toArray) (Draws.tuple hh i2 b nb t2.toArray) (Draws.tuple hh i3 c nc t3.toArray) hz hTI hTO ⟨h1, p1⟩ ⟨h2, p2⟩ ⟨h3, p3⟩ (by rw [List.size_toArray]; omega) (by rw [List.size_toArray]; omega) (by rw [List.size_toArray]; omega) (.inl (by rw [List.size_toArray]; omega))
      fun h' tk hk => ⟨rfl, I.turnedL (ch := [z, TI, TO, i1, i2, i3]) (fun t o ht q => hk t o (fun e => ht (by simp [e])) (fun e => ht (by simp [e])) (fun e => ht (by simp [e])) (fun e => ht (by simp [e])) (fun e => ht (by simp [e])) q) hf⟩
  self := fun A i s Q E st h => wpAny_pyIter_zip st.1 h
def iZip3 (K : PySem.W.Frag) (ta : TA) : TI := fun σ H R => ta σ H fun vs H1 => ∃ a b c xs ys us, vs = [.ref a, .ref b, .ref c] ∧ SqT K H1 a xs ∧ SqT K H1 b ys ∧ SqT K H1 c us ∧ R (It3 K a b c) H1
theorem pi_zip3 {X : Cx} {e e2 e3 : Expr} {ta : TA} {p pos tpos : Pos} {elts : List Expr} {kk : Nat} (hg : Gl X "zip") (hm : X.mg "zip" = none) (ha : PA X [e, e2, e3] ta)
    (hs : starEach [e, e2, e3] X.env = (false, eval e X.env) :: starEach [e2, e3] X.env := by rfl) (hpl : (backTo pos (starEach [e2, e3] X.env)).any (·.1) = false := by rfl) :
    PI X (.Tuple elts kk tpos) (.Call (.Name "zip" p) [e, e2, e3] [] pos) (iZip3 X.K ta) := by
  refine ⟨fun pins s σ H R I h => ?_⟩
  refine Call_ (ld_blt I hg hm PyProof.Rows.boot_zip (PyProof.Rows.callWith_type1 (thn (ha.run pos pins s σ H _ I h) fun vs' s1 ⟨vs, H1, I1, r1, q1⟩ => ?_) hs hpl))
  obtain ⟨a, b, c, xs, ys, us, ex, qx, qy, qu, q⟩ := q1
  subst ex
  obtain ⟨t1, r1', p1, _⟩ := I1.tuple qx
  obtain ⟨t2, r2', p2, _⟩ := I1.tuple qy
  obtain ⟨t3, r3', p3, _⟩ := I1.tuple qu
  cases r1 with
  | cons ra rr =>
    cases rr with
    | cons rb rr =>
      cases rr with
      | cons rc rr =>
        cases rr
        cases ra
        cases rb
        cases rc
        have la : a < s1.heap.objs.size := by
          obtain ⟨_, e, _⟩ := p1
          exact Heap.lt_size e
        have lb : b < s1.heap.objs.size := by
          obtain ⟨_, e, _⟩ := p2
          exact Heap.lt_size e
        have lc : c < s1.heap.objs.size := by
          obtain ⟨_, e, _⟩ := p3
          exact Heap.lt_size e
        refine zip_begins3 (begins_tuple a t1.toArray) (begins_tuple b t2.toArray) (begins_tuple c t3.toArray) p1 p2 p3 fun h' hz hTI hTO g1 g2 g3 _ hk => wpAny_pyIter_zip hz ?_
        have I2 : Inv X pins σ H1 { s1 with heap := h' } := I1.kept (t' := s1.toks) hk
        have S : ZipSep3 (s1.heap.objs.size + 5) (s1.heap.objs.size + 3) (s1.heap.objs.size + 4) s1.heap.objs.size (s1.heap.objs.size + 1) (s1.heap.objs.size + 2) [s1.heap.objs.size, a] [s1.heap.objs.size + 1, b] [s1.heap.objs.size + 2, c] :=
          zip_sep3 (fun t ht => by rw [List.mem_singleton.mp ht]; exact la) (fun t ht => by rw [List.mem_singleton.mp ht]; exact lb) (fun t ht => by rw [List.mem_singleton.mp ht]; exact lc)
        have add : ∀ {m k : Nat}, m ≠ k → s1.heap.objs.size + m ≠ s1.heap.objs.size + k := fun n e => n (Nat.add_left_cancel e)
        refine ⟨s1.heap.objs.size + 5, [s1.heap.objs.size + 5, s1.heap.objs.size + 3, s1.heap.objs.size + 4, s1.heap.objs.size, s1.heap.objs.size + 1, s1.heap.objs.size + 2], _, _, H1, rfl, I2,
          turn3 S (Nat.ne_of_lt la) (Nat.ne_of_lt (Nat.lt_succ_of_lt lb)) (Nat.ne_of_lt (Nat.lt_succ_of_lt (Nat.lt_succ_of_lt lc))) ⟨add (m := 5) (k := 0) (by decide), add (by decide), add (by decide)⟩,
          ⟨hz, hTI, ⟨_, _, _, hTO⟩, ⟨_, g1, rfl, rfl⟩, ⟨_, g2, rfl, rfl⟩, ⟨_, g3, rfl, rfl⟩⟩, fun t ht => ?_, q⟩
        have le : s1.heap.objs.size ≤ t := by
          rcases (show t = s1.heap.objs.size + 5 ∨ t = s1.heap.objs.size + 3 ∨ t = s1.heap.objs.size + 4 ∨ t = s1.heap.objs.size ∨ t = s1.heap.objs.size + 1 ∨ t = s1.heap.objs.size + 2 by simpa using ht) with q | q | q | q | q | q
          · exact q ▸ Nat.le_add_right _ _
          · exact q ▸ Nat.le_add_right _ _
          · exact q ▸ Nat.le_add_right _ _
          · exact q ▸ Nat.le_refl _
          · exact q ▸ Nat.le_add_right _ _
          · exact q ▸ Nat.le_add_right _ _
        exact I1.fpOk le (I1.hok.fresh le)
theorem for_zip3 {K : PySem.W.Frag} {a b c : Addr} {xs ys us : List V} {n : Nat} {g : TG} {tb : TS} {D : Ends} {σ : L2.St} {H : Hp} (hx : xs.length = n) (hy : ys.length = n) (hu : us.length = n)
    (Pv : Nat → L2.St → Hp → Prop) (h0 : Pv 0 σ H) (hq : ∀ i σ H, Pv i σ H → SqT K H a xs ∧ SqT K H b ys ∧ SqT K H c us)
    (hs : ∀ i x y u T σ H, i < n → xs[i]? = some x → ys[i]? = some y → us[i]? = some u → Pv i σ H → H T = none → g (.ref T) σ (upd H T (.tup [x, y, u])) fun σ2 H2 => tb { D with nx := Pv (i + 1), ct := Pv (i + 1), bk := D.nx } σ2 H2) (hd : ∀ σ H, Pv n σ H → D.nx σ H) :
    ∃ W : Nat → Nat → L2.St → Hp → Prop, (∃ m, W 0 m σ H) ∧ ∀ i m σ H, W i m σ H →
      ((It3 K a b c).stop i H ∧ D.nx σ H) ∨ ((It3 K a b c).go i H ∧ ∃ N : L2.St → Hp → Prop, (∀ σ' H', N σ' H' → ∃ m', m' < m ∧ W (i + 1) m' σ' H') ∧ ∀ v H', (It3 K a b c).yld i H v H' → g v σ H' fun σ2 H2 => tb { D with nx := N, ct := N, bk := D.nx } σ2 H2) := by
  refine ⟨fun i m σ H => m = n - i ∧ i ≤ n ∧ Pv i σ H, ⟨n, (Nat.sub_zero n).symm, Nat.zero_le _, h0⟩, ?_⟩
  rintro i m σ H ⟨rfl, hi, p⟩
  obtain ⟨qa, qb, qc⟩ := hq i σ H p
  by_cases hlt : i < n
  · have e1 : xs[i]? = some (xs[i]'(by omega)) := List.getElem?_eq_getElem _
    have e2 : ys[i]? = some (ys[i]'(by omega)) := List.getElem?_eq_getElem _
    have e3 : us[i]? = some (us[i]'(by omega)) := List.getElem?_eq_getElem _
    refine .inr ⟨⟨xs, ys, us, _, _, _, qa, qb, qc, e1, e2, e3⟩, Pv (i + 1), fun σ' H' p' => ⟨n - (i + 1), by omega, rfl, hlt, p'⟩, fun v H' hy' => ?_⟩
    obtain ⟨T, x, y, u, rfl, nT, rfl, fx, fy, fu⟩ := hy'
    exact hs i x y u T σ H hlt (fx _ qa) (fy _ qb) (fu _ qc) p nT
  · have e : i = n := by omega
    subst e
    exact .inl ⟨⟨xs, ys, us, qa, qb, qc, hx, hy, hu⟩, hd σ H p⟩
end Z3

/-! own walk: zip of a list and a tuple -/
namespace ZM
open PySem PySem.Spec PyProof.Rows L2
/-- a list and a tuple, their items in new pairs -/
def ItM (K : PySem.W.Frag) (a b : Addr) : It :=
  ⟨fun i H => ∃ (xs ys : List V) (x y : V), SqL K H a xs ∧ SqT K H b ys ∧ xs[i]? = some x ∧ ys[i]? = some y,
    fun i H v H' => ∃ T x y, v = .ref T ∧ H T = none ∧ H' = upd H T (.tup [x, y]) ∧ (∀ xs, SqL K H a xs → xs[i]? = some x) ∧ ∀ ys, SqT K H b ys → ys[i]? = some y,
    fun i H => ∃ xs ys : List V, SqL K H a xs ∧ SqT K H b ys ∧ xs.length = i ∧ ys.length = i⟩
theorem turnM {P : Program} {w : World} {K : PySem.W.Frag} {elts : List Expr} {kk : Nat} {tpos : Pos} {a b z TI TO i1 i2 : Addr} (S : ZipSep2 z TI TO i1 i2 [i1, a] [i2, b]) (na : a ≠ i1) (nb : b ≠ i2) (w1 : z ≠ i1 ∧ z ≠ i2) :
    Turn P w K (.Tuple elts kk tpos) (ItM K a b) [z, TI, TO, i1, i2] z (fun i h => IsZip h z TI TO .none ∧ IsTupOf2 h TI (.ref i1) (.ref i2) ∧ (∃ x y, IsTupOf2 h TO x y) ∧ h.IsListIter i1 a i ∧ h.IsTupleIter i2 b i) where
  mem := by simp
  obj := fun i h st t ht => by
    obtain ⟨hz, hTI, ⟨x, y, hTO⟩, ⟨o1, e1, _, d1⟩, ⟨o2, e2, _, d2⟩⟩ := st
    rcases (show t = z ∨ t = TI ∨ t = TO ∨ t = i1 ∨ t = i2 by simpa using ht) with q | q | q | q | q
    · rw [q]
      exact ⟨_, hz, fun v q => nomatch q⟩
    · rw [q]
      exact ⟨_, hTI, fun v q => nomatch q⟩
    · rw [q]
      exact ⟨_, hTO, fun v q => nomatch q⟩
    · exact ⟨o1, q ▸ e1, fun v q => by rw [d1] at q; cases q⟩
    · exact ⟨o2, q ▸ e2, fun v q => by rw [d2] at q; cases q⟩
  keep := fun i h h' st k => by
    obtain ⟨hz, hTI, ⟨x, y, hTO⟩, h1, h2⟩ := st
    exact ⟨k z (by simp) _ hz, k TI (by simp) _ hTI, ⟨x, y, k TO (by simp) _ hTO⟩, h1.at fun o q => k i1 (by simp) o q, h2.at fun o q => k i2 (by simp) o q⟩
  item := by
    intro X eP eW eK hc i pins s σ H E I hf st hg
    subst eP eW eK
    obtain ⟨hz, hTI, ⟨x0, y0, hTO⟩, h1, h2⟩ := st
    obtain ⟨xs, ys, x, y, qx, qy, gx, gy⟩ := hg
    obtain ⟨t1, r1, p1, _⟩ := I.list qx
    obtain ⟨t2, r2, p2, _⟩ := I.tuple qy
    obtain ⟨v1, m1, rv1⟩ := r1.get gx
    obtain ⟨v2, m2, rv2⟩ := r2.get gy
    have l1 : i < t1.toArray.size := by simpa using (List.getElem?_eq_some_iff.mp m1).1
    have l2 : i < t2.toArray.size := by simpa using (List.getElem?_eq_some_iff.mp m2).1
    have hzl : z < s.heap.objs.size := Heap.lt_size hz
    have hh : X.A.in1.handled = none := I.ok.hd hc
    refine wpAny_pyNext_zipD2_item S (Draws.list hh i1 a na t1.toArray) (Draws.tuple hh i2 b nb t2.toArray) hz hTI hTO ⟨h1, p1.isList⟩ ⟨h2, p2⟩ l1 l2 fun w1' w2' h' tk g1 g2 zz tt s1 s2 hT hsz hk => ?_
    have a1 : w1' = v1 := Option.some.inj (g1.symm.trans (by simpa using m1))
    have a2 : w2' = v2 := Option.some.inj (g2.symm.trans (by simpa using m2))
    subst a1 a2
    refine ⟨_, rfl, wpAny_letOwnedTupleGo_zip (s := { s with heap := h', toks := tk }) zz fun h2' z2 sb => ?_⟩
    have hT2 : h2'.get? s.heap.objs.size = some { cls := .type "tuple", data := .seq #[w1', w2'] } := (sb.2 _ (Nat.ne_of_gt hzl)).trans hT
    have made : ObjOk X.prog X.w (upd H s.heap.objs.size (.tup [x, y])) h2' s.heap.objs.size (.tup [x, y]) :=
      ⟨by show 2 ≤ sizeLine; decide, [w1', w2'], .cons rv1 (.cons rv2 .nil), ⟨_, hT2, rfl, _, rfl⟩⟩
    have I2 : Inv X pins σ (upd H s.heap.objs.size (.tup [x, y])) { s with heap := h2', toks := tk } :=
      I.turnedNew (ch := [z, TI, TO, i1, i2]) (fun t o ht q => (sb.2 t (fun e => ht (by simp [e]))).trans (hk t o (fun e => ht (by simp [e])) (fun e => ht (by simp [e])) (fun e => ht (by simp [e])) (fun e => ht (by simp [e])) q)) hf (Nat.le_refl _) made
    refine ⟨.ref s.heap.objs.size, _, I2, rfl, ⟨_, x, y, rfl, I.hok.fresh (Nat.le_refl _), rfl, fun l hl => by rw [I.list_inj hl qx]; exact gx, fun l hl => by rw [I.tuple_inj hl qy]; exact gy⟩,
      ⟨z2, (sb.2 _ S.TIz).trans (hk _ _ S.TIz S.TITO S.TIi1 S.TIi2 hTI), ⟨w1', w2', (sb.2 _ S.TOz).trans tt⟩, s1.1.at fun o q => (sb.2 _ w1.1.symm).trans q, s2.1.at fun o q => (sb.2 _ w1.2.symm).trans q⟩, fun t ht => ?_⟩
    have lt : t < s.heap.objs.size := by
      rcases (show t = z ∨ t = TI ∨ t = TO ∨ t = i1 ∨ t = i2 by simpa using ht) with q | q | q | q | q
      · exact q ▸ hzl
      · exact q ▸ Heap.lt_size hTI
      · exact q ▸ Heap.lt_size hTO
      · obtain ⟨_, e, _⟩ := h1
        exact q ▸ Heap.lt_size e
      · obtain ⟨_, e, _⟩ := h2
        exact q ▸ Heap.lt_size e
    rw [upd_ne (Nat.ne_of_lt lt)]
    exact (hf t ht).1
  done := by
    intro X eP eW eK hc i pins s σ H E I hf st hg
    subst eP eW eK
    obtain ⟨hz, hTI, ⟨x0, y0, hTO⟩, h1, h2⟩ := st
    obtain ⟨xs, ys, qx, qy, gx, gy⟩ := hg
    obtain ⟨t1, r1, p1, _⟩ := I.list qx
    obtain ⟨t2, r2, p2, _⟩ := I.tuple qy
    have k1 := r1.length
    have k2 := r2.length
    have hh : X.A.in1.handled = none := I.ok.hd hc
    exact wpAny_pyNext_zipD2_end S (Draws.list hh i1 a na t1.toArray) (Draws.tuple hh i2 b nb t2.toArray) hz hTI hTO ⟨h1, p1.isList⟩ ⟨h2, p2⟩ (by rw [List.size_toArray]; omega) (by rw [List.size_toArray]; omega) (.inl (by rw [List.size_toArray]; omega))
      fun h' tk hk => ⟨rfl, I.turnedL (ch := [z, TI, TO, i1, i2]) (fun t o ht q => hk t o (fun e => ht (by simp [e])) (fun e => ht (by simp [e])) (fun e => ht (by simp [e])) (fun e => ht (by simp [e])) q) hf⟩
  self := fun A i s Q E st h => wpAny_pyIter_zip st.1 h
def iZipM (K : PySem.W.Frag) (ta : TA) : TI := fun σ H R => ta σ H fun vs H1 => ∃ a b xs ys, vs = [.ref a, .ref b] ∧ SqL K H1 a xs ∧ SqT K H1 b ys ∧ R (ItM K a b) H1
theorem pi_zipM {X : Cx} {e e2 : Expr} {ta : TA} {p pos tpos : Pos} {elts : List Expr} {kk : Nat} (hg : Gl X "zip") (hm : X.mg "zip" = none) (ha : PA X [e, e2] ta)
    (hs : starEach [e, e2] X.env = (false, eval e X.env) :: starEach [e2] X.env := by rfl) (hpl : (backTo pos (starEach [e2] X.env)).any (·.1) = false := by rfl) :
    PI X (.Tuple elts kk tpos) (.Call (.Name "zip" p) [e, e2] [] pos) (iZipM X.K ta) := by
  refine ⟨fun pins s σ H R I h => ?_⟩
  refine Call_ (ld_blt I hg hm PyProof.Rows.boot_zip (PyProof.Rows.callWith_type1 (thn (ha.run pos pins s σ H _ I h) fun vs' s1 ⟨vs, H1, I1, r1, q1⟩ => ?_) hs hpl))
  obtain ⟨a, b, xs, ys, ex, qx, qy, q⟩ := q1
  subst ex
  obtain ⟨t1, r1', p1, _⟩ := I1.list qx
  obtain ⟨t2, r2', p2, _⟩ := I1.tuple qy
  cases r1 with
  | cons ra rr =>
    cases rr with
    | cons rb rr =>
      cases rr
      cases ra
      cases rb
      have la : a < s1.heap.objs.size := by
        obtain ⟨_, e, _⟩ := p1.isList
        exact Heap.lt_size e
      have lb : b < s1.heap.objs.size := by
        obtain ⟨_, e, _⟩ := p2
        exact Heap.lt_size e
      refine zip_begins2 (begins_list a t1.toArray) (begins_tuple b t2.toArray) p1.isList p2 fun h' hz hTI hTO g1 g2 _ hk => wpAny_pyIter_zip hz ?_
      have I2 : Inv X pins σ H1 { s1 with heap := h' } := I1.kept (t' := s1.toks) hk
      have S : ZipSep2 (s1.heap.objs.size + 4) (s1.heap.objs.size + 2) (s1.heap.objs.size + 3) s1.heap.objs.size (s1.heap.objs.size + 1) [s1.heap.objs.size, a] [s1.heap.objs.size + 1, b] :=
        zip_sep2 (fun t ht => by rw [List.mem_singleton.mp ht]; exact la) (fun t ht => by rw [List.mem_singleton.mp ht]; exact lb)
      have add : ∀ {m k : Nat}, m ≠ k → s1.heap.objs.size + m ≠ s1.heap.objs.size + k := fun n e => n (Nat.add_left_cancel e)
      refine ⟨s1.heap.objs.size + 4, [s1.heap.objs.size + 4, s1.heap.objs.size + 2, s1.heap.objs.size + 3, s1.heap.objs.size, s1.heap.objs.size + 1], _, _, H1, rfl, I2,
        turnM S (Nat.ne_of_lt la) (Nat.ne_of_lt (Nat.lt_succ_of_lt lb)) ⟨add (m := 4) (k := 0) (by decide), add (by decide)⟩,
        ⟨hz, hTI, ⟨_, _, hTO⟩, ⟨_, g1, rfl, rfl⟩, ⟨_, g2, rfl, rfl⟩⟩, fun t ht => ?_, q⟩
      have le : s1.heap.objs.size ≤ t := by
        rcases (show t = s1.heap.objs.size + 4 ∨ t = s1.heap.objs.size + 2 ∨ t = s1.heap.objs.size + 3 ∨ t = s1.heap.objs.size ∨ t = s1.heap.objs.size + 1 by simpa using ht) with q | q | q | q | q
        · exact q ▸ Nat.le_add_right _ _
        · exact q ▸ Nat.le_add_right _ _
        · exact q ▸ Nat.le_add_right _ _
        · exact q ▸ Nat.le_refl _
        · exact q ▸ Nat.le_add_right _ _
      exact I1.fpOk le (I1.hok.fresh le)
theorem lc_zipM {K : PySem.W.Frag} {a b : Addr} {xs ys : List V} {n : Nat} {g : TG} {tt : TT} {te : TE} {vs : List Nat} {σ : L2.St} {H1 : Hp} {D : Addr} {Qd : Hp → Prop} (hx : xs.length = n) (hy : ys.length = n)
    (Pv : Nat → Hp → Prop) (h0 : Pv 0 (upd H1 D (.lst []))) (hq : ∀ i H, Pv i H → SqL K H a xs ∧ SqT K H b ys)
    (hs : ∀ i x y T H, i < n → xs[i]? = some x → ys[i]? = some y → Pv i H → H T = none → g (.ref T) (wipe σ vs) (upd H T (.tup [x, y])) fun σ2 H2 => wipe σ2 vs = wipe σ vs ∧ tt σ2 H2 fun c H3 =>
      if c = true then te σ2 H3 fun z H4 => ∃ acc, H4 D = some (.lst acc) ∧ acc.length < sizeLine ∧ Pv (i + 1) (upd H4 D (.lst (acc ++ [z]))) else Pv (i + 1) H3) (hd : ∀ H, Pv n H → Qd H) :
    ∃ W : Nat → Nat → Hp → Prop, (∃ m, W 0 m (upd H1 D (.lst []))) ∧ ∀ i m H, W i m H →
      ((ItM K a b).stop i H ∧ Qd H) ∨ ((ItM K a b).go i H ∧ ∃ Nx : Hp → Prop, (∀ H', Nx H' → ∃ m', m' < m ∧ W (i + 1) m' H') ∧ ∀ v H', (ItM K a b).yld i H v H' → g v (wipe σ vs) H' fun σ2 H2 => wipe σ2 vs = wipe σ vs ∧ tt σ2 H2 fun c H3 =>
        if c = true then te σ2 H3 fun z H4 => ∃ acc, H4 D = some (.lst acc) ∧ acc.length < sizeLine ∧ Nx (upd H4 D (.lst (acc ++ [z]))) else Nx H3) := by
  refine ⟨fun i m H => m = n - i ∧ i ≤ n ∧ Pv i H, ⟨n, (Nat.sub_zero n).symm, Nat.zero_le _, h0⟩, ?_⟩
  rintro i m H ⟨rfl, hi, p⟩
  obtain ⟨qa, qb⟩ := hq i H p
  by_cases hlt : i < n
  · have e1 : xs[i]? = some (xs[i]'(by omega)) := List.getElem?_eq_getElem _
    have e2 : ys[i]? = some (ys[i]'(by omega)) := List.getElem?_eq_getElem _
    refine .inr ⟨⟨xs, ys, _, _, qa, qb, e1, e2⟩, Pv (i + 1), fun H' p' => ⟨n - (i + 1), by omega, rfl, hlt, p'⟩, fun v H' hy' => ?_⟩
    obtain ⟨T, x, y, rfl, nT, rfl, fx, fy⟩ := hy'
    exact hs i x y T H hlt (fx _ qa) (fy _ qb) p nT
  · have e : i = n := by omega
    subst e
    exact .inl ⟨⟨xs, ys, qa, qb, hx, hy⟩, hd H p⟩
end ZM

namespace K1
open PySem PySem.Spec PyProof.Rows L2 Evl HM LX ZW Z3 ZM
section
variable {P : Program} {w : World} {K : PySem.W.Frag} {mg : Str → Option Value} {base : Heap}
theorem int_get5 {ns : List Int} {i : Nat} (h : i < ns.length) : (ns.map V.int)[i]? = some (V.int (ns.getD i 0)) := by
  rw [List.getElem?_map, List.getD_eq_getElem?_getD, List.getElem?_eq_getElem h]
  rfl
def spCheckHeaps (K : PySem.W.Frag) : Sp := fun vs H Q _ => ∃ p q h f, vs = [.ref p, .ref q] ∧ HeapAt H p h ∧ HeapAt H q f ∧ Good h ∧ Good f ∧ ∀ H', Ex H H' → Q .non H'
theorem ok_check_heaps (T : Txt K mg) {f : Addr} {fd : FuncData} (D : DefAt K mg "check_heaps" sCheckHeaps ["one", "other"] f fd) : FnOk P w K mg base CX0 5 f fd ["one", "other"] (spCheckHeaps K) := by
  refine D.F.ok scCheckHeaps (fun vs H Q E h => ?_) (fun cdv A outer s H vs Q E hr h => ?_)
  · obtain ⟨p, q, h, f', rfl, _⟩ := h
    rfl
  · obtain ⟨p, q, h, f', rfl, hp, hq, G, F, k⟩ := h
    obtain ⟨f1, fd1, D1⟩ := T.d_check_heap
    refine ⟨_, pss_cons (ps_expr (pe_call (ok_check_heap T D1) hr (by rfl) D1.g D1.F.kp D1.b .nil pass0 (pa_cons (pv 0) pa_nil)))
      (pss_one (ps_expr (pe_call (ok_check_heap T D1) hr (by rfl) D1.g D1.F.kp D1.b .nil pass0 (pa_cons (pv 1) pa_nil)))), ?_⟩
    refine ⟨_, rfl, p, h, rfl, hp, G, fun H1 e1 => ?_⟩
    exact ⟨_, rfl, q, f', rfl, e1 _ _ hq, F, fun H2 e2 => k _ (e1.trans e2)⟩
def spHolds (K : PySem.W.Frag) : Sp := fun vs H Q _ => ∃ p q h f, vs = [.ref p, .ref q] ∧ HeapAt H p h ∧ HeapAt H q f ∧ Good h ∧ Good f ∧ Sub f h ∧ ∀ H', Ex H H' → Q (.bl true) H'
theorem ok_holds (T : Txt K mg) {f : Addr} {fd : FuncData} (D : DefAt K mg "holds" sHolds ["heap", "other"] f fd) : FnOk P w K mg base CX0 2 f fd ["heap", "other"] (spHolds K) := by
  refine D.F.ok scHolds (fun vs H Q E h => ?_) (fun cdv A outer s H vs Q E hr h => ?_)
  · obtain ⟨p, q, h, f', rfl, _⟩ := h
    rfl
  · obtain ⟨p, q, h, f', rfl, hp1, hq1, G, F, sb, k⟩ := h
    obtain ⟨f1, fd1, D1⟩ := T.d_height_at
    have hr1 : Room 1 _ := hr.mono (by decide)
    refine ⟨_, pss_one (ps_ret (pe_callB (cr_all rfl) (by rfl) T.z_all (by decide +kernel) (pa_cons (pe_lc (own := [("column", 2), ("height", 3)]) (g := gTup K 2 (gCons (gName 2) (gCons (gName 3) gNil))) (tt := tYes) rfl scHolds.nd (EnT.pi_enumT (by rfl) T.z_enumerate (pa_cons (pv 1) pa_nil))
        (blkOk_by (N := nHolds) (sc := defScope sHolds) (by decide +kernel)) (fun _ _ _ _ _ => (pg_tup (by rfl) (pgs_cons (pg_name (i := 2) scHolds.nd rfl (.inl rfl)) (pgs_cons (pg_name (i := 3) scHolds.nd rfl (.inl rfl)) pgs_nil)))) (fun _ _ _ _ _ => pts_nil)
        (fun _ _ _ _ _ => (pe_cmpR op_ge (pe_call (ok_height_at T D1) hr1 (by rfl) D1.g D1.F.kp D1.b .nil pass0 (pa_cons (pv 0) (pa_cons (pv 2) pa_nil))) (pv 3) (nomark _)))) pa_nil))), ?_⟩
    refine ⟨_, rfl, q, _, rfl, SqT.of hq1, fun Dl hD => ?_⟩
    refine lc_enumT (K := K) (a := q) (xs := hv f') (fun i H' => H' Dl = some (.lst ((List.replicate i true).map V.bl)) ∧ Ex H H') ⟨upd_same, Ex.new hD⟩ (fun i H' hp2 => SqT.of (hp2.2 _ _ hq1)) (fun i x Tp H' hx hp2 nT => ?_) (fun H' hp2 => ?_)
    · obtain ⟨w1, w2⟩ := hp2
      have hi : i < f'.length := by
        have := (List.getElem?_eq_some_iff.mp hx).1
        rw [hv_len] at this
        exact this
      rw [hv_get hi] at hx
      obtain rfl := Option.some.inj hx
      have eT := Ex.new (o := .tup [.int (i : Nat), .int (hAt f' i : Int)]) nT
      refine ⟨Tp, _, rfl, SqT.of upd_same, rfl, .int (i : Nat), [_], rfl, _, [], rfl, rfl, rfl, ?_⟩
      dsimp only [tYes]
      rw [if_pos rfl]
      refine ⟨_, rfl, _, rfl, p, h, i, rfl, (w2.trans eT) _ _ hp1, fun H3 e3 => ⟨_, rfl, _, _, rfl, rfl, ?_⟩⟩
      have F60 := F.len
      refine ⟨_, e3 _ _ (eT _ _ w1), ?_, ?_, Ex.mut ((w2.trans eT).trans e3) hD⟩
      · rw [List.length_map, List.length_replicate]
        exact small1000 (by omega)
      · rw [upd_same, List.replicate_succ', List.map_append]
        have : (hAt h i : Int) ≥ (hAt f' i : Int) := by
          have := sb i
          omega
        show some (HO.lst (_ ++ [V.bl (decide ((hAt h i : Int) ≥ (hAt f' i : Int)))])) = _
        rw [decide_eq_true this]
        rfl
    · refine ⟨Dl, List.replicate (hv f').length true, rfl, SqL.of hp2.1, ?_⟩
      rw [show (List.replicate (hv f').length true).all id = true by simp]
      exact k _ hp2.2
def spIsHeld (K : PySem.W.Frag) : Sp := spHolds K
theorem ok_is_held (T : Txt K mg) {f : Addr} {fd : FuncData} (D : DefAt K mg "is_held" sIsHeld ["heap", "other"] f fd) : FnOk P w K mg base CX0 6 f fd ["heap", "other"] (spIsHeld K) := by
  refine D.F.ok scIsHeld (fun vs H Q E h => ?_) (fun cdv A outer s H vs Q E hr h => ?_)
  · obtain ⟨p, q, h, f', rfl, _⟩ := h
    rfl
  · obtain ⟨p, q, h, f', rfl, hp, hq, G, F, sb, k⟩ := h
    obtain ⟨f1, fd1, D1⟩ := T.d_holds
    obtain ⟨f2, fd2, D2⟩ := T.d_check_heaps
    have hr2 : Room 2 _ := hr.mono (by decide)
    have hr5 : Room 5 _ := hr.mono (by decide)
    refine ⟨_, pss_cons (ps_expr (pe_call (ok_check_heaps T D2) hr5 (by rfl) D2.g D2.F.kp D2.b .nil pass0 (pa_cons (pv 0) (pa_cons (pv 1) pa_nil))))
      (pss_one (ps_ret (pe_call (ok_holds T D1) hr2 (by rfl) D1.g D1.F.kp D1.b .nil pass0 (pa_cons (pv 0) (pa_cons (pv 1) pa_nil))))), ?_⟩
    refine ⟨_, rfl, _, rfl, p, q, h, f', rfl, hp, hq, G, F, fun H1 e1 => ?_⟩
    exact ⟨_, rfl, _, rfl, p, q, h, f', rfl, e1 _ _ hp, e1 _ _ hq, G, F, sb, fun H2 e2 => k _ (e1.trans e2)⟩
def spCommonOf (K : PySem.W.Frag) : Sp := fun vs H Q _ => ∃ p q h f, vs = [.ref p, .ref q] ∧ HeapAt H p h ∧ HeapAt H q f ∧ Good h ∧ Good f ∧ ∀ r H', Ex H H' → HeapAt H' r (meet h f) → Q (.ref r) H'
theorem meet_take {a b : List Nat} {i : Nat} (hi : i < min a.length b.length) : ((List.range (i + 1)).map fun c => min (hAt a c) (hAt b c)) = ((List.range i).map fun c => min (hAt a c) (hAt b c)) ++ [min (hAt a i) (hAt b i)] := by
  rw [List.range_succ, List.map_append]
  rfl
theorem ok_common_of (T : Txt K mg) {f : Addr} {fd : FuncData} (D : DefAt K mg "common_of" sCommonOf ["one", "other"] f fd) : FnOk P w K mg base CX0 6 f fd ["one", "other"] (spCommonOf K) := by
  refine D.F.ok scCommonOf (fun vs H Q E h => ?_) (fun cdv A outer s H vs Q E hr h => ?_)
  · obtain ⟨p, q, h, f', rfl, _⟩ := h
    rfl
  · obtain ⟨p, q, h, f', rfl, hp, hq, G, F, k⟩ := h
    obtain ⟨f1, fd1, D1⟩ := T.d_check_heaps
    refine ⟨_, pss_cons (ps_expr (pe_call (ok_check_heaps T D1) hr (by rfl) D1.g D1.F.kp D1.b .nil pass0 (pa_cons (pv 0) (pa_cons (pv 1) pa_nil))))
      (pss_one (ps_ret (pe_callTy call_tuple_of (by rfl) T.z_tuple (by decide +kernel) (pa_cons (pe_lc (own := [("low", 2), ("high", 3)]) (g := gTup K 2 (gCons (gName 2) (gCons (gName 3) gNil))) (tt := tYes) rfl scCommonOf.nd (RZ.pi_zipA (by rfl) T.z_zip (pa_cons (pv 0) (pa_cons (pv 1) pa_nil)))
        (blkOk_by (N := nCommonOf) (sc := defScope sCommonOf) (by decide +kernel)) (fun _ _ _ _ _ => pg_tup (by rfl) (pgs_cons (pg_name (i := 2) scCommonOf.nd rfl (.inl rfl)) (pgs_cons (pg_name (i := 3) scCommonOf.nd rfl (.inl rfl)) pgs_nil))) (fun _ _ _ _ _ => pts_nil)
        (fun _ _ _ _ _ => pe_callB (call_min2 rfl) (by rfl) T.z_min (by decide +kernel) (pa_cons (pv 2) (pa_cons (pv 3) pa_nil)))) pa_nil)))), ?_⟩
    refine ⟨_, rfl, _, rfl, p, q, h, f', rfl, hp, hq, G, F, fun H1 e1 => ?_⟩
    have hp1 := e1 _ _ hp
    have hq1 := e1 _ _ hq
    refine ⟨_, rfl, _, rfl, p, q, _, _, rfl, .inr ⟨SqT.of hp1, SqT.of hq1, fun Dl hD => ?_⟩⟩
    refine lc_zipT (K := K) (a := p) (b := q) (xs := hv h) (ys := hv f') (n := min h.length f'.length) (by rw [hv_len]; omega) (by rw [hv_len]; omega) (by rw [hv_len, hv_len]; omega) (fun i H' => H' Dl = some (.lst (hv ((List.range i).map fun c => min (hAt h c) (hAt f' c)))) ∧ Ex H1 H') ⟨upd_same, Ex.new hD⟩ (fun i H' hp2 => ⟨SqT.of (hp2.2 _ _ hp1), SqT.of (hp2.2 _ _ hq1)⟩) (fun i x y Tp H' hi hx hy hp2 nT => ?_) (fun H' hp2 => ?_)
    · obtain ⟨w1, w2⟩ := hp2
      rw [hv_get (by omega)] at hx hy
      obtain rfl := Option.some.inj hx
      obtain rfl := Option.some.inj hy
      have eT := Ex.new (o := .tup [.int (hAt h i : Int), .int (hAt f' i : Int)]) nT
      refine ⟨Tp, _, rfl, SqT.of upd_same, rfl, .int _, [_], rfl, _, [], rfl, rfl, rfl, ?_⟩
      dsimp only [tYes]
      rw [if_pos rfl]
      have G60 := G.len
      refine ⟨_, rfl, _, rfl, _, _, rfl, _, eT _ _ w1, ?_, ?_, Ex.mut (w2.trans eT) hD⟩
      · rw [hv_len, List.length_map, List.length_range]
        exact small1000 (by omega)
      · rw [upd_same, meet_take hi, hv_snoc]
        have : (if (hAt f' i : Int) < (hAt h i : Int) then (hAt f' i : Int) else (hAt h i : Int)) = ((min (hAt h i) (hAt f' i) : Nat) : Int) := by
          split <;> omega
        rw [this]
    · refine ⟨Dl, _, rfl, .inl ⟨SqL.of hp2.1, fun r hr' => k r _ ((e1.trans hp2.2).trans (Ex.new hr')) upd_same⟩⟩
def rLenS (K : PySem.W.Frag) : List V → Hp → VK → Prop := fun xs H Q => ∃ (p : Addr) (ys : List V), xs = [V.ref p] ∧ (SqL K H p ys ∨ SqT K H p ys) ∧ Q (V.int (ys.length : Int)) H
def scRows : Scope := { kind := .function, names := [(".0", .local), ("row", .cell), ("len", .globalImplicit), ("heap", .free)], isGenerator := false, isCoroutine := false, more := [] }
def spLengthsOf (K : PySem.W.Frag) : Sp := fun vs H Q _ => ∃ p h, vs = [.ref p] ∧ HeapAt H p h ∧ Good h ∧ ∀ r H', Ex H H' → HeapAt H' r (conj h) → Q (.ref r) H'
theorem ok_lengths_of (T : Txt K mg) {f : Addr} {fd : FuncData} (D : DefAt K mg "lengths_of" sLengthsOf ["heap"] f fd) : FnOk P w K mg base CX0 2 f fd ["heap"] (spLengthsOf K) := by
  refine D.F.ok scLengthsOf (fun vs H Q E h => ?_) (fun cdv A outer s H vs Q E hr h => ?_)
  · obtain ⟨p, h, rfl, _⟩ := h
    rfl
  · obtain ⟨p, h, rfl, hp1, G, k⟩ := h
    obtain ⟨f1, fd1, D1⟩ := T.d_height_at
    have hr1 : Room 1 _ := hr.mono (by decide)
    refine ⟨_, pss_one (ps_ret (pe_callTy call_tuple_of (by rfl) T.z_tuple (by decide +kernel) (pa_cons (pe_lc (own := [("row", 2)]) (g := gName 2) (tt := tYes) rfl scLengthsOf.nd (pi_range1 (by rfl) T.z_range (pa_cons (pe_call (ok_height_at T D1) hr1 (by rfl) D1.g D1.F.kp D1.b .nil pass0 (pa_cons (pv 0) (pa_cons pe_int pa_nil))) pa_nil))
        (blkOk_by (N := nLengthsOf) (sc := defScope sLengthsOf) (by decide +kernel)) (fun _ _ _ _ _ => (pg_name (i := 2) scLengthsOf.nd rfl (.inr rfl))) (fun _ _ _ _ _ => pts_nil)
        (fun _ _ _ _ _ => pe_callB (show CallR _ _ (rLenS K) from call_len_seq) (by rfl) T.z_len PySem.boot_len (pa_cons (pe_lc (own := [("height", 1)]) (g := gName 1) (wi := iTup K (tVar 0)) rfl scLengthsOf.nd (pi_tup (pv 0))
          (blkOk_by (N := nLengthsOf) (sc := relS scRows (defScope sLengthsOf)) (by decide +kernel)) (fun _ _ _ _ _ => pg_name (i := 1) scLengthsOf.nd rfl (Or.inl rfl))
          (fun _ _ _ _ _ => pts_one (pt_cmpR op_gt (pv 1) (pv 2) (nomark _))) (fun _ _ _ _ _ => pv 1)) pa_nil))) pa_nil))), ?_⟩
    refine ⟨_, rfl, p, h, 0, rfl, hp1, fun H2 e2 => ?_⟩
    have hp2 := e2 _ _ hp1
    have ht := G.top
    have hl60 := G.len
    refine ⟨_, rfl, by omega, by omega, fun Dl hD => ?_⟩
    refine lc_range (lo := 0) (n := (hAt h 0 : Int).toNat) (fun i H' => H' Dl = some (.lst (hv ((List.range i).map fun r => (h.filter fun x => decide (r < x)).length))) ∧ Ex H2 H') ⟨upd_same, Ex.new hD⟩ (fun i H' hi hW => ?_) (fun H' hW => ?_)
    · obtain ⟨w1, w2⟩ := hW
      have hp4 := w2 _ _ hp2
      refine ⟨rfl, ?_⟩
      dsimp only [tYes]
      rw [if_pos rfl]
      refine ⟨_, rfl, p, rfl, ⟨_, SqT.of hp4⟩, fun D2 hD2 => ?_⟩
      refine lc_tup (K := K) (a := p) (xs := hv h) (fun j H5 => H5 D2 = some (.lst (hv ((h.take j).filter fun x => decide (i < x)))) ∧ Ex H' H5) ⟨upd_same, Ex.new hD2⟩ (fun j H5 _ hp5 => SqT.of (hp5.2 _ _ hp4)) (fun j x H5 hx hp5 => ?_) (fun H5 hp5 => ?_)
      · obtain ⟨u1, u2⟩ := hp5
        obtain ⟨y, hy, rfl⟩ := hv_inv hx
        refine ⟨rfl, _, rfl, _, rfl, _, _, rfl, rfl, _, rfl, ite2 (fun cc => ?_) (fun cc => ?_)⟩
        · have c0 : i < y := by
            have := of_decide_eq_true cc
            omega
          refine ⟨_, rfl, _, u1, ?_, ?_, Ex.mut u2 hD2⟩
          · rw [hv_len]
            have a1 := List.length_filter_le (fun x => decide (i < x)) (h.take j)
            rw [List.length_take] at a1
            exact small1000 (by omega)
          · rw [upd_same, take_filter_snoc _ hy, if_pos (decide_eq_true c0), hv_snoc]
        · have c0 : ¬ i < y := fun z => cc (decide_eq_true (by omega))
          refine ⟨?_, u2⟩
          rw [take_filter_snoc _ hy, if_neg (by rw [decide_eq_false c0]; decide), List.append_nil]
          exact u1
      · obtain ⟨u1, u2⟩ := hp5
        rw [hv_len, List.take_length] at u1
        refine ⟨D2, _, rfl, .inl (SqL.of u1), _, u2 _ _ w1, ?_, ?_, Ex.mut (w2.trans u2) hD⟩
        · rw [hv_len, List.length_map, List.length_range]
          exact small1000 (by omega)
        · rw [upd_same, List.range_succ, List.map_append, hv_len]
          show _ = some (HO.lst (hv (_ ++ [(h.filter fun x => decide (i < x)).length])))
          rw [hv_snoc]
    · obtain ⟨w1, w2⟩ := hW
      rw [show (hAt h 0 : Int).toNat = hAt h 0 by omega] at w1
      exact ⟨Dl, _, rfl, .inl ⟨SqL.of w1, fun r' hr' => k r' _ ((e2.trans w2).trans (Ex.new hr')) upd_same⟩⟩
def spTurnedOver (K : PySem.W.Frag) : Sp := spLengthsOf K
theorem ok_turned_over (T : Txt K mg) {f : Addr} {fd : FuncData} (D : DefAt K mg "turned_over" sTurnedOver ["heap"] f fd) : FnOk P w K mg base CX0 5 f fd ["heap"] (spTurnedOver K) := by
  refine D.F.ok scTurnedOver (fun vs H Q E h => ?_) (fun cdv A outer s H vs Q E hr h => ?_)
  · obtain ⟨p, h, rfl, _⟩ := h
    rfl
  · obtain ⟨p, h, rfl, hp, G, k⟩ := h
    obtain ⟨f1, fd1, D1⟩ := T.d_lengths_of
    obtain ⟨f2, fd2, D2⟩ := T.d_check_heap
    have hr2 : Room 2 _ := hr.mono (by decide)
    have hr4 : Room 4 _ := hr.mono (by decide)
    refine ⟨_, pss_cons (ps_expr (pe_call (ok_check_heap T D2) hr4 (by rfl) D2.g D2.F.kp D2.b .nil pass0 (pa_cons (pv 0) pa_nil)))
      (pss_one (ps_ret (pe_call (ok_lengths_of T D1) hr2 (by rfl) D1.g D1.F.kp D1.b .nil pass0 (pa_cons (pv 0) pa_nil)))), ?_⟩
    refine ⟨_, rfl, p, h, rfl, hp, G, fun H1 e1 => ?_⟩
    exact ⟨_, rfl, p, h, rfl, e1 _ _ hp, G, fun r H2 e2 hr' => k r _ (e1.trans e2) hr'⟩
/-! ### classes with chips at the ends -/
/-- a class -/
def ClassAt (H : Hp) (v : V) (deg : Int) (ps : List Int) : Prop := ∃ t a, v = .ref t ∧ H t = some (.tup [.int deg, .ref a]) ∧ PlacesT H a ps
theorem ClassAt.ex {H H' : Hp} {v : V} {deg : Int} {ps : List Int} (e : Ex H H') (h : ClassAt H v deg ps) : ClassAt H' v deg ps := by
  obtain ⟨t, a, rfl, h1, h2⟩ := h
  exact ⟨t, a, rfl, e _ _ h1, e _ _ h2⟩
def spCheckDigits (K : PySem.W.Frag) : Sp := fun vs H Q _ => ∃ (l : Addr) (ns : List Int), vs = [.ref l] ∧ H l = some (.lst (ns.map V.int)) ∧ ns.length ≤ 1000 ∧ (∀ z ∈ ns, -(10 ^ 60) < z ∧ z < 10 ^ 60) ∧ ∀ H', Ex H H' → Q .non H'
theorem ok_check_digits (T : Txt K mg) {f : Addr} {fd : FuncData} (D : DefAt K mg "check_digits" sCheckDigits ["numbers"] f fd) : FnOk P w K mg base CX0 2 f fd ["numbers"] (spCheckDigits K) := by
  refine D.F.ok scCheckDigits (fun vs H Q E h => ?_) (fun cdv A outer s H vs Q E hr h => ?_)
  · obtain ⟨l, ns, rfl, _⟩ := h
    rfl
  · obtain ⟨l, ns, rfl, hl, h1000, hb, k⟩ := h
    obtain ⟨f1, fd1, D1⟩ := T.d_is_integer
    refine ⟨_, pss_one (ps_if (pt_not (pt_val (pe_callB (cr_all rfl) (by rfl) T.z_all (by decide +kernel) (pa_cons (pe_lc (own := [("number", 1)]) (g := gName 1) (tt := tYes) rfl scCheckDigits.nd (pi_list (pv 0))
        (blkOk_by (N := nCheckDigits) (sc := defScope sCheckDigits) (by decide +kernel)) (fun _ _ _ _ _ => pg_name (i := 1) scCheckDigits.nd rfl (Or.inl rfl)) (fun _ _ _ _ _ => pts_nil)
        (fun _ _ _ _ _ => pe_call (ok_is_integer T D1) hr (by rfl) D1.g D1.F.kp D1.b .nil pass0 (pa_cons (pv 1) pa_nil))) pa_nil)))) pss_never pss_nil), ?_⟩
    refine ⟨_, rfl, l, rfl, ⟨_, SqL.of hl⟩, fun Dl hD => ?_⟩
    refine lc_list (K := K) (a := l) (xs := ns.map V.int) (fun i H' => H' Dl = some (.lst ((List.replicate i true).map V.bl)) ∧ Ex H H') ⟨upd_same, Ex.new hD⟩ (fun i H' _ hp => SqL.of (hp.2 _ _ hl)) (fun i x H' hx hp => ?_) (fun H' hp => ?_)
    · obtain ⟨w1, w2⟩ := hp
      have hi : i < ns.length := by
        have := (List.getElem?_eq_some_iff.mp hx).1
        rw [List.length_map] at this
        exact this
      rw [int_get5 hi] at hx
      obtain rfl := Option.some.inj hx
      obtain ⟨b1, b2⟩ := hb (ns.getD i 0) (by rw [List.getD_eq_getElem?_getD, List.getElem?_eq_getElem hi]; exact List.getElem_mem hi)
      refine ⟨rfl, ?_⟩
      dsimp only [tYes]
      rw [if_pos rfl]
      refine ⟨_, rfl, _, true, rfl, ?_, fun H3 e3 => ⟨_, e3 _ _ w1, ?_, ?_, Ex.mut (w2.trans e3) hD⟩⟩
      · have := IntB.int (K := K) (H := H') (ns.getD i 0)
        rw [decide_eq_true b1, decide_eq_true b2] at this
        exact this
      · rw [List.length_map, List.length_replicate]
        exact small1000 (by omega)
      · rw [upd_same, List.replicate_succ', List.map_append]
        rfl
    · refine ⟨Dl, List.replicate (ns.map V.int).length true, rfl, SqL.of hp.1, ?_⟩
      rw [show (List.replicate (ns.map V.int).length true).all id = true by simp]
      exact ⟨_, rfl, iteF (k _ hp.2)⟩
def spCheckClass : Sp := fun vs H Q _ => ∃ c v xs rs deg ps, vs = [.ref c, v] ∧ H c = some (.tup xs) ∧ RingsAt H 60 xs rs ∧ xs.length ≤ 12 ∧ ClassAt H v deg ps ∧ -(10 ^ 60) < deg ∧ deg < 10 ^ 60 ∧ ps.length = xs.length ∧ PlOk rs ps ∧ ∀ H', Ex H H' → Q .non H'
def spIsClass : Sp := fun vs H Q _ => ∃ c v xs rs deg ps, vs = [.ref c, v] ∧ H c = some (.tup xs) ∧ RingsAt H 60 xs rs ∧ xs.length ≤ 12 ∧ ClassAt H v deg ps ∧ -(10 ^ 60) < deg ∧ deg < 10 ^ 60 ∧ ps.length = xs.length ∧ PlOk rs ps ∧ ∀ H', Ex H H' → Q (.bl true) H'
theorem ok_is_class (T : Txt K mg) {f : Addr} {fd : FuncData} (D : DefAt K mg "is_class" sIsClass ["chain", "value"] f fd) : FnOk P w K mg base CX0 4 f fd ["chain", "value"] spIsClass := by
  refine D.F.ok scIsClass (fun vs H Q E h => ?_) (fun cdv A outer s H vs Q E hr h => ?_)
  · obtain ⟨c, v, xs, rs, deg, ps, rfl, _⟩ := h
    rfl
  · obtain ⟨c, v, xs, rs, deg, ps, rfl, hc, hR, hl, hv', d1, d2, hpl, hok, k⟩ := h
    obtain ⟨t, a, rfl, ht, ha⟩ := id hv'
    obtain ⟨f1, fd1, D1⟩ := T.d_is_pair
    obtain ⟨f2, fd2, D2⟩ := T.d_is_integer
    obtain ⟨f3, fd3, D3⟩ := T.d_lies_told
    have hr1 : Room 1 _ := hr.mono (by decide)
    refine ⟨_, pss_one (ps_ret (pe_and (pe_call (ok_is_pair T D1) hr1 (by rfl) D1.g D1.F.kp D1.b .nil pass0 (pa_cons (pv 1) pa_nil))
      (pe_and (pe_call (ok_is_integer T D2) hr1 (by rfl) D2.g D2.F.kp D2.b .nil pass0 (pa_cons (pe_ix ix_tup (pv 1) pe_int (fun _ _ => rfl)) pa_nil))
      (pe_one (pe_call (ok_lies_told T D3) hr (by rfl) D3.g D3.F.kp D3.b .nil pass0 (pa_cons (pv 0) (pa_cons (pe_ix ix_tup (pv 1) pe_int (fun _ _ => rfl)) pa_nil))))))), ?_⟩
    refine ⟨_, rfl, _, _, rfl, .tup ht, fun H1 e1 => ⟨_, rfl, iteT ?_⟩⟩
    refine ⟨_, rfl, t, _, 0, .int deg, rfl, rfl, SqT.of (e1 _ _ ht), rfl, .int deg, true, rfl, ?_, fun H2 e2 => ⟨_, rfl, iteT ?_⟩⟩
    · have := IntB.int (K := K) (H := H1) deg
      rw [decide_eq_true d1, decide_eq_true d2] at this
      exact this
    · have e12 := e1.trans e2
      refine ⟨_, rfl, _, rfl, t, _, 1, .ref a, rfl, rfl, SqT.of (e12 _ _ ht), rfl, c, a, xs, rs, ps, rfl, e12 _ _ hc, rings_ex4 e12 hR, hl, e12 _ _ ha, hpl, hok, fun H3 e3 => k _ (e12.trans e3)⟩
theorem ok_check_class (T : Txt K mg) {f : Addr} {fd : FuncData} (D : DefAt K mg "check_class" sCheckClass ["chain", "value"] f fd) : FnOk P w K mg base CX0 5 f fd ["chain", "value"] spCheckClass := by
  refine D.F.ok scCheckClass (fun vs H Q E h => ?_) (fun cdv A outer s H vs Q E hr h => ?_)
  · obtain ⟨c, v, xs, rs, deg, ps, rfl, _⟩ := h
    rfl
  · obtain ⟨c, v, xs, rs, deg, ps, rfl, hc, hR, hl, hv', d1, d2, hpl, hok, k⟩ := h
    obtain ⟨f1, fd1, D1⟩ := T.d_is_class
    refine ⟨_, pss_one (ps_if (pt_not (pt_val (pe_call (ok_is_class T D1) hr (by rfl) D1.g D1.F.kp D1.b .nil pass0 (pa_cons (pv 0) (pa_cons (pv 1) pa_nil))))) pss_never pss_nil), ?_⟩
    exact ⟨_, rfl, _, rfl, c, v, xs, rs, deg, ps, rfl, hc, hR, hl, hv', d1, d2, hpl, hok, fun H1 e1 => ⟨true, rfl, iteF (k _ e1)⟩⟩
/-- rests taken modulo the places -/
def modp (rs : List (Int × Int)) (ns : List Int) : List Int := (List.range ns.length).map fun j => ns.getD j 0 % (K1N.nAt rs j : Int)
def spToldClass : Sp := fun vs H Q _ => ∃ c l xs rs deg, ∃ ns : List Int, vs = [.ref c, .int deg, .ref l] ∧ H c = some (.tup xs) ∧ RingsAt H 60 xs rs ∧ xs.length ≤ 12 ∧ H l = some (.lst (ns.map V.int)) ∧ ns.length = xs.length ∧ -(10 ^ 60) < deg ∧ deg < 10 ^ 60 ∧
  ∀ r H', Ex H H' → ClassAt H' (.ref r) deg (modp rs ns) → Q (.ref r) H'
theorem ok_told_class (T : Txt K mg) {f : Addr} {fd : FuncData} (D : DefAt K mg "told_class" sToldClass ["chain", "degree", "rests"] f fd) : FnOk P w K mg base CX0 3 f fd ["chain", "degree", "rests"] spToldClass := by
  refine D.F.ok scToldClass (fun vs H Q E h => ?_) (fun cdv A outer s H vs Q E hr h => ?_)
  · obtain ⟨c, l, xs, rs, deg, ns, rfl, _⟩ := h
    rfl
  · obtain ⟨c, l, xs, rs, deg, ns, rfl, hc, hR, hl, hn, hlen, d1, d2, k⟩ := h
    obtain ⟨f1, fd1, D1⟩ := T.d_check_digits
    refine ⟨_, pss_cons (ps_expr (pe_call (ok_check_digits T D1) hr (by rfl) D1.g D1.F.kp D1.b .nil pass0 (pa_cons (pe_lst (pa_cons (pv 1) pa_nil)) pa_nil)))
      (pss_one (ps_ret (pe_tup (pa_cons (pv 1) (pa_cons (pe_callTy call_tuple_of (by rfl) T.z_tuple (by decide +kernel) (pa_cons (pe_lc (own := [("rest", 3), ("ring", 4)]) (g := gTup K 2 (gCons (gName 3) (gCons (gName 4) gNil))) (tt := tYes) rfl scToldClass.nd (pi_zipM (by rfl) T.z_zip (pa_cons (pv 2) (pa_cons (pv 0) pa_nil)))
        (blkOk_by (N := nToldClass) (sc := defScope sToldClass) (by decide +kernel)) (fun _ _ _ _ _ => pg_tup (by rfl) (pgs_cons (pg_name (i := 3) scToldClass.nd rfl (.inl rfl)) (pgs_cons (pg_name (i := 4) scToldClass.nd rfl (.inl rfl)) pgs_nil))) (fun _ _ _ _ _ => pts_nil)
        (fun _ _ _ _ _ => pe_op op_mod (pv 3) (pe_ix (show IxR _ (rIxT K) from ix_tup) (pv 4) pe_int (fun _ _ => rfl)))) pa_nil)) pa_nil))))), ?_⟩
    refine ⟨_, rfl, by show 1 ≤ sizeLine; decide, fun d0 hd0 => ?_⟩
    have e0 := Ex.new (o := .lst [V.int deg]) hd0
    refine ⟨d0, [deg], rfl, upd_same, by show 1 ≤ 1000; decide, fun z hz => by rw [List.mem_singleton.mp hz]; exact ⟨d1, d2⟩, fun H1 e1' => ?_⟩
    have e1 := e0.trans e1'
    have hn1 := e1 _ _ hn
    have hc1 := e1 _ _ hc
    refine ⟨_, rfl, _, rfl, _, rfl, l, c, _, _, rfl, SqL.of hn1, SqT.of hc1, fun Dl hD => ?_⟩
    refine lc_zipM (K := K) (a := l) (b := c) (xs := ns.map V.int) (ys := xs) (n := xs.length) (by rw [List.length_map]; exact hlen) rfl (fun i H' => H' Dl = some (.lst (((List.range i).map fun j => ns.getD j 0 % (K1N.nAt rs j : Int)).map V.int)) ∧ Ex H1 H') ⟨upd_same, Ex.new hD⟩ (fun i H' hp => ⟨SqL.of (hp.2 _ _ hn1), SqT.of (hp.2 _ _ hc1)⟩) (fun i x y Tp H' hi hx hy hp nT => ?_) (fun H' hp => ?_)
    · obtain ⟨w1, w2⟩ := hp
      rw [int_get5 (by omega)] at hx
      obtain rfl := Option.some.inj hx
      have eT := Ex.new (o := .tup [.int (ns.getD i 0), y]) nT
      have hy1 := rings_nth4 (rings_ex4 ((e1.trans w2).trans eT) hR) hy
      obtain ⟨t, rfl, ht, b1, b2, b3, b4⟩ := hy1
      refine ⟨Tp, _, rfl, SqT.of upd_same, rfl, .int _, [_], rfl, _, [], rfl, rfl, rfl, ?_⟩
      dsimp only [tYes]
      rw [if_pos rfl]
      refine ⟨_, rfl, _, rfl, t, _, 0, .int _, rfl, rfl, SqT.of ht, rfl, _, _, rfl, rfl, by omega, _, eT _ _ w1, ?_, ?_, Ex.mut (w2.trans eT) hD⟩
      · rw [List.length_map, List.length_map, List.length_range]
        exact small1000 (by omega)
      · rw [upd_same, List.range_succ, List.map_append, List.map_append]
        rfl
    · obtain ⟨w1, w2⟩ := hp
      refine ⟨Dl, _, rfl, .inl ⟨SqL.of w1, fun r1 hr1 => ⟨by show 2 ≤ sizeLine; decide, fun r2 hr2 => k r2 _ (((e1.trans w2).trans (Ex.new hr1)).trans (Ex.new hr2)) ⟨r2, r1, rfl, upd_same, ?_⟩⟩⟩⟩
      show (upd _ r2 _) r1 = _
      rw [Ex.new hr2 _ _ upd_same, ← hlen]
      rfl
/-- places moved by a step for each chip -/
def mv (rs : List (Int × Int)) (ps : List Int) (a : Int) : List Int := (List.range ps.length).map fun j => ps.getD j 0 + a * K1N.sAt rs j
def spWithEnds : Sp := fun vs H Q _ => ∃ c v xs rs deg ps, ∃ a b : Int, vs = [.ref c, v, .int a, .int b] ∧ H c = some (.tup xs) ∧ RingsAt H 60 xs rs ∧ (1 ≤ xs.length ∧ xs.length ≤ 12) ∧ ClassAt H v deg ps ∧ (-(10 ^ 9) < deg ∧ deg < 10 ^ 9) ∧ (-(10 ^ 9) < a ∧ a < 10 ^ 9) ∧ (-(10 ^ 9) < b ∧ b < 10 ^ 9) ∧ ps.length = xs.length ∧ PlOk rs ps ∧
  ∀ r H', Ex H H' → ClassAt H' (.ref r) (deg + a + b) (modp rs (mv rs ps a)) → Q (.ref r) H'
theorem ok_class_with_ends (T : Txt K mg) {f : Addr} {fd : FuncData} (D : DefAt K mg "class_with_ends" sClassWithEnds ["chain", "one", "a", "b"] f fd) : FnOk P w K mg base CX0 6 f fd ["chain", "one", "a", "b"] spWithEnds := by
  refine D.F.ok scClassWithEnds (fun vs H Q E h => ?_) (fun cdv A outer s H vs Q E hr h => ?_)
  · obtain ⟨c, v, xs, rs, deg, ps, a, b, rfl, _⟩ := h
    rfl
  · obtain ⟨c, v, xs, rs, deg, ps, a, b, rfl, hc, hR, hl, hv', ⟨d1, d2⟩, ⟨a1, a2⟩, ⟨b1, b2⟩, hpl, hok, k⟩ := h
    obtain ⟨f1, fd1, D1⟩ := T.d_check_chain
    obtain ⟨f2, fd2, D2⟩ := T.d_check_class
    obtain ⟨f3, fd3, D3⟩ := T.d_check_integer
    obtain ⟨f4, fd4, D4⟩ := T.d_told_class
    have hr2 : Room 2 _ := hr.mono (by decide)
    have hr3 : Room 3 _ := hr.mono (by decide)
    have hr4 : Room 4 _ := hr.mono (by decide)
    refine ⟨_, pss_cons (ps_expr (pe_call (ok_check_chain T D1) hr (by rfl) D1.g D1.F.kp D1.b .nil pass0 (pa_cons (pv 0) pa_nil)))
      (pss_cons (ps_expr (pe_call (ok_check_class T D2) hr (by rfl) D2.g D2.F.kp D2.b .nil pass0 (pa_cons (pv 0) (pa_cons (pv 1) pa_nil))))
      (pss_cons (ps_expr (pe_call (ok_check_integer T D3) hr2 (by rfl) D3.g D3.F.kp D3.b .nil pass0 (pa_cons (pv 2) pa_nil)))
      (pss_cons (ps_expr (pe_call (ok_check_integer T D3) hr2 (by rfl) D3.g D3.F.kp D3.b .nil pass0 (pa_cons (pv 3) pa_nil)))
      (pss_cons (ps_setLc (i := 4) (own := [("place", 5), ("ring", 6)]) (g := gTup K 2 (gCons (gName 5) (gCons (gName 6) gNil))) (tt := tYes) (by rfl) scClassWithEnds.nd rfl rfl (sw_true rfl rfl rfl (by decide +kernel)) (RZ.pi_zipA (by rfl) T.z_zip (pa_cons (pe_ix ix_tup (pv 1) pe_int (fun _ _ => rfl)) (pa_cons (pv 0) pa_nil)))
        (blkOk_by (N := nClassWithEnds) (sc := defScope sClassWithEnds) (by decide +kernel)) (fun _ _ _ _ _ => pg_tup (by rfl) (pgs_cons (pg_name (i := 5) scClassWithEnds.nd rfl (.inl rfl)) (pgs_cons (pg_name (i := 6) scClassWithEnds.nd rfl (.inl rfl)) pgs_nil))) (fun _ _ _ _ _ => pts_nil)
        (fun _ _ _ _ _ => pe_op op_add (pv 5) (pe_op op_mul (pv 2) (pe_ix (show IxR _ (rIxT K) from ix_tup) (pv 6) pe_int (fun _ _ => rfl)))))
      (pss_one (ps_ret (pe_call (ok_told_class T D4) hr3 (by rfl) D4.g D4.F.kp D4.b .nil pass0 (pa_cons (pv 0) (pa_cons (pe_op op_add (pe_op op_add (pe_ix ix_tup (pv 1) pe_int (fun _ _ => rfl)) (pv 2)) (pv 3)) (pa_cons (pv 4) pa_nil)))))))))), ?_⟩
    refine ⟨_, rfl, .ref c, rfl, rings_chain4 hR hc hl.1 hl.2, fun H1 e1 => ?_⟩
    refine ⟨_, rfl, _, rfl, c, v, xs, rs, deg, ps, rfl, e1 _ _ hc, rings_ex4 e1 hR, hl.2, hv'.ex e1, by omega, by omega, hpl, hok, fun H2 e2' => ?_⟩
    refine ⟨_, rfl, a, rfl, by omega, by omega, fun H3 e3' => ⟨_, rfl, b, rfl, by omega, by omega, fun H4 e4' => ?_⟩⟩
    have e4 := ((e1.trans e2').trans e3').trans e4'
    obtain ⟨t, pa, rfl, ht, ha⟩ := id (hv'.ex e4)
    have hc4 := e4 _ _ hc
    refine ⟨_, rfl, t, _, 1, .ref pa, rfl, rfl, SqT.of ht, rfl, _, rfl, pa, c, _, _, rfl, .inr ⟨SqT.of ha, SqT.of hc4, fun Dl hD => ?_⟩⟩
    refine lc_zipT (K := K) (a := pa) (b := c) (xs := ps.map V.int) (ys := xs) (n := xs.length) (by rw [List.length_map]; omega) (Nat.le_refl _) (.inr (Nat.le_refl _)) (fun i H' => H' Dl = some (.lst (((List.range i).map fun j => ps.getD j 0 + a * K1N.sAt rs j).map V.int)) ∧ Ex H4 H') ⟨upd_same, Ex.new hD⟩ (fun i H' hp => ⟨SqT.of (hp.2 _ _ ha), SqT.of (hp.2 _ _ hc4)⟩) (fun i x y Tp H' hi hx hy hp nT => ?_) (fun H' hp => ?_)
    · obtain ⟨w1, w2⟩ := hp
      obtain rfl := pl_get hx
      have eT := Ex.new (o := .tup [.int (ps.getD i 0), y]) nT
      have hy1 := rings_nth4 (rings_ex4 ((e4.trans w2).trans eT) hR) hy
      obtain ⟨t', rfl, ht', c1, c2, c3, c4⟩ := hy1
      refine ⟨Tp, _, rfl, SqT.of upd_same, rfl, .int _, [_], rfl, _, [], rfl, rfl, rfl, ?_⟩
      dsimp only [tYes]
      rw [if_pos rfl]
      refine ⟨_, rfl, _, rfl, _, rfl, t', _, 1, .int _, rfl, rfl, SqT.of ht', rfl, _, _, rfl, rfl, .inl (by constructor <;> omega), _, _, rfl, rfl, _, eT _ _ w1, ?_, ?_, Ex.mut (w2.trans eT) hD⟩
      · rw [List.length_map, List.length_map, List.length_range]
        exact small1000 (by omega)
      · rw [upd_same, List.range_succ, List.map_append, List.map_append]
        rfl
    · obtain ⟨w1, w2⟩ := hp
      rw [← hpl] at w1
      have e5 := e4.trans w2
      refine ⟨_, rfl, _, rfl, t, _, 0, .int deg, rfl, rfl, SqT.of (w2 _ _ ht), rfl, _, rfl, _, _, rfl, rfl, _, rfl, _, _, rfl, rfl, _, rfl, c, Dl, xs, rs, deg + a + b, mv rs ps a, rfl, e5 _ _ hc, rings_ex4 e5 hR, hl.2, w1, ?_, by omega, by omega, fun r H6 e6 hr6 => k r _ (e5.trans e6) hr6⟩
      unfold mv
      rw [List.length_map, List.length_range]
      exact hpl
end
end K1

namespace K1
open PySem PySem.Spec PyProof.Rows L2 Evl HM LX ZW Z3 ZM
def nz (h : List Nat) : List Int := h.map fun (n : Nat) => (n : Int)
theorem hv_nz (h : List Nat) : hv h = (nz h).map V.int := by
  unfold hv nz
  rw [List.map_map]
  rfl
def hD (h : List Nat) : PyData := .tuple ((nz h).map PyData.int)
theorem dp_heap {K : PySem.W.Frag} {H : Hp} {p : Addr} {h : List Nat} (hp : HeapAt H p h) : Dp K H (.ref p) (hD h) := .tup (SqT.of (by rw [← hv_nz]; exact hp)) (dp_ints _)
theorem eqv_heap (h : List Nat) : PyData.eqv (hD h) (hD h) = true := eqv_intsT _
theorem shaped_heap (h : List Nat) : SeqAt.shaped (hD h) = true := shaped_intsT _
theorem fr_congr {h : List Nat} {g g' : Nat → Bool} {i : Nat} (e : ∀ c, c < i → g c = g' c) : fr h g i = fr h g' i := by
  have e2 : ∀ c, (decide (c < i) && g c) = (decide (c < i) && g' c) := fun c => by
    by_cases q : c < i
    · rw [e c q]
    · rw [decide_eq_false q]
      rfl
  unfold fr
  rw [e2]
  congr 1
  exact List.map_congr_left fun c _ => by rw [e2]
def pset (g : Nat → Bool) (i : Nat) (b : Bool) : Nat → Bool := fun c => if c = i then b else g c
theorem pset_at (g : Nat → Bool) (i : Nat) (b : Bool) : pset g i b i = b := if_pos rfl
theorem pset_lt (g : Nat → Bool) (i : Nat) (b : Bool) {h : List Nat} : fr h g i = fr h (pset g i b) i := fr_congr fun c hc => (if_neg (by omega)).symm
section
variable {P : Program} {w : World} {K : PySem.W.Frag} {mg : Str → Option Value} {base : Heap}
def spSomeAdded : Sp := fun vs H Q _ => ∃ d p h x n s q, vs = [.ref d, .ref p, x, .int q] ∧ Dice H d ∧ HeapAt H p h ∧ h.length ≤ 100 ∧ RingAt H 60 x n s ∧ ∀ r H' g, (∀ c, g c = true → gl h n s q c = true) → HeapAt H' r (grow h g) → Dice H' d → Keep d H H' → Q (.ref r) H'
theorem ok_some_added (T : Txt K mg) {f : Addr} {fd : FuncData} (D : DefAt K mg "_law_some_added" sLSomeAdded ["_law_dice_here", "_law_heap_here", "_law_ring_here", "_law_place"] f fd) : FnOk P w K mg base CX0 2 f fd ["_law_dice_here", "_law_heap_here", "_law_ring_here", "_law_place"] spSomeAdded := by
  refine D.F.ok scLSomeAdded (fun vs H Q E h => ?_) (fun cdv A outer s₀ H vs Q E hr h => ?_)
  · obtain ⟨d, p, h, x, n, s, q, rfl, _⟩ := h
    rfl
  · obtain ⟨d, p, h, x, n, s, q, rfl, hd, hp, hl, hx, k⟩ := h
    obtain ⟨f1, fd1, D1⟩ := T.d_l_roll
    refine ⟨_, pss_cons (ps_asg (pv 2) (pg_tup (by rfl) (pgs_cons (pg_name (i := 4) scLSomeAdded.nd rfl (.inl rfl)) (pgs_cons (pg_name (i := 5) scLSomeAdded.nd rfl (.inl rfl)) pgs_nil))))
      (pss_cons (ps_set (i := 6) scLSomeAdded.nd rfl (.inl rfl) (pe_callTy call_list_of (by rfl) T.z_list (by decide +kernel) (pa_cons (pv 1) pa_nil)))
      (pss_cons (ps_for PassesOwn.never rfl (pi_range1 (by rfl) T.z_range (pa_cons (pe_op op_add (pe_callB call_len_seq (by rfl) T.z_len PySem.boot_len (pa_cons (pv 1) pa_nil)) pe_int) pa_nil)) (pg_name (i := 7) scLSomeAdded.nd rfl (.inl rfl))
        (pss_cut (ps_set (i := 8) scLSomeAdded.nd rfl (.inl rfl) (pe_ifExp (pt_cmpR op_lt (pv 7) (pe_callB call_len_seq (by rfl) T.z_len PySem.boot_len (pa_cons (pv 1) pa_nil)) (nomark _)) (pe_ix ix_tup (pv 1) (pv 7) (fun _ _ => rfl)) pe_int))
        (pss_cut (ps_set (i := 9) scLSomeAdded.nd rfl (.inl rfl) (pe_or (pe_cmpR op_eq (pv 7) pe_int (nomark _)) (pe_one (pe_cmpR op_gt (pe_ix ix_tup (pv 1) (pe_op op_sub (pv 7) pe_int) (fun _ _ => rfl)) (pv 8) (nomark _)))))
        (pss_one (ps_if (PW.pt (pw_and (pt_val (pv 9)) (pw_and (pt_cmpR op_eq (pe_op op_mod (pe_op op_sub (pe_op op_mul (pe_op op_sub (pv 7) (pv 8)) (pv 5)) (pv 3)) (pv 4)) pe_int (nomark _))
            (pw_and1 (pt_cmpR op_gt (pe_call (ok_roll T D1) hr (by rfl) D1.g D1.F.kp D1.b .nil pass0 (pa_cons (pv 0) (pa_cons pe_int pa_nil))) pe_int (nomark _))))))
          (pss_one (ps_if (pt_cmpR op_lt (pv 7) (pe_callB call_len_seq (by rfl) T.z_len PySem.boot_len (pa_cons (pv 1) pa_nil)) (nomark _))
            (pss_one (ps_asg (pe_op op_add (pv 8) pe_int) (pg_sub (pv 6) (pv 7) set_list)))
            (pss_one (ps_expr (pe_bm PySem.F.plainAttrs_list PySem.F.slot_list_append PySem.F.type_list_append mt_append (pv 6) (pa_cons pe_int pa_nil)))))) pss_nil)))))
      (pss_one (ps_ret (pe_callTy call_tuple_of (by rfl) T.z_tuple (by decide +kernel) (pa_cons (pv 6) pa_nil)))))), ?_⟩
    obtain ⟨t, rfl, ht, b1, b2, b3, b4⟩ := id hx
    refine ⟨_, rfl, t, [.int n, .int s], rfl, SqT.of ht, rfl, .int n, [.int s], rfl, .int s, [], rfl, rfl, ?_⟩
    refine ⟨_, rfl, p, hv h, rfl, .inr (SqT.of hp), fun l hl0 => ?_⟩
    have ndl : d ≠ l := hd.ne_new hl0
    have hd1 : Dice (upd H l (.lst (hv h))) d := hd.upd ndl
    have k1 : Keep d H (upd H l (.lst (hv h))) := Keep.new hl0
    have hp1 : HeapAt (upd H l (.lst (hv h))) p h := Ex.new hl0 _ _ hp
    have g0 : (upd H l (.lst (hv h))) l = some (.lst (hv (fr h (fun _ => false) 0))) := by
      rw [upd_same, fr_zero]
    generalize upd H l (.lst (hv h)) = H1 at *
    refine ⟨_, rfl, p, _, rfl, .inr (SqT.of hp1), _, _, rfl, rfl, _, rfl, by rw [hv_len]; omega, by rw [hv_len]; omega, ?_⟩
    refine for_range (lo := 0) (n := (((hv h).length : Int) + 1).toNat) (fun i σ' H' => ∃ (y7 y8 y9 : Option V) (g : Nat → Bool), σ' = [some (.ref d), some (.ref p), some (.ref t), some (.int q), some (.int n), some (.int s), some (.ref l), y7, y8, y9] ∧ (∀ c, g c = true → gl h n s q c = true) ∧ H' l = some (.lst (hv (fr h g i))) ∧ Dice H' d ∧ Keep d H H')
      ⟨none, none, none, fun _ => false, rfl, fun c z => Bool.noConfusion z, g0, hd1, k1⟩ (fun i σ' H' hi hW => ?_) (fun σ' H' hW => ?_)
    · obtain ⟨y7, y8, y9, g, rfl, wg, w1, w2, w3⟩ := hW
      rw [hv_len] at hi
      have hi' : i ≤ h.length := by omega
      have hp2 : HeapAt H' p h := w3.tup hd hp
      have e0 : (0 : Int) + (i : Int) = (i : Int) := Int.zero_add _
      refine ⟨fun σ2 H2 => σ2 = [some (.ref d), some (.ref p), some (.ref t), some (.int q), some (.int n), some (.int s), some (.ref l), some (.int (0 + (i : Int))), some (.int (hAt h i : Int)), y9] ∧ H2 = H', ?_, ?_⟩
      · refine ⟨_, rfl, _, rfl, p, _, rfl, .inr (SqT.of hp2), _, _, rfl, rfl, _, rfl, ite2 (fun cc => ?_) (fun cc => ?_)⟩
        · have c2 : i < h.length := by
            have := of_decide_eq_true cc
            rw [hv_len] at this
            omega
          exact ⟨_, rfl, _, rfl, p, _, _, _, rfl, rfl, SqT.of hp2, at_of e0 (hv_get c2), rfl, rfl⟩
        · have c2 : h.length ≤ i := by
            have : ¬ ((0 : Int) + (i : Int) < ((hv h).length : Int)) := fun z => cc (decide_eq_true z)
            rw [hv_len] at this
            omega
          refine ⟨?_, rfl⟩
          rw [hAt_ge c2]
          rfl
      · rintro σ2 H2 ⟨rfl, rfl⟩
        refine ⟨fun σ3 H3 => σ3 = [some (.ref d), some (.ref p), some (.ref t), some (.int q), some (.int n), some (.int s), some (.ref l), some (.int (0 + (i : Int))), some (.int (hAt h i : Int)), some (.bl (opn h i))] ∧ H3 = H2, ?_, ?_⟩
        · refine ⟨_, rfl, rfl, _, rfl, ite2 (fun cc => ?_) (fun cc => ?_)⟩
          · have c2 : i = 0 := by
              have := V.int.inj (of_decide_eq_true cc)
              omega
            refine ⟨?_, rfl⟩
            rw [opn_iff.mpr (.inl c2)]
            rfl
          · have c2 : i ≠ 0 := fun z => cc (by subst z; rfl)
            refine ⟨_, rfl, _, rfl, _, _, rfl, rfl, p, _, _, _, rfl, rfl, SqT.of hp2, at_of (show (0 + (i : Int)) - 1 = ((i - 1 : Nat) : Int) by omega) (hv_get (by omega)), _, rfl, _, _, rfl, rfl, ?_, rfl⟩
            have : opn h i = decide ((hAt h i : Int) < (hAt h (i - 1) : Int)) := by
              unfold opn
              rw [decide_eq_false c2, Bool.false_or]
              exact decide_eq_decide.mpr (by omega)
            rw [this]
            rfl
        · rintro σ3 H3 ⟨rfl, rfl⟩
          have stay : ∀ H4, Dice H4 d → Keep d H3 H4 → ∃ (y7 y8 y9 : Option V) (g' : Nat → Bool), [some (V.ref d), some (.ref p), some (.ref t), some (.int q), some (.int n), some (.int s), some (.ref l), some (.int (0 + (i : Int))), some (.int (hAt h i : Int)), some (.bl (opn h i))] = [some (.ref d), some (.ref p), some (.ref t), some (.int q), some (.int n), some (.int s), some (.ref l), y7, y8, y9] ∧
              (∀ c, g' c = true → gl h n s q c = true) ∧ H4 l = some (.lst (hv (fr h g' (i + 1)))) ∧ Dice H4 d ∧ Keep d H H4 := fun H4 hd4 k4 => by
            refine ⟨_, _, _, pset g i false, rfl, fun c z => ?_, ?_, hd4, w3.trans k4⟩
            · unfold pset at z
              by_cases e : c = i
              · rw [if_pos e] at z
                cases z
              · rw [if_neg e] at z
                exact wg c z
            · rw [fr_skip (pset_at g i false), ← pset_lt]
              exact k4 _ _ ndl.symm w1
          refine ⟨_, rfl, _, rfl, ite2 (fun cc => ?_) (fun cc => ?_)⟩
          · refine ⟨_, rfl, _, rfl, _, _, rfl, rfl, _, rfl, _, _, rfl, rfl, .inr (by constructor <;> omega), _, rfl, _, _, rfl, rfl, _, rfl, _, _, rfl, rfl, by omega, rfl, _, rfl, ite2 (fun c3 => ?_) (fun c3 => ?_)⟩
            · have yes : gl h n s q i = true := by
                unfold gl
                rw [cc, Bool.true_and]
                have z := V.int.inj (of_decide_eq_true c3)
                rw [Int.zero_add] at z
                exact decide_eq_true z
              refine ⟨_, rfl, d, 3, rfl, w2, by decide, by decide, fun r4 H4 r40 r41 hd4 k4 => ⟨_, _, rfl, rfl, _, rfl, ite2 (fun cr => ?_) (fun cr => ?_)⟩⟩
              · have hp4 := k4.tup w2 hp2
                have wl4 := k4 _ _ ndl.symm w1
                have grown' : ∀ c, pset g i true c = true → gl h n s q c = true := fun c z => by
                  unfold pset at z
                  by_cases e : c = i
                  · rw [e]
                    exact yes
                  · rw [if_neg e] at z
                    exact wg c z
                refine ⟨_, rfl, _, rfl, p, _, rfl, .inr (SqT.of hp4), _, _, rfl, rfl, _, rfl, ite2 (fun c4 => ?_) (fun c4 => ?_)⟩
                · have c5 : i < h.length := by
                    have := of_decide_eq_true c4
                    rw [hv_len] at this
                    omega
                  refine ⟨_, rfl, _, _, rfl, rfl, _, rfl, _, rfl, l, _, _, i, rfl, rfl, wl4, ?_, _, _, _, pset g i true, rfl, grown', ?_, hd4.upd ndl, (w3.trans k4).mut hl0⟩
                  · rw [e0]
                    refine ixN_nat ?_
                    rw [hv_len, fr_low_len hi']
                    exact c5
                  · rw [upd_same]
                    dsimp only
                    rw [show ((hAt h i : Int)) + 1 = ((hAt h i + 1 : Nat) : Int) by omega, hv_set, pset_lt g i true, fr_set c5 (pset_at g i true)]
                · have c5 : i = h.length := by
                    have : ¬ ((0 : Int) + (i : Int) < ((hv h).length : Int)) := fun z => c4 (decide_eq_true z)
                    rw [hv_len] at this
                    omega
                  subst c5
                  refine ⟨_, rfl, .inl ⟨rfl, _, SqL.of wl4⟩, l, _, _, rfl, rfl, wl4, ?_, _, _, _, pset g h.length true, rfl, grown', ?_, hd4.upd ndl, (w3.trans k4).mut hl0⟩
                  · rw [hv_len, fr_low_len (Nat.le_refl _)]
                    exact small1000 (by omega)
                  · rw [upd_same, ← fr_app (pset_at g h.length true), hv_snoc, ← pset_lt]
                    rfl
              · exact stay H4 hd4 k4
            · exact stay H3 w2 (Keep.refl _ _)
          · exact stay H3 w2 (Keep.refl _ _)
    · obtain ⟨y7, y8, y9, g, rfl, wg, w1, w2, w3⟩ := hW
      have e : (((hv h).length : Int) + 1).toNat = h.length + 1 := by
        rw [hv_len]
        omega
      rw [e, fr_end] at w1
      exact ⟨_, rfl, l, _, rfl, .inl ⟨SqL.of w1, fun r hr' => k r _ g wg upd_same (w2.upd (w2.ne_new hr')) (w3.trans (Keep.new hr'))⟩⟩
def spHeld : Sp := fun vs H Q _ => ∃ p q h f, vs = [.ref p, .ref q] ∧ HeapAt H p h ∧ HeapAt H q f ∧ h.length ≤ 100 ∧ f.length ≤ h.length ∧ Sub f h ∧ ∀ H', Ex H H' → Q (.bl true) H'
theorem ok_held (T : Txt K mg) {f : Addr} {fd : FuncData} (D : DefAt K mg "_law_held" sLHeld ["_law_one", "_law_other"] f fd) : FnOk P w K mg base CX0 1 f fd ["_law_one", "_law_other"] spHeld := by
  refine D.F.ok scLHeld (fun vs H Q E h => ?_) (fun cdv A outer s H vs Q E hr h => ?_)
  · obtain ⟨p, q, h, f', rfl, _⟩ := h
    rfl
  · obtain ⟨p, q, h, f', rfl, hp, hq, h100, hlen, sb, k⟩ := h
    refine ⟨_, pss_one (ps_ret (pe_and (pe_cmpR op_le (pe_callB call_len_seq (by rfl) T.z_len PySem.boot_len (pa_cons (pv 1) pa_nil)) (pe_callB call_len_seq (by rfl) T.z_len PySem.boot_len (pa_cons (pv 0) pa_nil)) (nomark _))
      (pe_one (pe_cmpR (op_eqD hr.units) (pe_lc (own := [("_law_left", 2), ("_law_right", 3)]) (g := gTup K 2 (gCons (gName 2) (gCons (gName 3) gNil))) rfl scLHeld.nd (RZ.pi_zipA (by rfl) T.z_zip (pa_cons (pv 0) (pa_cons (pv 1) pa_nil)))
        (blkOk_by (N := nLHeld) (sc := defScope sLHeld) (by decide +kernel)) (fun _ _ _ _ _ => pg_tup (by rfl) (pgs_cons (pg_name (i := 2) scLHeld.nd rfl (.inl rfl)) (pgs_cons (pg_name (i := 3) scLHeld.nd rfl (.inl rfl)) pgs_nil)))
        (fun _ _ _ _ _ => pts_one (pt_cmpR op_lt (pv 2) (pv 3) (nomark _))) (fun _ _ _ _ _ => pe_int)) (pe_lst pa_nil) (nomark _))))), ?_⟩
    refine ⟨_, rfl, q, _, rfl, .inr (SqT.of hq), _, rfl, p, _, rfl, .inr (SqT.of hp), _, _, rfl, rfl, _, rfl, ?_⟩
    rw [decide_eq_true (show (((hv f').length : Int)) ≤ ((hv h).length : Int) by rw [hv_len, hv_len]; omega)]
    refine iteT ?_
    refine ⟨_, rfl, _, rfl, p, q, _, _, rfl, .inr ⟨SqT.of hp, SqT.of hq, fun Dl hD => ?_⟩⟩
    refine lc_zipT (K := K) (a := p) (b := q) (xs := hv h) (ys := hv f') (n := f'.length) (by rw [hv_len]; omega) (by rw [hv_len]; omega) (by rw [hv_len, hv_len]; omega) (fun i H' => H' Dl = some (.lst []) ∧ Ex H H') ⟨upd_same, Ex.new hD⟩ (fun i H' hp2 => ⟨SqT.of (hp2.2 _ _ hp), SqT.of (hp2.2 _ _ hq)⟩) (fun i x y Tp H' hi hx hy hp2 nT => ?_) (fun H' hp2 => ?_)
    · obtain ⟨w1, w2⟩ := hp2
      rw [hv_get (by omega)] at hx hy
      obtain rfl := Option.some.inj hx
      obtain rfl := Option.some.inj hy
      have eT := Ex.new (o := .tup [.int (hAt h i : Int), .int (hAt f' i : Int)]) nT
      refine ⟨Tp, _, rfl, SqT.of upd_same, rfl, .int _, [_], rfl, _, [], rfl, rfl, rfl, ?_⟩
      refine ⟨_, rfl, _, rfl, _, _, rfl, rfl, _, rfl, ?_⟩
      rw [decide_eq_false (show ¬ ((hAt h i : Int) < (hAt f' i : Int)) by have := sb i; omega)]
      exact iteF ⟨eT _ _ w1, w2.trans eT⟩
    · obtain ⟨w1, w2⟩ := hp2
      refine ⟨by show 0 ≤ sizeLine; decide, fun e he => ⟨.list [], .list [], .lst (SqL.of (Ex.new he _ _ w1)) .nil, .lst (SqL.of upd_same) .nil, rfl, rfl, ?_⟩⟩
      rw [eqv_nil]
      exact k _ (w2.trans (Ex.new he))
def spMeetOf : Sp := fun vs H Q _ => ∃ p q h f, vs = [.ref p, .ref q] ∧ HeapAt H p h ∧ HeapAt H q f ∧ h.length ≤ 100 ∧ ∀ r H', Ex H H' → HeapAt H' r (meet h f) → Q (.ref r) H'
theorem ok_meet_of (T : Txt K mg) {f : Addr} {fd : FuncData} (D : DefAt K mg "_law_meet_of" sLMeetOf ["_law_one", "_law_other"] f fd) : FnOk P w K mg base CX0 1 f fd ["_law_one", "_law_other"] spMeetOf := by
  refine D.F.ok scLMeetOf (fun vs H Q E h => ?_) (fun cdv A outer s H vs Q E hr h => ?_)
  · obtain ⟨p, q, h, f', rfl, _⟩ := h
    rfl
  · obtain ⟨p, q, h, f', rfl, hp, hq, h100, k⟩ := h
    refine ⟨_, pss_one (ps_ret (pe_callTy call_tuple_of (by rfl) T.z_tuple (by decide +kernel) (pa_cons (pe_lc (own := [("_law_left", 2), ("_law_right", 3)]) (g := gTup K 2 (gCons (gName 2) (gCons (gName 3) gNil))) (tt := tYes) rfl scLMeetOf.nd (RZ.pi_zipA (by rfl) T.z_zip (pa_cons (pv 0) (pa_cons (pv 1) pa_nil)))
        (blkOk_by (N := nLMeetOf) (sc := defScope sLMeetOf) (by decide +kernel)) (fun _ _ _ _ _ => pg_tup (by rfl) (pgs_cons (pg_name (i := 2) scLMeetOf.nd rfl (.inl rfl)) (pgs_cons (pg_name (i := 3) scLMeetOf.nd rfl (.inl rfl)) pgs_nil))) (fun _ _ _ _ _ => pts_nil)
        (fun _ _ _ _ _ => pe_callB (call_min2 rfl) (by rfl) T.z_min (by decide +kernel) (pa_cons (pv 2) (pa_cons (pv 3) pa_nil)))) pa_nil))), ?_⟩
    refine ⟨_, rfl, _, rfl, p, q, _, _, rfl, .inr ⟨SqT.of hp, SqT.of hq, fun Dl hD => ?_⟩⟩
    refine lc_zipT (K := K) (a := p) (b := q) (xs := hv h) (ys := hv f') (n := min h.length f'.length) (by rw [hv_len]; omega) (by rw [hv_len]; omega) (by rw [hv_len, hv_len]; omega) (fun i H' => H' Dl = some (.lst (hv ((List.range i).map fun c => min (hAt h c) (hAt f' c)))) ∧ Ex H H') ⟨upd_same, Ex.new hD⟩ (fun i H' hp2 => ⟨SqT.of (hp2.2 _ _ hp), SqT.of (hp2.2 _ _ hq)⟩) (fun i x y Tp H' hi hx hy hp2 nT => ?_) (fun H' hp2 => ?_)
    · obtain ⟨w1, w2⟩ := hp2
      rw [hv_get (by omega)] at hx hy
      obtain rfl := Option.some.inj hx
      obtain rfl := Option.some.inj hy
      have eT := Ex.new (o := .tup [.int (hAt h i : Int), .int (hAt f' i : Int)]) nT
      refine ⟨Tp, _, rfl, SqT.of upd_same, rfl, .int _, [_], rfl, _, [], rfl, rfl, rfl, ?_⟩
      dsimp only [tYes]
      rw [if_pos rfl]
      refine ⟨_, rfl, _, rfl, _, _, rfl, _, eT _ _ w1, ?_, ?_, Ex.mut (w2.trans eT) hD⟩
      · rw [hv_len, List.length_map, List.length_range]
        exact small1000 (by omega)
      · rw [upd_same, meet_take hi, hv_snoc]
        have : (if (hAt f' i : Int) < (hAt h i : Int) then (hAt f' i : Int) else (hAt h i : Int)) = ((min (hAt h i) (hAt f' i) : Nat) : Int) := by
          split <;> omega
        rw [this]
    · refine ⟨Dl, _, rfl, .inl ⟨SqL.of hp2.1, fun r hr' => k r _ (hp2.2.trans (Ex.new hr')) upd_same⟩⟩
end
end K1

namespace K1
open PySem PySem.Spec PyProof.Rows L2 Evl HM LX ZW Z3 ZM
theorem gl_gp (h : List Nat) (n s q : Int) : gl h n s q = gp (fun z => decide ((z * s - q) % n = 0)) h := rfl
theorem grow_small {h : List Nat} {g : Nat → Bool} {i : Nat} (IH : IsHeap h) (hg : ∀ c, g c = true → opn h c = true) (h1 : h.length ≤ i) (h2 : hAt h 0 ≤ i) : IsHeap (grow h g) ∧ (grow h g).length ≤ i + 1 ∧ hAt (grow h g) 0 ≤ i + 1 := by
  refine ⟨grow_heap IH hg, ?_, ?_⟩
  · rw [grow_len]
    have := b2n_le (g h.length)
    omega
  · rw [hAt_grow hg]
    have := b2n_le (g 0)
    omega
theorem HeapAt.keep {d p : Addr} {H H' : Hp} {h : List Nat} (hp : HeapAt H p h) (hd : Dice H d) (k : Keep d H H') : HeapAt H' p h := k.tup hd hp
section
variable {P : Program} {w : World} {K : PySem.W.Frag} {mg : Str → Option Value} {base : Heap}
def spGrowthRight : Sp := fun vs H Q _ => ∃ d c a xs rs ps, vs = [.ref d, .ref c, .ref a] ∧ Dice H d ∧ H c = some (.tup xs) ∧ RingsAt H 60 xs rs ∧ (1 ≤ xs.length ∧ xs.length ≤ 12) ∧ PlacesT H a ps ∧ ps.length = xs.length ∧ PlOk rs ps ∧ ∀ H', Dice H' d → Keep d H H' → Q (.bl true) H'
theorem ok_growth_right (T : Txt K mg) {f : Addr} {fd : FuncData} (D : DefAt K mg "_law_growth_right" sLGrowthRight ["_law_dice_here", "_law_chain_here", "_law_x"] f fd) : FnOk P w K mg base CX0 7 f fd ["_law_dice_here", "_law_chain_here", "_law_x"] spGrowthRight := by
  refine D.F.ok scLGrowthRight (fun vs H Q E h => ?_) (fun cdv A outer s₀ H vs Q E hr h => ?_)
  · obtain ⟨d, c, a, xs, rs, ps, rfl, _⟩ := h
    rfl
  · obtain ⟨d, c, a, xs, rs, ps, rfl, hd, hc, hR, hl, ha, hpl, hok, k⟩ := h
    obtain ⟨f1, fd1, D1⟩ := T.d_l_roll
    obtain ⟨f2, fd2, D2⟩ := T.d_l_some_added
    obtain ⟨f3, fd3, D3⟩ := T.d_l_grown
    obtain ⟨f4, fd4, D4⟩ := T.d_grown
    obtain ⟨f5, fd5, D5⟩ := T.d_common_of
    obtain ⟨f6, fd6, D6⟩ := T.d_l_meet_of
    obtain ⟨f7, fd7, D7⟩ := T.d_heap_of
    obtain ⟨f8, fd8, D8⟩ := T.d_is_held
    obtain ⟨f9, fd9, D9⟩ := T.d_l_held
    obtain ⟨f10, fd10, D10⟩ := T.d_l_heap
    have hr1 : Room 1 _ := hr.mono (by decide)
    have hr2 : Room 2 _ := hr.mono (by decide)
    have hr5 : Room 5 _ := hr.mono (by decide)
    refine ⟨_, pss_cons (ps_asg (pe_tup (pa_cons (pe_tup pa_nil) (pa_cons (pe_tup pa_nil) (pa_cons (pe_tup pa_nil) pa_nil)))) (pg_tup (by rfl) (pgs_cons (pg_name (i := 3) scLGrowthRight.nd rfl (.inl rfl)) (pgs_cons (pg_name (i := 4) scLGrowthRight.nd rfl (.inl rfl)) (pgs_cons (pg_name (i := 5) scLGrowthRight.nd rfl (.inl rfl)) pgs_nil)))))
      (pss_cons (ps_for PassesOwn.never rfl (RZ.pi_zipA (by rfl) T.z_zip (pa_cons (pv 1) (pa_cons (pv 2) pa_nil))) (pg_tup (by rfl) (pgs_cons (pg_name (i := 6) scLGrowthRight.nd rfl (.inl rfl)) (pgs_cons (pg_name (i := 7) scLGrowthRight.nd rfl (.inl rfl)) pgs_nil)))
        (pss_cons (ps_par (i := 3) (j := 8) (by rfl) scLGrowthRight.nd rfl rfl (by decide) rfl rfl (pa_cons (pe_call (ok_some_added T D2) hr2 (by rfl) D2.g D2.F.kp D2.b .nil pass0 (pa_cons (pv 0) (pa_cons (pv 3) (pa_cons (pv 6) (pa_cons (pv 7) pa_nil)))))
            (pa_cons (pe_call (ok_roll T D1) hr1 (by rfl) D1.g D1.F.kp D1.b .nil pass0 (pa_cons (pv 0) (pa_cons (pe_ix ix_tup (pv 6) pe_int (fun _ _ => rfl)) pa_nil))) pa_nil)) (by rfl))
        (pss_cons (ps_par (i := 4) (j := 5) (by rfl) scLGrowthRight.nd rfl rfl (by decide) rfl rfl (pa_cons (pe_call (ok_lgrown T D3) hr1 (by rfl) D3.g D3.F.kp D3.b .nil pass0 (pa_cons (pv 4) (pa_cons (pv 6) (pa_cons (pv 8) pa_nil))))
            (pa_cons (pe_call (ok_some_added T D2) hr2 (by rfl) D2.g D2.F.kp D2.b .nil pass0 (pa_cons (pv 0) (pa_cons (pv 5) (pa_cons (pv 6) (pa_cons (pv 7) pa_nil))))) pa_nil)) (by rfl))
        (pss_cons (ps_set (i := 9) scLGrowthRight.nd rfl (.inl rfl) (pe_call (ok_grown T D4) hr5 (by rfl) D4.g D4.F.kp D4.b .nil pass0 (pa_cons (pe_call (ok_common_of T D5) hr (by rfl) D5.g D5.F.kp D5.b .nil pass0 (pa_cons (pv 4) (pa_cons (pv 5) pa_nil))) (pa_cons (pv 6) (pa_cons (pv 7) pa_nil)))))
        (pss_cons (ps_if (pt_cmpR (op_neD hr.units) (pv 9) (pe_call (ok_common_of T D5) hr (by rfl) D5.g D5.F.kp D5.b .nil pass0 (pa_cons (pe_call (ok_grown T D4) hr5 (by rfl) D4.g D4.F.kp D4.b .nil pass0 (pa_cons (pv 4) (pa_cons (pv 6) (pa_cons (pv 7) pa_nil))))
            (pa_cons (pe_call (ok_grown T D4) hr5 (by rfl) D4.g D4.F.kp D4.b .nil pass0 (pa_cons (pv 5) (pa_cons (pv 6) (pa_cons (pv 7) pa_nil)))) pa_nil))) (nomark _)) (pss_one (ps_ret pe_bl)) pss_nil)
        (pss_one (ps_if (pt_cmpR (op_neD hr.units) (pv 9) (pe_call (ok_meet_of T D6) hr1 (by rfl) D6.g D6.F.kp D6.b .nil pass0 (pa_cons (pe_call (ok_lgrown T D3) hr1 (by rfl) D3.g D3.F.kp D3.b .nil pass0 (pa_cons (pv 4) (pa_cons (pv 6) (pa_cons (pv 7) pa_nil))))
            (pa_cons (pe_call (ok_lgrown T D3) hr1 (by rfl) D3.g D3.F.kp D3.b .nil pass0 (pa_cons (pv 5) (pa_cons (pv 6) (pa_cons (pv 7) pa_nil)))) pa_nil))) (nomark _)) (pss_one (ps_ret pe_bl)) pss_nil)))))))
      (pss_cons (ps_set (i := 10) scLGrowthRight.nd rfl (.inl rfl) (pe_call (ok_heap_of T D7) hr (by rfl) D7.g D7.F.kp D7.b .nil pass0 (pa_cons (pv 1) (pa_cons (pv 2) pa_nil))))
      (pss_one (ps_ret (pe_and (pe_call (ok_is_held T D8) hr (by rfl) D8.g D8.F.kp D8.b .nil pass0 (pa_cons (pv 10) (pa_cons (pv 3) pa_nil)))
        (pe_and (pe_call (ok_is_held T D8) hr (by rfl) D8.g D8.F.kp D8.b .nil pass0 (pa_cons (pv 10) (pa_cons (pv 5) pa_nil)))
        (pe_and (pe_call (ok_held T D9) hr1 (by rfl) D9.g D9.F.kp D9.b .nil pass0 (pa_cons (pv 10) (pa_cons (pv 3) pa_nil)))
        (pe_one (pe_cmpR (op_eqD hr.units) (pv 10) (pe_call (ok_lheap T D10) hr2 (by rfl) D10.g D10.F.kp D10.b .nil pass0 (pa_cons (pv 1) (pa_cons (pv 2) pa_nil))) (nomark _)))))))))), ?_⟩
    refine ⟨by show 0 ≤ sizeLine; decide, fun p1 hp1 => ⟨by show 0 ≤ sizeLine; decide, fun p2 hp2 => ⟨by show 0 ≤ sizeLine; decide, fun p3 hp3 => ⟨by show 3 ≤ sizeLine; decide, fun p4 hp4 => ?_⟩⟩⟩⟩
    have x1 := Ex.new (o := .tup []) hp1
    have x2 := Ex.new (o := .tup []) hp2
    have x3 := Ex.new (o := .tup []) hp3
    have x4 := Ex.new (o := .tup [.ref p1, .ref p2, .ref p3]) hp4
    have e4 := ((x1.trans x2).trans x3).trans x4
    have g1 : HeapAt (upd (upd (upd (upd H p1 (.tup [])) p2 (.tup [])) p3 (.tup [])) p4 (.tup [.ref p1, .ref p2, .ref p3])) p1 [] := (x2.trans (x3.trans x4)) _ _ upd_same
    have g2 : HeapAt (upd (upd (upd (upd H p1 (.tup [])) p2 (.tup [])) p3 (.tup [])) p4 (.tup [.ref p1, .ref p2, .ref p3])) p2 [] := (x3.trans x4) _ _ upd_same
    have g3 : HeapAt (upd (upd (upd (upd H p1 (.tup [])) p2 (.tup [])) p3 (.tup [])) p4 (.tup [.ref p1, .ref p2, .ref p3])) p3 [] := x4 _ _ upd_same
    have g4 : (upd (upd (upd (upd H p1 (.tup [])) p2 (.tup [])) p3 (.tup [])) p4 (.tup [.ref p1, .ref p2, .ref p3])) p4 = some (.tup [.ref p1, .ref p2, .ref p3]) := upd_same
    generalize upd (upd (upd (upd H p1 (.tup [])) p2 (.tup [])) p3 (.tup [])) p4 (.tup [.ref p1, .ref p2, .ref p3]) = H4 at *
    refine ⟨p4, _, rfl, SqT.of g4, rfl, .ref p1, [_, _], rfl, .ref p2, [_], rfl, .ref p3, [], rfl, rfl, ?_⟩
    refine ⟨_, rfl, _, rfl, c, a, _, _, rfl, .inr ⟨SqT.of (e4 _ _ hc), SqT.of (e4 _ _ ha), ?_⟩⟩
    refine for_zipT (K := K) (a := c) (b := a) (xs := xs) (ys := ps.map V.int) (n := xs.length) (Nat.le_refl _) (by rw [List.length_map]; omega) (.inl (Nat.le_refl _))
      (fun i σ' H' => ∃ (q1 q2 q3 : Addr) (few one other : List Nat) (y6 y7 y8 y9 : Option V), σ' = [some (.ref d), some (.ref c), some (.ref a), some (.ref q1), some (.ref q2), some (.ref q3), y6, y7, y8, y9, none] ∧ HeapAt H' q1 few ∧ HeapAt H' q2 one ∧ HeapAt H' q3 other ∧
        (IsHeap few ∧ Sub few (hseq rs ps i)) ∧ (IsHeap one ∧ one.length ≤ i ∧ hAt one 0 ≤ i) ∧ (IsHeap other ∧ Sub other (hseq rs ps i)) ∧ Dice H' d ∧ Keep d H H')
      ⟨p1, p2, p3, [], [], [], none, none, none, none, rfl, g1, g2, g3, ⟨IsHeap.nil, Sub.refl _⟩, ⟨IsHeap.nil, Nat.le_refl _, Nat.le_refl _⟩, ⟨IsHeap.nil, Sub.refl _⟩, hd.ex e4, Keep.ex e4⟩ (fun i σ' H' hW => ?_) (fun i x y Tp σ' H' hi hx hy hW nT => ?_) (fun σ' H' hW => ?_)
    · obtain ⟨_, _, _, _, _, _, _, _, _, _, _, _, _, _, _, _, _, _, k'⟩ := hW
      exact ⟨SqT.of (k'.tup hd hc), SqT.of (k'.tup hd ha)⟩
    · obtain ⟨q1, q2, q3, few, one, other, y6, y7, y8, y9, rfl, w1, w2, w3, ⟨i1, s1⟩, ⟨i2, l2, t2⟩, ⟨i3, s3⟩, hd0, k0⟩ := hW
      obtain rfl := pl_get hy
      have eT := Ex.new (o := .tup [x, .int (ps.getD i 0)]) nT
      have kT := k0.trans (Keep.ex eT)
      have hdT := hd0.ex eT
      have hxr := (rings_nth4 hR hx).keep kT hd
      obtain ⟨c0, c1⟩ := hok i (by omega)
      obtain ⟨ok1, ok2, ok3⟩ := hseq_ok rs ps i
      have lf := s1.len i1
      have tf := s1 0
      have lo := s3.len i3
      have to' := s3 0
      generalize hn : (K1N.nAt rs i : Int) = n at *
      generalize hs : K1N.sAt rs i = s at *
      generalize hq : ps.getD i 0 = q at *
      have step : hseq rs ps (i + 1) = grow (hseq rs ps i) (gl (hseq rs ps i) n s q) := by
        show grow (hseq rs ps i) (gl (hseq rs ps i) (K1N.nAt rs i) (K1N.sAt rs i) (ps.getD i 0)) = _
        rw [hn, hs, hq]
      obtain ⟨t, rfl, ht, b1, b2, b3, b4⟩ := id hxr
      refine ⟨Tp, _, rfl, SqT.of upd_same, rfl, .ref t, [_], rfl, _, [], rfl, rfl, ?_⟩
      have v1 : HeapAt _ q1 few := eT _ _ w1
      have v2 : HeapAt _ q2 one := eT _ _ w2
      have v3 : HeapAt _ q3 other := eT _ _ w3
      generalize upd H' Tp (.tup [.ref t, .int q]) = H5 at *
      refine ⟨_, rfl, _, rfl, _, rfl, _, rfl, d, q1, few, _, n, s, q, rfl, hdT, v1, by omega, hxr, fun r1 H6 gf hgf hr1' hd6 k6 => ?_⟩
      have ht6 := k6.tup hdT ht
      refine ⟨_, rfl, _, rfl, t, _, 0, .int n, rfl, rfl, SqT.of ht6, rfl, d, n, rfl, hd6, by omega, by omega, fun two H7 two0 two1 hd7 k7 => ⟨_, _, rfl, ?_⟩⟩
      have k57 := k6.trans k7
      have hx7 := hxr.keep k57 hdT
      refine ⟨_, rfl, _, rfl, _, rfl, q2, one, _, n, s, two, rfl, v2.keep hdT k57, by omega, hx7, fun r2 H8 e8 hr2' => ?_⟩
      have hd8 := hd7.ex e8
      have k58 := k57.trans (Keep.ex e8)
      have hx8 := hxr.keep k58 hdT
      refine ⟨_, rfl, _, rfl, _, rfl, _, rfl, d, q3, other, _, n, s, q, rfl, hd8, v3.keep hdT k58, by omega, hx8, fun r3 H9 go hgo hr3' hd9 k9 => ⟨_, _, rfl, ?_⟩⟩
      have k59 := k58.trans k9
      have hx9 := hxr.keep k59 hdT
      have z1 : HeapAt H9 r1 (grow few gf) := hr1'.keep hd6 ((k7.trans (Keep.ex e8)).trans k9)
      have z2 : HeapAt H9 r2 (grow one (gl one n s two)) := hr2'.keep hd8 k9
      have nf := grow_small i1 (fun c z => gl_opn c (hgf c z)) (i := i) (by omega) (by omega)
      have n1 := grow_small i2 gl_opn (g := gl one n s two) l2 t2
      have no := grow_small i3 (fun c z => gl_opn c (hgo c z)) (i := i) (by omega) (by omega)
      have sub1 : Sub (grow few gf) (hseq rs ps (i + 1)) := by
        rw [step, gl_gp]
        exact sub_grow s1 hgf
      have sub3 : Sub (grow other go) (hseq rs ps (i + 1)) := by
        rw [step, gl_gp]
        exact sub_grow s3 hgo
      generalize grow few gf = few' at *
      generalize grow one (gl one n s two) = one' at *
      generalize grow other go = other' at *
      have G1 : Good one' := ⟨n1.1, by omega, by omega⟩
      have G3 : Good other' := ⟨no.1, by omega, by omega⟩
      have M := meet_heap n1.1 no.1
      have ml : (meet one' other').length ≤ i + 1 := by
        rw [meet_len]
        omega
      have mt : hAt (meet one' other') 0 ≤ i + 1 := by
        rw [hAt_meet]
        omega
      refine ⟨_, rfl, _, rfl, r2, r3, one', other', rfl, z2, hr3', G1, G3, fun r4 H10 e10 hr4 => ?_⟩
      refine ⟨_, rfl, _, rfl, r4, _, _, n, s, q, rfl, hr4, M, by omega, by omega, hx9.ex e10, c0, c1, fun r5 H11 e11 hr5 => ?_⟩
      have e911 := e10.trans e11
      rw [gl_gp, meet_grow n1.1 no.1] at hr5
      have h1s := grow_small n1.1 (gp_opn (p := fun z => decide ((z * s - q) % n = 0))) n1.2.1 n1.2.2
      have h3s := grow_small no.1 (gp_opn (p := fun z => decide ((z * s - q) % n = 0))) no.2.1 no.2.2
      refine ⟨_, rfl, _, rfl, _, rfl, _, rfl, r2, one', _, n, s, q, rfl, e911 _ _ z2, n1.1, by omega, by omega, hx9.ex e911, c0, c1, fun r6 H12 e12 hr6 => ?_⟩
      have e912 := e911.trans e12
      refine ⟨_, rfl, _, rfl, _, rfl, r3, other', _, n, s, q, rfl, e912 _ _ hr3', no.1, by omega, by omega, hx9.ex e912, c0, c1, fun r7 H13 e13 hr7 => ?_⟩
      have e913 := e912.trans e13
      rw [gl_gp] at hr6 hr7
      refine ⟨r6, r7, _, _, rfl, e13 _ _ hr6, hr7, ⟨h1s.1, by omega, by omega⟩, ⟨h3s.1, by omega, by omega⟩, fun r8 H14 e14 hr8 => ?_⟩
      have e914 := e913.trans e14
      have hr5b := (e12.trans (e13.trans e14)) _ _ hr5
      refine ⟨hD _, hD _, dp_heap hr5b, dp_heap hr8, shaped_heap _, shaped_heap _, _, rfl, ?_⟩
      rw [eqv_heap]
      refine iteF ?_
      refine ⟨_, rfl, _, rfl, _, rfl, _, rfl, r2, one', _, n, s, q, rfl, e914 _ _ z2, by omega, hx9.ex e914, fun r9 H15 e15 hr9 => ?_⟩
      have e915 := e914.trans e15
      refine ⟨_, rfl, _, rfl, _, rfl, r3, other', _, n, s, q, rfl, e915 _ _ hr3', by omega, hx9.ex e915, fun r10 H16 e16 hr10 => ?_⟩
      have e916 := e915.trans e16
      rw [gl_gp] at hr9 hr10
      refine ⟨r9, r10, _, _, rfl, e16 _ _ hr9, hr10, by omega, fun r11 H17 e17 hr11 => ?_⟩
      have e917 := e916.trans e17
      have hr5c := (e15.trans (e16.trans e17)) _ _ hr5b
      refine ⟨hD _, hD _, dp_heap hr5c, dp_heap hr11, shaped_heap _, shaped_heap _, _, rfl, ?_⟩
      rw [eqv_heap]
      refine iteF ?_
      exact ⟨r1, r2, r3, few', one', other', _, _, _, _, rfl, e917 _ _ z1, e917 _ _ z2, e917 _ _ hr3', ⟨nf.1, sub1⟩, n1, ⟨no.1, sub3⟩, hd9.ex e917, (kT.trans k59).trans (Keep.ex e917)⟩
    · obtain ⟨q1, q2, q3, few, one, other, y6, y7, y8, y9, rfl, w1, w2, w3, ⟨i1, s1⟩, ⟨i2, l2, t2⟩, ⟨i3, s3⟩, hd0, k0⟩ := hW
      have hc' := k0.tup hd hc
      have ha' : PlacesT H' a ps := k0.tup hd ha
      have hR' : RingsAt H' 60 xs rs := paired_imp (fun _ _ z => RingAt.keep k0 hd z) hR
      obtain ⟨ok1, ok2, ok3⟩ := hseq_ok rs ps xs.length
      have lf := s1.len i1
      have tf := s1 0
      have lo := s3.len i3
      have to' := s3 0
      refine ⟨_, rfl, _, rfl, c, a, xs, rs, ps, rfl, hc', hR', hl, ha', hpl, hok, fun b H1 e1 hb => ?_⟩
      have GH : Good (hseq rs ps xs.length) := ⟨ok1, by omega, by omega⟩
      refine ⟨_, rfl, _, rfl, b, q1, _, few, rfl, hb, e1 _ _ w1, GH, ⟨i1, by omega, by omega⟩, s1, fun H2 e2 => ⟨_, rfl, iteT ?_⟩⟩
      refine ⟨_, rfl, _, rfl, b, q3, _, other, rfl, e2 _ _ hb, (e1.trans e2) _ _ w3, GH, ⟨i3, by omega, by omega⟩, s3, fun H3 e3 => ⟨_, rfl, iteT ?_⟩⟩
      have e23 := e2.trans e3
      refine ⟨_, rfl, _, rfl, b, q1, _, few, rfl, e23 _ _ hb, (e1.trans e23) _ _ w1, by omega, lf, s1, fun H4 e4 => ⟨_, rfl, iteT ?_⟩⟩
      have e14 := e1.trans (e23.trans e4)
      refine ⟨_, rfl, _, rfl, _, rfl, c, a, xs, rs, ps, rfl, e14 _ _ hc', rings_ex4 e14 hR', hl.2, e14 _ _ ha', hpl, fun b2 H5 e5 hb2 => ?_⟩
      refine ⟨hD _, hD _, dp_heap ((e23.trans (e4.trans e5)) _ _ hb), dp_heap hb2, shaped_heap _, shaped_heap _, ?_⟩
      rw [eqv_heap]
      exact k _ (hd0.ex (e14.trans e5)) (k0.trans (Keep.ex (e14.trans e5)))
end
end K1

namespace K1
open PySem PySem.Spec PyProof.Rows L2 Evl HM LX ZW Z3 ZM
theorem sub_mod (A B n : Int) : (A - B % n) % n = (A - B) % n := by
  have e : A - B % n = (A - B) + n * (B / n) := by
    have := Int.mul_ediv_add_emod B n
    omega
  rw [e, Int.add_mul_emod_self_left]
theorem mod_neg {w n : Int} (h : w % n = 0) : (-w) % n = 0 := by
  have := Int.mul_ediv_add_emod w n
  rw [show -w = n * (-(w / n)) by rw [Int.mul_neg]; omega, Int.mul_emod_right]
theorem turn_let (z s q n : Int) : decide ((-z * s - (0 - q) % n) % n = 0) = decide ((z * s - q) % n = 0) := by
  refine decide_eq_decide.mpr ?_
  rw [sub_mod, show -z * s - (0 - q) = -(z * s - q) by rw [Int.neg_mul]; omega]
  constructor
  · intro h
    have := mod_neg h
    rw [Int.neg_neg] at this
    exact this
  · exact mod_neg
/-- places of the other side -/
def ng (rs : List (Int × Int)) (ps : List Int) : List Int := (List.range ps.length).map fun j => (0 - ps.getD j 0) % (K1N.nAt rs j : Int)
theorem ng_len (rs : List (Int × Int)) (ps : List Int) : (ng rs ps).length = ps.length := by
  unfold ng
  rw [List.length_map, List.length_range]
theorem mapr_get {n i : Nat} (f : Nat → Int) (h : i < n) : ((List.range n).map f).getD i 0 = f i := by
  rw [List.getD_eq_getElem?_getD, List.getElem?_map, List.getElem?_range h]
  rfl
theorem hseq_turn (rs : List (Int × Int)) (ps : List Int) : ∀ i, i ≤ ps.length → hseq rs (ng rs ps) i = conj (hseq rs ps i)
  | 0, _ => rfl
  | i + 1, hi => by
    show grow (hseq rs (ng rs ps) i) (gl (hseq rs (ng rs ps) i) (K1N.nAt rs i) (K1N.sAt rs i) ((ng rs ps).getD i 0)) = conj (grow (hseq rs ps i) (gl (hseq rs ps i) (K1N.nAt rs i) (K1N.sAt rs i) (ps.getD i 0)))
    rw [hseq_turn rs ps i (by omega), gl_gp, gl_gp]
    refine (conj_grow (fun z => ?_) (hseq_ok rs ps i).1).symm
    have e : (ng rs ps).getD i 0 = (0 - ps.getD i 0) % (K1N.nAt rs i : Int) := mapr_get _ (by omega)
    rw [e]
    exact turn_let z _ _ _
section
variable {P : Program} {w : World} {K : PySem.W.Frag} {mg : Str → Option Value} {base : Heap}
def spTurnedRight : Sp := fun vs H Q _ => ∃ c a xs rs ps, vs = [.ref c, .ref a] ∧ H c = some (.tup xs) ∧ RingsAt H 60 xs rs ∧ (1 ≤ xs.length ∧ xs.length ≤ 12) ∧ PlacesT H a ps ∧ ps.length = xs.length ∧ PlOk rs ps ∧ ∀ H', Ex H H' → Q (.bl true) H'
theorem ok_turned_right (T : Txt K mg) {f : Addr} {fd : FuncData} (D : DefAt K mg "_law_turned_right" sLTurnedRight ["_law_chain_here", "_law_x"] f fd) : FnOk P w K mg base CX0 7 f fd ["_law_chain_here", "_law_x"] spTurnedRight := by
  refine D.F.ok scLTurnedRight (fun vs H Q E h => ?_) (fun cdv A outer s₀ H vs Q E hr h => ?_)
  · obtain ⟨c, a, xs, rs, ps, rfl, _⟩ := h
    rfl
  · obtain ⟨c, a, xs, rs, ps, rfl, hc, hR, hl, ha, hpl, hok, k⟩ := h
    obtain ⟨f1, fd1, D1⟩ := T.d_heap_of
    obtain ⟨f2, fd2, D2⟩ := T.d_turned_over
    have hr5 : Room 5 _ := hr.mono (by decide)
    refine ⟨_, pss_cons (ps_set (i := 2) scLTurnedRight.nd rfl (.inl rfl) (pe_callTy call_tuple_of (by rfl) T.z_tuple (by decide +kernel) (pa_cons (pe_lc (own := [("_law_n", 3), ("_law_s", 4), ("_law_place", 5)]) (g := gTup K 2 (gCons (gTup K 2 (gCons (gName 3) (gCons (gName 4) gNil))) (gCons (gName 5) gNil))) (tt := tYes) rfl scLTurnedRight.nd (RZ.pi_zipA (by rfl) T.z_zip (pa_cons (pv 0) (pa_cons (pv 1) pa_nil)))
        (blkOk_by (N := nLTurnedRight) (sc := defScope sLTurnedRight) (by decide +kernel)) (fun _ _ _ _ _ => pg_tup (by rfl) (pgs_cons (pg_tup (by rfl) (pgs_cons (pg_name (i := 3) scLTurnedRight.nd rfl (.inl rfl)) (pgs_cons (pg_name (i := 4) scLTurnedRight.nd rfl (.inl rfl)) pgs_nil))) (pgs_cons (pg_name (i := 5) scLTurnedRight.nd rfl (.inl rfl)) pgs_nil))) (fun _ _ _ _ _ => pts_nil)
        (fun _ _ _ _ _ => pe_op op_mod (pe_op op_sub pe_int (pv 5)) (pv 3))) pa_nil)))
      (pss_one (ps_ret (pe_cmpR (op_eqD hr.units) (pe_call (ok_heap_of T D1) hr (by rfl) D1.g D1.F.kp D1.b .nil pass0 (pa_cons (pv 0) (pa_cons (pv 2) pa_nil)))
        (pe_call (ok_turned_over T D2) hr5 (by rfl) D2.g D2.F.kp D2.b .nil pass0 (pa_cons (pe_call (ok_heap_of T D1) hr (by rfl) D1.g D1.F.kp D1.b .nil pass0 (pa_cons (pv 0) (pa_cons (pv 1) pa_nil))) pa_nil)) (nomark _)))), ?_⟩
    refine ⟨_, rfl, _, rfl, c, a, _, _, rfl, .inr ⟨SqT.of hc, SqT.of ha, fun Dl hD => ?_⟩⟩
    refine lc_zipT (K := K) (a := c) (b := a) (xs := xs) (ys := ps.map V.int) (n := xs.length) (Nat.le_refl _) (by rw [List.length_map]; omega) (.inl (Nat.le_refl _)) (fun i H' => H' Dl = some (.lst (((List.range i).map fun j => (0 - ps.getD j 0) % (K1N.nAt rs j : Int)).map V.int)) ∧ Ex H H') ⟨upd_same, Ex.new hD⟩ (fun i H' hp => ⟨SqT.of (hp.2 _ _ hc), SqT.of (hp.2 _ _ ha)⟩) (fun i x y Tp H' hi hx hy hp nT => ?_) (fun H' hp => ?_)
    · obtain ⟨w1, w2⟩ := hp
      obtain rfl := pl_get hy
      have eT := Ex.new (o := .tup [x, .int (ps.getD i 0)]) nT
      have hx1 := rings_nth4 (rings_ex4 (w2.trans eT) hR) hx
      obtain ⟨t, rfl, ht, b1, b2, b3, b4⟩ := hx1
      refine ⟨Tp, _, rfl, SqT.of upd_same, rfl, .ref t, [_], rfl, t, _, rfl, SqT.of ht, rfl, .int _, [_], rfl, .int _, [], rfl, rfl, _, [], rfl, rfl, rfl, ?_⟩
      dsimp only [tYes]
      rw [if_pos rfl]
      refine ⟨_, rfl, _, _, rfl, rfl, _, rfl, _, _, rfl, rfl, by omega, _, eT _ _ w1, ?_, ?_, Ex.mut (w2.trans eT) hD⟩
      · rw [List.length_map, List.length_map, List.length_range]
        exact small1000 (by omega)
      · rw [upd_same, List.range_succ, List.map_append, List.map_append]
        rfl
    · obtain ⟨w1, w2⟩ := hp
      refine ⟨Dl, _, rfl, .inl ⟨SqL.of w1, fun r hr' => ?_⟩⟩
      have e1 := w2.trans (Ex.new (o := .tup (((List.range xs.length).map fun j => (0 - ps.getD j 0) % (K1N.nAt rs j : Int)).map V.int)) hr')
      have hr1 : PlacesT (upd H' r (.tup (((List.range xs.length).map fun j => (0 - ps.getD j 0) % (K1N.nAt rs j : Int)).map V.int))) r (ng rs ps) := by
        show upd H' r _ r = _
        rw [upd_same, ← hpl]
        rfl
      generalize upd H' r (.tup (((List.range xs.length).map fun j => (0 - ps.getD j 0) % (K1N.nAt rs j : Int)).map V.int)) = H1 at *
      have hok2 : PlOk rs (ng rs ps) := fun j hj => by
        rw [ng_len] at hj
        have := (hok j hj)
        have e : (ng rs ps).getD j 0 = (0 - ps.getD j 0) % (K1N.nAt rs j : Int) := mapr_get _ hj
        rw [e]
        exact ⟨Int.emod_nonneg _ (by omega), Int.emod_lt_of_pos _ (by omega)⟩
      refine ⟨_, rfl, _, rfl, c, r, xs, rs, ng rs ps, rfl, e1 _ _ hc, rings_ex4 e1 hR, hl, hr1, by rw [ng_len]; exact hpl, hok2, fun b1 H2 e2 hb1 => ?_⟩
      have e12 := e1.trans e2
      refine ⟨_, rfl, _, rfl, c, a, xs, rs, ps, rfl, e12 _ _ hc, rings_ex4 e12 hR, hl, e12 _ _ ha, hpl, hok, fun b2 H3 e3 hb2 => ?_⟩
      obtain ⟨ok1, ok2, ok3⟩ := hseq_ok rs ps xs.length
      refine ⟨b2, _, rfl, hb2, ⟨ok1, by omega, by omega⟩, fun b3 H4 e4 hb3 => ?_⟩
      rw [hseq_turn rs ps xs.length (by omega)] at hb1
      refine ⟨K1.hD _, K1.hD _, dp_heap ((e3.trans e4) _ _ hb1), dp_heap hb3, shaped_heap _, shaped_heap _, ?_⟩
      rw [eqv_heap]
      exact k _ ((e12.trans e3).trans e4)
end
end K1

/-! own rules: slices of a tuple and sums of tuples, whole or empty ones too, by what stands afterwards -/
namespace TE
open PySem PySem.Spec PyProof.Rows L2 Evl
section
variable {X : Cx}
def rSlE : V → Option Int → Option Int → Hp → VK → Prop := fun x lo hi H Q => ∃ a xs, x = .ref a ∧ H a = some (.tup xs) ∧ ∀ p H', Ex H H' → H' p = some (.tup (cutV xs lo hi)) → Q (.ref p) H'
theorem sl_tupE : SlR X rSlE := by
  intro pins s σ H x v vl vu lo hi sl Q I rx hs pl pu h
  obtain ⟨a, xs, rfl, hx, q⟩ := h
  refine sl_tupA pins s σ H _ v vl vu lo hi sl Q I rx hs pl pu ⟨a, xs, rfl, SqT.of hx, fun w => q a H (Ex.refl _) ?_, fun _ p hp => q p _ (Ex.new hp) upd_same⟩
  obtain ⟨w1, w2⟩ := w
  have e : cutV xs lo hi = xs := by
    unfold cutV
    rw [w1, w2, List.drop_zero, Nat.sub_zero, List.take_length]
  rw [e]
  exact hx
def rCatE : R2 := fun x y H Q => ∃ a b xs ys, x = .ref a ∧ y = .ref b ∧ H a = some (.tup xs) ∧ H b = some (.tup ys) ∧ xs.length + ys.length ≤ sizeLine ∧ ∀ p H', Ex H H' → H' p = some (.tup (xs ++ ys)) → Q (.ref p) H'
theorem op_catE : OpR X (binaryOp .Add) rCatE := by
  intro pins s σ H x y v u Q I rx ry h
  obtain ⟨a, b, xs, ys, rfl, rfl, ha, hb, hz, q⟩ := h
  refine op_catA pins s σ H _ _ v u Q I rx ry ⟨a, b, xs, ys, rfl, rfl, SqT.of ha, SqT.of hb, hz, fun e => q b H (Ex.refl _) ?_, fun _ e => q a H (Ex.refl _) ?_, fun _ _ p hp => q p _ (Ex.new hp) upd_same⟩
  · rw [e, List.nil_append]
    exact hb
  · rw [e, List.append_nil]
    exact ha
end
end TE

namespace K1
open PySem PySem.Spec PyProof.Rows L2 Evl HM LX ZW Z3 ZM TE
theorem cutE_to {xs : List V} {c : Nat} (hc : c ≤ xs.length) : cutV xs none (some (c : Int)) = xs.take c := by
  unfold cutV
  rw [HT.sIx_none, HT.sIx_nat, List.drop_zero, Nat.sub_zero, Nat.min_eq_left hc]
theorem cutE_from {xs : List V} {c : Nat} (hc : c ≤ xs.length) : cutV xs (some (c : Int)) none = xs.drop c := by
  unfold cutV
  rw [HT.sIx_none, HT.sIx_nat, Nat.min_eq_left hc]
  exact List.take_of_length_le (by rw [List.length_drop]; exact Nat.le_refl _)
theorem set_partsE {α : Type} : ∀ (l : List α) (c : Nat) (v : α), c < l.length → l.take c ++ [v] ++ l.drop (c + 1) = l.set c v
  | [], c, _, h => absurd h (Nat.not_lt_zero c)
  | x :: l, 0, v, _ => rfl
  | x :: l, c + 1, v, h => congrArg (x :: ·) (set_partsE l c v (Nat.lt_of_succ_lt_succ h))
theorem take_set {α : Type} : ∀ (l : List α) (c : Nat) (v : α), (l.set c v).take c = l.take c
  | [], c, _ => by simp
  | x :: l, 0, v => rfl
  | x :: l, c + 1, v => congrArg (x :: ·) (take_set l c v)
theorem set_getD {ps : List Int} {m : Nat} {j : Int} (hm : m < ps.length) (k : Nat) : (ps.set m j).getD k 0 = if k = m then j else ps.getD k 0 := by
  rw [List.getD_eq_getElem?_getD, List.getElem?_set, List.getD_eq_getElem?_getD]
  by_cases e : k = m
  · subst e
    rw [if_pos rfl, if_pos hm, if_pos rfl]
    rfl
  · rw [if_neg (fun z => e z.symm), if_neg e]
theorem modp_mv (rs : List (Int × Int)) (ps : List Int) (a : Int) : modp rs (mv rs ps a) = (List.range ps.length).map fun j => (ps.getD j 0 + a * K1N.sAt rs j) % (K1N.nAt rs j : Int) := by
  have l : (mv rs ps a).length = ps.length := by
    unfold mv
    rw [List.length_map, List.length_range]
  unfold modp
  rw [l]
  refine List.map_congr_left fun j hj => ?_
  have := List.mem_range.mp hj
  have e : (mv rs ps a).getD j 0 = ps.getD j 0 + a * K1N.sAt rs j := mapr_get _ this
  rw [e]
theorem moved_let (a s q n : Int) (i : Nat) : decide (((a - 3 + (i : Int)) * s - (q + a * s) % n) % n = 0) = decide (((-3 + (i : Int)) * s - q) % n = 0) := by
  refine decide_eq_decide.mpr ?_
  rw [sub_mod, show (a - 3 + (i : Int)) * s - (q + a * s) = (-3 + (i : Int)) * s - q by
    rw [show a - 3 + (i : Int) = a + (-3 + (i : Int)) by omega, Int.add_mul]
    omega]
theorem eqvAll_ints : ∀ a b : List Int, PyData.eqvAll (a.map PyData.int) (b.map PyData.int) = decide (a = b)
  | [], [] => by simp [PyData.eqvAll]
  | [], _ :: _ => by simp [PyData.eqvAll]
  | _ :: _, [] => by simp [PyData.eqvAll]
  | x :: a, y :: b => by
    have := eqvAll_ints a b
    simp only [List.map_cons, PyData.eqvAll, PyData.eqv, this]
    by_cases e : x = y
    · subst e
      simp
    · simp [e]
theorem nz_inj {a b : List Nat} (h : nz a = nz b) : a = b := by
  have e : ∀ l : List Nat, (nz l).map Int.toNat = l := fun l => by
    unfold nz
    rw [List.map_map]
    exact (List.map_congr_left fun x _ => by show ((x : Int)).toNat = id x; rw [Int.toNat_natCast]; rfl).trans (List.map_id l)
  rw [← e a, ← e b, h]
theorem eqv_heap2 (a b : List Nat) : PyData.eqv (hD a) (hD b) = decide (a = b) := by
  have : PyData.eqv (hD a) (hD b) = PyData.eqvAll ((nz a).map PyData.int) ((nz b).map PyData.int) := by
    unfold hD
    simp only [PyData.eqv]
  rw [this, eqvAll_ints]
  exact decide_eq_decide.mpr ⟨nz_inj, fun e => by rw [e]⟩
/-- a place at which the ring adds nothing -/
def Idle (rs : List (Int × Int)) (ps : List Int) (m : Nat) (j : Int) : Prop := grow (hseq rs ps m) (gl (hseq rs ps m) (K1N.nAt rs m) (K1N.sAt rs m) j) = hseq rs ps m
theorem hseq_set_le {rs : List (Int × Int)} {ps : List Int} {m : Nat} {j : Int} (hm : m < ps.length) : ∀ i, i ≤ m → hseq rs (ps.set m j) i = hseq rs ps i
  | 0, _ => rfl
  | i + 1, hi => by
    show grow (hseq rs (ps.set m j) i) (gl (hseq rs (ps.set m j) i) _ _ ((ps.set m j).getD i 0)) = grow (hseq rs ps i) (gl (hseq rs ps i) _ _ (ps.getD i 0))
    rw [hseq_set_le hm i (by omega), set_getD hm, if_neg (by omega)]
theorem hseq_set_at {rs : List (Int × Int)} {ps : List Int} {m : Nat} {j : Int} (hm : m < ps.length) (d : Idle rs ps m j) : hseq rs (ps.set m j) (m + 1) = hseq rs ps m := by
  show grow (hseq rs (ps.set m j) m) (gl (hseq rs (ps.set m j) m) _ _ ((ps.set m j).getD m 0)) = _
  rw [hseq_set_le hm m (Nat.le_refl _), set_getD hm, if_pos rfl]
  exact d
theorem hseq_idle {rs : List (Int × Int)} {ps : List Int} {m : Nat} {j j2 : Int} (hm : m < ps.length) (d : Idle rs ps m j) (d2 : Idle rs ps m j2) : ∀ i, hseq rs (ps.set m j) i = hseq rs (ps.set m j2) i
  | 0 => rfl
  | i + 1 => by
    by_cases e : i = m
    · subst e
      rw [hseq_set_at hm d, hseq_set_at hm d2]
    · show grow (hseq rs (ps.set m j) i) (gl (hseq rs (ps.set m j) i) _ _ ((ps.set m j).getD i 0)) = grow (hseq rs (ps.set m j2) i) (gl (hseq rs (ps.set m j2) i) _ _ ((ps.set m j2).getD i 0))
      rw [hseq_idle hm d d2 i, set_getD hm, set_getD hm, if_neg e, if_neg e]
theorem hseq_sub {rs : List (Int × Int)} {ps : List Int} {m : Nat} {j : Int} (hm : m < ps.length) (d : Idle rs ps m j) : ∀ i, Sub (hseq rs (ps.set m j) i) (hseq rs ps i)
  | 0 => Sub.refl _
  | i + 1 => by
    by_cases e : i = m
    · subst e
      rw [hseq_set_at hm d]
      exact sub_more (Sub.refl _) gl_opn
    · show Sub (grow (hseq rs (ps.set m j) i) (gl (hseq rs (ps.set m j) i) _ _ ((ps.set m j).getD i 0))) (grow (hseq rs ps i) (gl (hseq rs ps i) _ _ (ps.getD i 0)))
      rw [set_getD hm, if_neg e, gl_gp, gl_gp]
      exact sub_grow (hseq_sub hm d i) fun c z => z
def off (k : Nat) : Int := -3 + (k : Int)
theorem fl_snoc (g : Nat → Bool) (f : Nat → Int) (i : Nat) : ((List.range (i + 1)).filter g).map f = ((List.range i).filter g).map f ++ (if g i = true then [f i] else []) := by
  rw [List.range_succ, List.filter_append, List.map_append]
  by_cases q : g i = true
  · rw [if_pos q, List.filter_cons, if_pos q]
    rfl
  · rw [if_neg q, List.filter_cons, if_neg q]
    rfl
theorem fl_len (g : Nat → Bool) (f : Nat → Int) (i : Nat) : (((List.range i).filter g).map f).length ≤ i := by
  rw [List.length_map]
  have := List.length_filter_le g (List.range i)
  rw [List.length_range] at this
  exact this
section
variable {P : Program} {w : World} {K : PySem.W.Frag} {mg : Str → Option Value} {base : Heap}
def spMovedRight : Sp := fun vs H Q _ => ∃ d c a xs rs ps, vs = [.ref d, .ref c, .ref a] ∧ Dice H d ∧ H c = some (.tup xs) ∧ RingsAt H 60 xs rs ∧ (1 ≤ xs.length ∧ xs.length ≤ 12) ∧ PlacesT H a ps ∧ ps.length = xs.length ∧ PlOk rs ps ∧ ∀ H', Dice H' d → Keep d H H' → Q (.bl true) H'
theorem ok_moved_right (T : Txt K mg) {f : Addr} {fd : FuncData} (D : DefAt K mg "_law_moved_right" sLMovedRight ["_law_dice_here", "_law_chain_here", "_law_x"] f fd) : FnOk P w K mg base CX0 7 f fd ["_law_dice_here", "_law_chain_here", "_law_x"] spMovedRight := by
  refine D.F.ok scLMovedRight (fun vs H Q E h => ?_) (fun cdv A outer s₀ H vs Q E hr h => ?_)
  · obtain ⟨d, c, a, xs, rs, ps, rfl, _⟩ := h
    rfl
  · obtain ⟨d, c, a, xs, rs, ps, rfl, hd, hc, hR, hl, ha, hpl, hok, k⟩ := h
    obtain ⟨f1, fd1, D1⟩ := T.d_l_roll
    obtain ⟨f2, fd2, D2⟩ := T.d_class_with_ends
    obtain ⟨f3, fd3, D3⟩ := T.d_l_grown
    obtain ⟨f4, fd4, D4⟩ := T.d_grown
    obtain ⟨f5, fd5, D5⟩ := T.d_l_one_of
    obtain ⟨f7, fd7, D7⟩ := T.d_heap_of
    obtain ⟨f8, fd8, D8⟩ := T.d_is_held
    have hr1 : Room 1 _ := hr.mono (by decide)
    have hr2 : Room 2 _ := hr.mono (by decide)
    have hr5 : Room 5 _ := hr.mono (by decide)
    refine ⟨_, pss_cons (ps_set (i := 3) scLMovedRight.nd rfl (.inr rfl) (pe_op op_sub (pe_call (ok_roll T D1) hr1 (by rfl) D1.g D1.F.kp D1.b .nil pass0 (pa_cons (pv 0) (pa_cons pe_int pa_nil))) pe_int))
      (pss_cons (ps_asg (pe_call (ok_class_with_ends T D2) hr (by rfl) D2.g D2.F.kp D2.b .nil pass0 (pa_cons (pv 1) (pa_cons (pe_tup (pa_cons pe_int (pa_cons (pv 2) pa_nil))) (pa_cons (pv 3) (pa_cons pe_int pa_nil))))) (pg_tup (by rfl) (pgs_cons (pg_name (i := 4) scLMovedRight.nd rfl (.inl rfl)) (pgs_cons (pg_name (i := 5) scLMovedRight.nd rfl (.inl rfl)) pgs_nil))))
      (pss_cons (ps_if (PW.pt (pw_or (pt_cmpR op_ne (pv 4) (pe_op op_add pe_int (pv 3)) (nomark _))
          (pw_or1 (pt_cmpR (op_neD hr.units) (pv 5) (pe_callTy call_tuple_of (by rfl) T.z_tuple (by decide +kernel) (pa_cons (pe_lc (own := [("_law_n", 6), ("_law_s", 7), ("_law_place", 8)]) (g := gTup K 2 (gCons (gTup K 2 (gCons (gName 6) (gCons (gName 7) gNil))) (gCons (gName 8) gNil))) (tt := tYes) rfl scLMovedRight.nd (RZ.pi_zipA (by rfl) T.z_zip (pa_cons (pv 1) (pa_cons (pv 2) pa_nil)))
            (blkOk_by (N := nLMovedRight) (sc := defScope sLMovedRight) (by decide +kernel)) (fun _ _ _ _ _ => pg_tup (by rfl) (pgs_cons (pg_tup (by rfl) (pgs_cons (pg_name (i := 6) scLMovedRight.nd rfl (.inl rfl)) (pgs_cons (pg_name (i := 7) scLMovedRight.nd rfl (.inl rfl)) pgs_nil))) (pgs_cons (pg_name (i := 8) scLMovedRight.nd rfl (.inl rfl)) pgs_nil))) (fun _ _ _ _ _ => pts_nil)
            (fun _ _ _ _ _ => pe_op op_mod (pe_op op_add (pv 8) (pe_op op_mul (pv 3) (pv 7))) (pv 6))) pa_nil)) (nomark _))))) (pss_one (ps_ret pe_bl)) pss_nil)
      (pss_cons (ps_for PassesOwn.never rfl (pi_zip3 (by rfl) T.z_zip (pa_cons (pv 1) (pa_cons (pv 2) (pa_cons (pv 5) pa_nil)))) (pg_tup (by rfl) (pgs_cons (pg_tup (by rfl) (pgs_cons (pg_name (i := 6) scLMovedRight.nd rfl (.inr rfl)) (pgs_cons (pg_name (i := 7) scLMovedRight.nd rfl (.inr rfl)) pgs_nil))) (pgs_cons (pg_name (i := 8) scLMovedRight.nd rfl (.inr rfl)) (pgs_cons (pg_name (i := 9) scLMovedRight.nd rfl (.inr rfl)) pgs_nil))))
        (pss_cons (ps_setLc (i := 10) (own := [("_law_c", 17)]) (g := gName 17) (by rfl) scLMovedRight.nd rfl rfl (sw_true rfl rfl rfl (by decide +kernel)) (pi_range2 (by rfl) T.z_range (pa_cons (pe_un un_neg pe_int) (pa_cons pe_int pa_nil)))
          (blkOk_by (N := nLMovedRight) (sc := defScope sLMovedRight) (by decide +kernel)) (fun _ _ _ _ _ => pg_name (i := 17) scLMovedRight.nd rfl (Or.inl rfl))
          (fun _ _ _ _ _ => pts_one (pt_cmpR op_eq (pe_op op_mod (pe_op op_sub (pe_op op_mul (pv 17) (pv 7)) (pv 8)) (pv 6)) pe_int (nomark _))) (fun _ _ _ _ _ => pv 17))
        (pss_one (ps_if (pt_cmpR (op_neD hr.units) (pv 10) (pe_lc (own := [("_law_c", 17)]) (g := gName 17) rfl scLMovedRight.nd (pi_range2 (by rfl) T.z_range (pa_cons (pe_op op_sub (pv 3) pe_int) (pa_cons (pe_op op_add (pv 3) pe_int) pa_nil)))
          (blkOk_by (N := nLMovedRight) (sc := defScope sLMovedRight) (by decide +kernel)) (fun _ _ _ _ _ => pg_name (i := 17) scLMovedRight.nd rfl (Or.inl rfl))
          (fun _ _ _ _ _ => pts_one (pt_cmpR op_eq (pe_op op_mod (pe_op op_sub (pe_op op_mul (pv 17) (pv 7)) (pv 9)) (pv 6)) pe_int (nomark _))) (fun _ _ _ _ _ => pe_op op_sub (pv 17) (pv 3))) (nomark _)) (pss_one (ps_ret pe_bl)) pss_nil))))
      (pss_cons (ps_asg (pe_tup (pa_cons (pe_tup pa_nil) (pa_cons (pe_call (ok_roll T D1) hr1 (by rfl) D1.g D1.F.kp D1.b .nil pass0 (pa_cons (pv 0) (pa_cons (pe_callB call_len_seq (by rfl) T.z_len PySem.boot_len (pa_cons (pv 1) pa_nil)) pa_nil))) pa_nil))) (pg_tup (by rfl) (pgs_cons (pg_name (i := 11) scLMovedRight.nd rfl (.inr rfl)) (pgs_cons (pg_name (i := 12) scLMovedRight.nd rfl (.inr rfl)) pgs_nil))))
      (pss_cons (ps_for PassesOwn.never rfl (RZ.pi_zipA (by rfl) T.z_zip (pa_cons (pe_slice sl_tupE (pv 1) po_none (po_some (pv 12))) (pa_cons (pv 2) pa_nil))) (pg_tup (by rfl) (pgs_cons (pg_name (i := 13) scLMovedRight.nd rfl (.inl rfl)) (pgs_cons (pg_name (i := 8) scLMovedRight.nd rfl (.inr rfl)) pgs_nil)))
        (pss_one (ps_set (i := 11) scLMovedRight.nd rfl (.inr rfl) (pe_call (ok_lgrown T D3) hr1 (by rfl) D3.g D3.F.kp D3.b .nil pass0 (pa_cons (pv 11) (pa_cons (pv 13) (pa_cons (pv 8) pa_nil)))))))
      (pss_cons (ps_setLc (i := 14) (own := [("_law_place", 8)]) (g := gName 8) (by rfl) scLMovedRight.nd rfl rfl (sw_true rfl rfl rfl (by decide +kernel)) (pi_range1 (by rfl) T.z_range (pa_cons (pe_ix ix_tup (pe_ix ix_tup (pv 1) (pv 12) (fun _ _ => rfl)) pe_int (fun _ _ => rfl)) pa_nil))
          (blkOk_by (N := nLMovedRight) (sc := defScope sLMovedRight) (by decide +kernel)) (fun _ _ _ _ _ => pg_name (i := 8) scLMovedRight.nd rfl (Or.inl rfl))
          (fun _ _ _ _ _ => pts_one (pt_cmpR (show OpR _ _ (rEqD K) from op_eqD hr.units) (pe_call (ok_grown T D4) hr5 (by rfl) D4.g D4.F.kp D4.b .nil pass0 (pa_cons (pv 11) (pa_cons (pe_ix (show IxR _ (rIxT K) from ix_tup) (pv 1) (pv 12) (fun _ _ => rfl)) (pa_cons (pv 8) pa_nil)))) (pv 11) (nomark _))) (fun _ _ _ _ _ => pv 8))
      (pss_cons (ps_if (pt_cmpR (op_eqD hr.units) (pv 14) (pe_lst pa_nil) (nomark _)) (pss_one (ps_ret pe_bl)) pss_nil)
      (pss_cons (ps_set (i := 15) scLMovedRight.nd rfl (.inl rfl) (pe_op op_catE (pe_op op_catE (pe_slice sl_tupE (pv 2) po_none (po_some (pv 12))) (pe_tup (pa_cons (pe_call (ok_one_of T D5) hr2 (by rfl) D5.g D5.F.kp D5.b .nil pass0 (pa_cons (pv 0) (pa_cons (pv 14) pa_nil))) pa_nil))) (pe_slice sl_tupE (pv 2) (po_some (pe_op op_add (pv 12) pe_int)) po_none)))
      (pss_cons (ps_set (i := 16) scLMovedRight.nd rfl (.inl rfl) (pe_op op_catE (pe_op op_catE (pe_slice sl_tupE (pv 15) po_none (po_some (pv 12))) (pe_tup (pa_cons (pe_call (ok_one_of T D5) hr2 (by rfl) D5.g D5.F.kp D5.b .nil pass0 (pa_cons (pv 0) (pa_cons (pv 14) pa_nil))) pa_nil))) (pe_slice sl_tupE (pv 2) (po_some (pe_op op_add (pv 12) pe_int)) po_none)))
      (pss_one (ps_ret (pe_and (pe_cmpR (op_eqD hr.units) (pe_call (ok_heap_of T D7) hr (by rfl) D7.g D7.F.kp D7.b .nil pass0 (pa_cons (pv 1) (pa_cons (pv 15) pa_nil))) (pe_call (ok_heap_of T D7) hr (by rfl) D7.g D7.F.kp D7.b .nil pass0 (pa_cons (pv 1) (pa_cons (pv 16) pa_nil))) (nomark _))
        (pe_one (pe_call (ok_is_held T D8) hr (by rfl) D8.g D8.F.kp D8.b .nil pass0 (pa_cons (pe_call (ok_heap_of T D7) hr (by rfl) D7.g D7.F.kp D7.b .nil pass0 (pa_cons (pv 1) (pa_cons (pv 2) pa_nil))) (pa_cons (pe_call (ok_heap_of T D7) hr (by rfl) D7.g D7.F.kp D7.b .nil pass0 (pa_cons (pv 1) (pa_cons (pv 15) pa_nil))) pa_nil)))))))))))))))), ?_⟩
    refine ⟨_, rfl, d, 9, rfl, hd, by decide, by decide, fun r0 H1 r00 r01 hd1 k1 => ⟨_, _, rfl, rfl, ?_⟩⟩
    dsimp only
    generalize hav : r0 - 4 = av at *
    have av1 : -4 ≤ av ∧ av ≤ 4 := by omega
    have hc1 := k1.tup hd hc
    have ha1 : PlacesT H1 a ps := k1.tup hd ha
    have hR1 : RingsAt H1 60 xs rs := paired_imp (fun _ _ z => RingAt.keep k1 hd z) hR
    refine ⟨_, rfl, _, rfl, by show 2 ≤ sizeLine; decide, fun t0 ht0 => ?_⟩
    have e0 := Ex.new (o := .tup [.int 3, .ref a]) ht0
    have g0 : (upd H1 t0 (.tup [.int 3, .ref a])) t0 = some (.tup [.int 3, .ref a]) := upd_same
    generalize upd H1 t0 (.tup [.int 3, .ref a]) = H2 at *
    refine ⟨_, rfl, c, .ref t0, xs, rs, 3, ps, av, 2, rfl, e0 _ _ hc1, rings_ex4 e0 hR1, hl, ⟨t0, a, rfl, g0, e0 _ _ ha1⟩, by decide, by omega, by decide, hpl, hok, fun r H3 e3' hcl => ?_⟩
    obtain ⟨t2, m, er, ht2, hm⟩ := hcl
    cases er
    have e3 := e0.trans e3'
    have hd3 := hd1.ex e3
    have k3 := k1.trans (Keep.ex e3)
    have hc3 := e3 _ _ hc1
    have ha3 : PlacesT H3 a ps := e3 _ _ ha1
    have hR3 := rings_ex4 e3 hR1
    rw [modp_mv] at hm
    generalize hms : ((List.range ps.length).map fun j => (ps.getD j 0 + av * K1N.sAt rs j) % (K1N.nAt rs j : Int)) = ms at *
    have hml : ms.length = xs.length := by
      rw [← hms, List.length_map, List.length_range]
      exact hpl
    have hmg : ∀ i, i < xs.length → ms.getD i 0 = (ps.getD i 0 + av * K1N.sAt rs i) % (K1N.nAt rs i : Int) := fun i hi => by
      rw [← hms]
      exact mapr_get _ (by omega)
    refine ⟨r, _, rfl, SqT.of ht2, rfl, .int _, [_], rfl, .ref m, [], rfl, rfl, ?_⟩
    clear ht0 e3' hav r00 r01
    refine ⟨_, rfl, _, rfl, _, _, rfl, rfl, rfl, _, rfl, ?_⟩
    rw [decide_eq_true (show V.int (3 + av + 2) = V.int (5 + av) from congrArg V.int (by omega))]
    refine iteF ?_
    refine ⟨_, rfl, _, rfl, _, rfl, c, a, _, _, rfl, .inr ⟨SqT.of hc3, SqT.of ha3, fun Dl hD => ?_⟩⟩
    refine lc_zipT (K := K) (a := c) (b := a) (xs := xs) (ys := ps.map V.int) (n := xs.length) (Nat.le_refl _) (by rw [List.length_map]; omega) (.inl (Nat.le_refl _)) (fun i H' => H' Dl = some (.lst ((ms.take i).map V.int)) ∧ Ex H3 H') ⟨upd_same, Ex.new hD⟩ (fun i H' hp => ⟨SqT.of (hp.2 _ _ hc3), SqT.of (hp.2 _ _ ha3)⟩) (fun i x y Tp H' hi hx hy hp nT => ?_) (fun H4 hp => ?_)
    · obtain ⟨w1, w2⟩ := hp
      obtain rfl := pl_get hy
      have eT := Ex.new (o := .tup [x, .int (ps.getD i 0)]) nT
      have hx1 := rings_nth4 (rings_ex4 (w2.trans eT) hR3) hx
      obtain ⟨t, rfl, ht, b1, b2, b3, b4⟩ := hx1
      have hgi : ms[i]? = some ((ps.getD i 0 + av * K1N.sAt rs i) % (K1N.nAt rs i : Int)) := by
        rw [← hmg i hi, List.getD_eq_getElem?_getD, List.getElem?_eq_getElem (by omega)]
        rfl
      refine ⟨Tp, _, rfl, SqT.of upd_same, rfl, .ref t, [_], rfl, t, _, rfl, SqT.of ht, rfl, .int _, [_], rfl, .int _, [], rfl, rfl, _, [], rfl, rfl, rfl, ?_⟩
      dsimp only [tYes]
      rw [if_pos rfl]
      refine ⟨_, rfl, _, rfl, _, rfl, _, _, rfl, rfl, .inr (by constructor <;> omega), _, _, rfl, rfl, _, rfl, _, _, rfl, rfl, by omega, _, eT _ _ w1, ?_, ?_, Ex.mut (w2.trans eT) hD⟩
      · rw [List.length_map, List.length_take]
        exact small1000 (Nat.le_trans (Nat.min_le_right _ _) (by omega))
      · rw [upd_same, List.take_add_one, hgi, List.map_append]
        rfl
    obtain ⟨w1, w2⟩ := hp
    rw [List.take_of_length_le (by omega)] at w1
    refine ⟨Dl, _, rfl, .inl ⟨SqL.of w1, fun r2 hr2 => ?_⟩⟩
    have e4 := w2.trans (Ex.new (o := .tup (ms.map V.int)) hr2)
    have g4 : (upd H4 r2 (.tup (ms.map V.int))) r2 = some (.tup (ms.map V.int)) := upd_same
    generalize upd H4 r2 (.tup (ms.map V.int)) = H5 at *
    have hm5 : H5 m = some (.tup (ms.map V.int)) := e4 _ _ hm
    refine ⟨.tuple _, .tuple _, .tup (SqT.of hm5) (dp_ints ms), .tup (SqT.of g4) (dp_ints ms), shaped_intsT _, shaped_intsT _, _, rfl, ?_⟩
    rw [eqv_intsT]
    refine iteF ?_
    have hc5 := e4 _ _ hc3
    have ha5 : PlacesT H5 a ps := e4 _ _ ha3
    have hR5 := rings_ex4 e4 hR3
    have hd5 := hd3.ex e4
    have k5 := k3.trans (Keep.ex e4)
    refine ⟨_, rfl, _, rfl, _, rfl, c, a, m, xs, _, _, rfl, SqT.of hc5, SqT.of ha5, SqT.of hm5, ?_⟩
    refine for_zip3 (K := K) (a := c) (b := a) (c := m) (xs := xs) (ys := ps.map V.int) (us := ms.map V.int) (n := xs.length) rfl (by rw [List.length_map]; omega) (by rw [List.length_map]; omega)
      (fun i σ' H' => ∃ (y6 y7 y8 y9 y10 : Option V), σ' = [some (.ref d), some (.ref c), some (.ref a), some (.int av), some (.int (3 + av + 2)), some (.ref m), y6, y7, y8, y9, y10, none, none, none, none, none, none, none] ∧ Ex H5 H') ⟨none, none, none, none, none, rfl, Ex.refl _⟩ (fun i σ' H' hW => ?_) (fun i x y u Tp σ' H' hi hx hy hu hW nT => ?_) (fun σ' H6 hW => ?_)
    · obtain ⟨_, _, _, _, _, _, e⟩ := hW
      exact ⟨SqT.of (e _ _ hc5), SqT.of (e _ _ ha5), SqT.of (e _ _ hm5)⟩
    · obtain ⟨y6, y7, y8, y9, y10, rfl, e⟩ := hW
      obtain rfl := pl_get hy
      obtain rfl := pl_get hu
      have eT := Ex.new (o := .tup [x, .int (ps.getD i 0), .int (ms.getD i 0)]) nT
      have hx1 := rings_nth4 (rings_ex4 (e.trans eT) hR5) hx
      obtain ⟨t, rfl, ht, b1, b2, b3, b4⟩ := hx1
      have hlater := hmg i hi
      refine ⟨Tp, _, rfl, SqT.of upd_same, rfl, .ref t, [_, _], rfl, t, _, rfl, SqT.of ht, rfl, .int _, [_], rfl, .int _, [], rfl, rfl, _, [_], rfl, _, [], rfl, rfl, ?_⟩
      have e5 := e.trans eT
      generalize upd H' Tp (.tup [.ref t, .int (ps.getD i 0), .int (ms.getD i 0)]) = G0 at e5 ⊢
      let lt1 : Nat → Bool := fun k => decide (((-3 + (k : Int)) * K1N.sAt rs i - ps.getD i 0) % (K1N.nAt rs i : Int) = 0)
      refine ⟨3, rfl, -3, 4, rfl, by decide, fun D1 hD1 => ?_⟩
      refine lc_range (lo := -3) (n := 7) (fun j G => G D1 = some (.lst ((((List.range j).filter lt1).map off).map V.int)) ∧ Ex G0 G) ⟨upd_same, Ex.new hD1⟩ (fun j G hj hp => ?_) (fun G1 hp => ?_)
      · obtain ⟨u1, u2⟩ := hp
        refine ⟨rfl, _, rfl, _, rfl, _, _, rfl, rfl, .inr (by constructor <;> omega), _, rfl, _, _, rfl, rfl, _, rfl, _, _, rfl, rfl, by omega, rfl, _, rfl, ite2 (fun cc => ?_) (fun cc => ?_)⟩
        · have c2 : lt1 j = true := decide_eq_true (V.int.inj (of_decide_eq_true cc))
          refine ⟨_, rfl, _, u1, ?_, ?_, Ex.mut u2 hD1⟩
          · rw [List.length_map]
            exact small1000 (Nat.le_trans (fl_len _ _ _) (by omega))
          · rw [upd_same, fl_snoc, if_pos c2, List.map_append]
            rfl
        · have c2 : ¬ lt1 j = true := fun z => cc (decide_eq_true (congrArg V.int (of_decide_eq_true z)))
          refine ⟨?_, u2⟩
          rw [fl_snoc, if_neg c2, List.append_nil]
          exact u1
      obtain ⟨u1, u2⟩ := hp
      let lt2 : Nat → Bool := fun k => decide (((av - 3 + (k : Int)) * K1N.sAt rs i - ms.getD i 0) % (K1N.nAt rs i : Int) = 0)
      have hlt : lt2 = lt1 := funext fun k => by
        show decide (((av - 3 + (k : Int)) * K1N.sAt rs i - ms.getD i 0) % (K1N.nAt rs i : Int) = 0) = decide (((-3 + (k : Int)) * K1N.sAt rs i - ps.getD i 0) % (K1N.nAt rs i : Int) = 0)
        rw [hlater]
        exact moved_let av _ _ _ k
      refine ⟨_, rfl, _, rfl, _, _, rfl, rfl, _, rfl, _, _, rfl, rfl, av - 3, av + 4, rfl, by omega, fun D2 hD2 => ?_⟩
      refine lc_range (lo := av - 3) (n := (av + 4 - (av - 3)).toNat) (fun j G => G D2 = some (.lst ((((List.range j).filter lt2).map off).map V.int)) ∧ Ex G1 G) ⟨upd_same, Ex.new hD2⟩ (fun j G hj hp => ?_) (fun G2 hp => ?_)
      · obtain ⟨v1, v2⟩ := hp
        refine ⟨rfl, _, rfl, _, rfl, _, _, rfl, rfl, .inr (by constructor <;> omega), _, rfl, _, _, rfl, rfl, _, rfl, _, _, rfl, rfl, by omega, rfl, _, rfl, ite2 (fun cc => ?_) (fun cc => ?_)⟩
        · have c2 : lt2 j = true := decide_eq_true (V.int.inj (of_decide_eq_true cc))
          refine ⟨_, rfl, _, rfl, _, _, rfl, rfl, _, v1, ?_, ?_, Ex.mut v2 hD2⟩
          · rw [List.length_map]
            exact small1000 (Nat.le_trans (fl_len _ _ _) (by omega))
          · rw [upd_same, fl_snoc, if_pos c2, List.map_append]
            dsimp only
            rw [show av - 3 + (j : Int) - av = -3 + (j : Int) by omega]
            rfl
        · have c2 : ¬ lt2 j = true := fun z => cc (decide_eq_true (congrArg V.int (of_decide_eq_true z)))
          refine ⟨?_, v2⟩
          rw [fl_snoc, if_neg c2, List.append_nil]
          exact v1
      obtain ⟨v1, v2⟩ := hp
      rw [show (av + 4 - (av - 3)).toNat = 7 by omega, hlt] at v1
      refine ⟨.list _, .list _, .lst (SqL.of (v2 _ _ u1)) (dp_ints _), .lst (SqL.of v1) (dp_ints _), shaped_intsL _, shaped_intsL _, _, rfl, ?_⟩
      rw [eqv_intsL]
      refine iteF ?_
      exact ⟨_, _, _, _, _, rfl, (e5.trans u2).trans v2⟩
    obtain ⟨y6, y7, y8, y9, y10, rfl, e6⟩ := hW
    have hc6 := e6 _ _ hc5
    have ha6 : PlacesT H6 a ps := e6 _ _ ha5
    have hR6 := rings_ex4 e6 hR5
    have hd6 := hd5.ex e6
    have k6 := k5.trans (Keep.ex e6)
    clear hm5 g4 e4 w1 w2 hD hm ht2 hc5 ha5 hR5 hd5 k5 hc3 ha3 hR3 hd3 k3 e3 g0 e0 hc1 ha1 hR1 hd1 k1
    refine ⟨by show 0 ≤ sizeLine; decide, fun t1 ht1 => ?_⟩
    have x1 := Ex.new (o := .tup []) ht1
    have g1 : HeapAt (upd H6 t1 (.tup [])) t1 (hseq rs ps 0) := upd_same
    have hd7 := hd6.ex x1
    have hc7 := x1 _ _ hc6
    have ha7 : PlacesT (upd H6 t1 (.tup [])) a ps := x1 _ _ ha6
    have hR7 := rings_ex4 x1 hR6
    have k7 := k6.trans (Keep.ex x1)
    generalize upd H6 t1 (.tup []) = H7 at g1 hd7 hc7 ha7 hR7 k7 ⊢
    refine ⟨_, rfl, _, rfl, c, _, rfl, .inr (SqT.of hc7), d, _, rfl, hd7, by omega, by omega, fun rm H8 rm0 rm1 hd8 k8 => ?_⟩
    obtain ⟨m', rfl⟩ : ∃ m' : Nat, rm = (m' : Int) := ⟨rm.toNat, by omega⟩
    have hm' : m' < xs.length := by omega
    refine ⟨by show 2 ≤ sizeLine; decide, fun t3 ht3 => ⟨t3, _, rfl, SqT.of upd_same, rfl, .ref t1, [_], rfl, .int _, [], rfl, rfl, ?_⟩⟩
    have x3 := Ex.new (o := .tup [.ref t1, .int (m' : Int)]) ht3
    have g3 : HeapAt (upd H8 t3 (.tup [.ref t1, .int (m' : Int)])) t1 (hseq rs ps 0) := x3 _ _ (g1.keep hd7 k8)
    have hd9 := hd8.ex x3
    have hc9 := x3 _ _ (k8.tup hd7 hc7)
    have ha9 : PlacesT (upd H8 t3 (.tup [.ref t1, .int (m' : Int)])) a ps := x3 _ _ (k8.tup hd7 ha7)
    have hR9 : RingsAt (upd H8 t3 (.tup [.ref t1, .int (m' : Int)])) 60 xs rs := rings_ex4 x3 (paired_imp (fun _ _ z => RingAt.keep k8 hd7 z) hR7)
    have k9 := (k7.trans k8).trans (Keep.ex x3)
    generalize upd H8 t3 (.tup [.ref t1, .int (m' : Int)]) = H9 at g3 hd9 hc9 ha9 hR9 k9 ⊢
    refine ⟨_, rfl, _, rfl, _, rfl, c, _, rfl, hc9, fun p1 H10 e10 hp1 => ?_⟩
    rw [cutE_to (by omega)] at hp1
    refine ⟨_, rfl, p1, a, _, _, rfl, .inr ⟨SqT.of hp1, SqT.of (e10 _ _ ha9), ?_⟩⟩
    have htk : (xs.take m').length = m' := by
      rw [List.length_take]
      omega
    refine for_zipT (K := K) (a := p1) (b := a) (xs := xs.take m') (ys := ps.map V.int) (n := m') (by omega) (by rw [List.length_map]; omega) (.inl (by omega))
      (fun i σ' H' => ∃ (b : Addr) (y8 y13 : Option V), σ' = [some (.ref d), some (.ref c), some (.ref a), some (.int av), some (.int (3 + av + 2)), some (.ref m), y6, y7, y8, y9, y10, some (.ref b), some (.int (m' : Int)), y13, none, none, none, none] ∧ HeapAt H' b (hseq rs ps i) ∧ Ex H10 H')
      ⟨t1, y8, none, rfl, e10 _ _ g3, Ex.refl _⟩ (fun i σ' H' hW => ?_) (fun i x y Tp σ' H' hi hx hy hW nT => ?_) (fun σ' H11 hW => ?_)
    · obtain ⟨_, _, _, _, _, e⟩ := hW
      exact ⟨SqT.of (e _ _ hp1), SqT.of ((e10.trans e) _ _ ha9)⟩
    · obtain ⟨b, z8, z13, rfl, w1, w2⟩ := hW
      have eT := Ex.new (o := .tup [x, y]) nT
      obtain rfl := pl_get hy
      rw [List.getElem?_take_of_lt hi] at hx
      have hxr := rings_nth4 (rings_ex4 ((e10.trans w2).trans eT) hR9) hx
      obtain ⟨ok1, ok2, ok3⟩ := hseq_ok rs ps i
      refine ⟨Tp, _, rfl, SqT.of upd_same, rfl, x, [_], rfl, _, [], rfl, rfl, ?_⟩
      refine ⟨_, rfl, _, rfl, _, rfl, b, hseq rs ps i, x, _, _, _, rfl, eT _ _ w1, by omega, hxr, fun r' H4' e4' hr4' => ?_⟩
      exact ⟨r', _, _, rfl, hr4', (w2.trans eT).trans e4'⟩
    obtain ⟨b, z8, z13, rfl, w1, w2⟩ := hW
    have e11 := e10.trans w2
    have hc11 := e11 _ _ hc9
    have ha11 : PlacesT H11 a ps := e11 _ _ ha9
    have hR11 := rings_ex4 e11 hR9
    have hd11 := hd9.ex e11
    have k11 := k9.trans (Keep.ex e11)
    have hxm : xs[m']? = some (xs[m']'hm') := List.getElem?_eq_getElem _
    have hrm := rings_nth4 hR11 hxm
    obtain ⟨t, ext, ht, b1, b2, b3, b4⟩ := id hrm
    obtain ⟨ok1, ok2, ok3⟩ := hseq_ok rs ps m'
    refine ⟨_, rfl, _, rfl, c, _, _, _, rfl, rfl, SqT.of hc11, atI_nat hxm, t, _, 0, .int (K1N.nAt rs m' : Int), ext, rfl, SqT.of ht, rfl, (K1N.nAt rs m' : Int), rfl, by omega, by omega, fun Dl' hD' => ?_⟩
    refine lc_range (lo := 0) (n := ((K1N.nAt rs m' : Int)).toNat) (fun i H' => ∃ js : List Int, H' Dl' = some (.lst (js.map V.int)) ∧ js.length ≤ i ∧ (∀ j ∈ js, 0 ≤ j ∧ j < (K1N.nAt rs m' : Int) ∧ Idle rs ps m' j) ∧ Ex H11 H') ⟨[], upd_same, Nat.le_refl _, fun j hj => absurd hj (by simp), Ex.new hD'⟩ (fun i H' hi hp => ?_) (fun H12 hp => ?_)
    · obtain ⟨js, u1, u2, u3, u4⟩ := hp
      refine ⟨rfl, _, rfl, _, rfl, _, rfl, c, _, _, _, rfl, rfl, SqT.of (u4 _ _ hc11), atI_nat hxm, _, rfl, b, hseq rs ps m', _, _, _, 0 + (i : Int), rfl, u4 _ _ w1, ok1, by omega, by omega, hrm.ex u4, by omega, by omega, fun r' H13 e13 hr13 => ?_⟩
      refine ⟨_, rfl, K1.hD _, K1.hD _, dp_heap hr13, dp_heap ((u4.trans e13) _ _ w1), shaped_heap _, shaped_heap _, _, rfl, ite2 (fun cc => ?_) (fun cc => ?_)⟩
      · rw [eqv_heap2] at cc
        have idl0 := of_decide_eq_true cc
        have idl : Idle rs ps m' (0 + (i : Int)) := idl0
        refine ⟨_, rfl, _, e13 _ _ u1, ?_, js ++ [0 + (i : Int)], ?_, ?_, ?_, Ex.mut (u4.trans e13) hD'⟩
        · rw [List.length_map]
          exact small1000 (by omega)
        · rw [upd_same, List.map_append]
          rfl
        · rw [List.length_append]
          exact Nat.succ_le_succ u2
        · intro j hj
          rcases List.mem_append.mp hj with z | z
          · exact u3 j z
          · rw [List.mem_singleton.mp z]
            exact ⟨by omega, by omega, idl⟩
      · exact ⟨js, e13 _ _ u1, by omega, u3, u4.trans e13⟩
    obtain ⟨js, u1, u2, u3, u4⟩ := hp
    refine ⟨_, rfl, by show 0 ≤ sizeLine; decide, fun e he => ⟨.list _, .list [], .lst (SqL.of (Ex.new he _ _ u1)) (dp_ints js), .lst (SqL.of upd_same) .nil, shaped_intsL _, rfl, _, rfl, ?_⟩⟩
    have e12 := u4.trans (Ex.new (o := .lst []) he)
    have u1' := Ex.new (o := .lst []) he _ _ u1
    generalize upd H12 e (.lst []) = H13 at e12 u1' ⊢
    have hd13 := hd11.ex e12
    have k13 := k11.trans (Keep.ex e12)
    have hc13 := e12 _ _ hc11
    have ha13 : PlacesT H13 a ps := e12 _ _ ha11
    have hR13 := rings_ex4 e12 hR11
    cases js with
    | nil =>
      rw [show PyData.eqv (.list (([] : List Int).map PyData.int)) (.list []) = true from eqv_nil]
      exact iteT (k _ hd13 k13)
    | cons j0 js0 =>
    rw [show PyData.eqv (.list ((j0 :: js0).map PyData.int)) (.list []) = false from eqv_consnil _ _]
    refine iteF ?_
    generalize hjs : j0 :: js0 = js at u1' u2 u3
    have hj1 : 1 ≤ js.length := by
      rw [← hjs]
      exact Nat.succ_le_succ (Nat.zero_le _)
    have nDd : Dl' ≠ d := by
      obtain ⟨l', m'', c', hdd⟩ := hd11
      exact fun z => by rw [← z, hD'] at hdd; cases hdd
    have lp : (ps.map V.int).length = xs.length := by
      rw [List.length_map]
      exact hpl
    refine ⟨_, rfl, _, rfl, _, rfl, a, _, rfl, ha13, fun q1 H14 e14 hq1 => ?_⟩
    rw [cutE_to (by omega)] at hq1
    refine ⟨_, rfl, _, rfl, d, Dl', _, rfl, hd13.ex e14, e14 _ _ u1', nDd, by rw [List.length_map]; omega, by rw [List.length_map]; omega, fun x H15 hx hd15 k15 => ?_⟩
    obtain ⟨j, hj, rfl⟩ := List.mem_map.mp hx
    obtain ⟨jj1, jj2, jidle⟩ := u3 j hj
    have hd14 := hd13.ex e14
    refine ⟨by show 1 ≤ sizeLine; decide, fun q2 hq2 => ?_⟩
    have e15 := Ex.new (o := .tup [.int j]) hq2
    refine ⟨q1, q2, _, [.int j], rfl, rfl, e15 _ _ (k15.tup hd14 hq1), upd_same, by rw [List.length_take]; exact sz_of (by show _ + 1 ≤ _; omega), fun q3 H16 e16 hq3 => ?_⟩
    have e1516 := e15.trans e16
    have ha16 : PlacesT H16 a ps := e1516 _ _ (k15.tup hd14 (e14 _ _ ha13))
    refine ⟨_, rfl, _, rfl, _, _, rfl, rfl, _, rfl, a, _, rfl, ha16, fun q4 H17 e17 hq4 => ?_⟩
    rw [show (m' : Int) + 1 = ((m' + 1 : Nat) : Int) by omega, cutE_from (by omega)] at hq4
    refine ⟨q3, q4, _, _, rfl, rfl, e17 _ _ hq3, hq4, by rw [List.length_append, List.length_take, List.length_drop]; exact sz_of (by show _ + 1 + _ ≤ _; omega), fun q5 H18 e18 hq5 => ?_⟩
    rw [set_partsE _ _ _ (by omega), ← List.map_set] at hq5
    have e1518 := e1516.trans (e17.trans e18)
    have hd18 := hd15.ex e1518
    have kk18 : Keep d H13 H18 := ((Keep.ex e14).trans k15).trans (Keep.ex e1518)
    have ha18 : PlacesT H18 a ps := kk18.tup hd13 ha13
    have hl5 : (ps.set m' j).length = xs.length := by
      rw [List.length_set]
      exact hpl
    have lp5 : ((ps.set m' j).map V.int).length = xs.length := by
      rw [List.length_map]
      exact hl5
    have hD18 := kk18 _ _ nDd u1'
    refine ⟨_, rfl, _, rfl, _, rfl, q5, _, rfl, hq5, fun s1 H19 e19 hs1 => ?_⟩
    rw [cutE_to (by omega), List.map_set, take_set] at hs1
    have hd19 := hd18.ex e19
    refine ⟨_, rfl, _, rfl, d, Dl', _, rfl, hd19, e19 _ _ hD18, nDd, by rw [List.length_map]; omega, by rw [List.length_map]; omega, fun x2 H20 hx2 hd20 k20 => ?_⟩
    obtain ⟨j2, hj2, rfl⟩ := List.mem_map.mp hx2
    obtain ⟨jj3, jj4, jidle2⟩ := u3 j2 hj2
    refine ⟨by show 1 ≤ sizeLine; decide, fun s2 hs2 => ?_⟩
    have e20 := Ex.new (o := .tup [.int j2]) hs2
    refine ⟨s1, s2, _, [.int j2], rfl, rfl, e20 _ _ (k20.tup hd19 hs1), upd_same, by rw [List.length_take]; exact sz_of (by show _ + 1 ≤ _; omega), fun s3 H21 e21 hs3 => ?_⟩
    have e2021 := e20.trans e21
    have ha21 : PlacesT H21 a ps := e2021 _ _ (k20.tup hd19 (e19 _ _ ha18))
    refine ⟨_, rfl, _, rfl, _, _, rfl, rfl, _, rfl, a, _, rfl, ha21, fun s4 H22 e22 hs4 => ?_⟩
    rw [show (m' : Int) + 1 = ((m' + 1 : Nat) : Int) by omega, cutE_from (by omega)] at hs4
    refine ⟨s3, s4, _, _, rfl, rfl, e22 _ _ hs3, hs4, by rw [List.length_append, List.length_take, List.length_drop]; exact sz_of (by show _ + 1 + _ ≤ _; omega), fun s5 H23 e23 hs5 => ?_⟩
    rw [set_partsE _ _ _ (by omega), ← List.map_set] at hs5
    have e2023 := e2021.trans (e22.trans e23)
    have hd23 := hd20.ex e2023
    have kk23 : Keep d H18 H23 := ((Keep.ex e19).trans k20).trans (Keep.ex e2023)
    have k23 := (k13.trans kk18).trans kk23
    have kk : Keep d H13 H23 := kk18.trans kk23
    have hc23 := kk.tup hd13 hc13
    have ha23 : PlacesT H23 a ps := kk.tup hd13 ha13
    have hR23 : RingsAt H23 60 xs rs := paired_imp (fun _ _ z => RingAt.keep kk hd13 z) hR13
    have hq23 : PlacesT H23 q5 (ps.set m' j) := kk23.tup hd18 hq5
    have hs23 : PlacesT H23 s5 (ps.set m' j2) := hs5
    have okj : ∀ z, 0 ≤ z → z < (K1N.nAt rs m' : Int) → PlOk rs (ps.set m' z) := fun z z0 z1 i hi => by
      rw [List.length_set] at hi
      rw [set_getD (by omega)]
      by_cases ee : i = m'
      · rw [if_pos ee, ee]
        exact ⟨z0, z1⟩
      · rw [if_neg ee]
        exact hok i hi
    have mlt : m' < ps.length := by omega
    refine ⟨_, rfl, _, rfl, c, q5, xs, rs, _, rfl, hc23, hR23, hl, hq23, hl5, okj j jj1 jj2, fun b1 H24 e24 hb1 => ?_⟩
    refine ⟨_, rfl, _, rfl, c, s5, xs, rs, _, rfl, e24 _ _ hc23, rings_ex4 e24 hR23, hl, e24 _ _ hs23, by rw [List.length_set]; exact hpl, okj j2 jj3 jj4, fun b2' H25 e25 hb2 => ?_⟩
    rw [hseq_idle mlt jidle2 jidle] at hb2
    refine ⟨K1.hD _, K1.hD _, dp_heap (e25 _ _ hb1), dp_heap hb2, shaped_heap _, shaped_heap _, _, rfl, ?_⟩
    rw [eqv_heap]
    refine iteT ?_
    have e2425 := e24.trans e25
    refine ⟨_, rfl, _, rfl, c, a, xs, rs, ps, rfl, e2425 _ _ hc23, rings_ex4 e2425 hR23, hl, e2425 _ _ ha23, hpl, hok, fun b3' H26 e26 hb3 => ?_⟩
    have e2426 := e2425.trans e26
    refine ⟨_, rfl, _, rfl, c, q5, xs, rs, _, rfl, e2426 _ _ hc23, rings_ex4 e2426 hR23, hl, e2426 _ _ hq23, hl5, okj j jj1 jj2, fun b4' H27 e27 hb4 => ?_⟩
    obtain ⟨o1, o2, o3⟩ := hseq_ok rs ps xs.length
    obtain ⟨o4, o5, o6⟩ := hseq_ok rs (ps.set m' j) xs.length
    refine ⟨b3', b4', _, _, rfl, e27 _ _ hb3, hb4, ⟨o1, by omega, by omega⟩, ⟨o4, by omega, by omega⟩, hseq_sub mlt jidle _, fun H28 e28 => ?_⟩
    have ef := e2426.trans (e27.trans e28)
    exact k _ (hd23.ex ef) (k23.trans (Keep.ex ef))
end
end K1

namespace K1
open PySem PySem.Spec PyProof.Rows L2 Evl HM LX ZW Z3 ZM TE
section
variable {P : Program} {w : World} {K : PySem.W.Frag} {mg : Str → Option Value} {base : Heap}
theorem sql_keep {H H1 H2 : Hp} {p a : Addr} {xs : List V} (h0 : H p = none) (e : Ex H H1) (k : Keep p H1 H2) (h : SqL K H a xs) : SqL K H2 a xs := by
  rcases h with (h | ⟨o, h⟩) | h
  · exact .inl (.inl (k _ _ (ne_of_none h h0) (e _ _ h)))
  · exact .inl (.inr ⟨o, k _ _ (ne_of_none h h0) (e _ _ h)⟩)
  · exact .inr h
def spLaw (K : PySem.W.Frag) : Sp := fun vs H Q _ => ∃ (a : Addr) (ns : List Int), vs = [.ref a] ∧ SqL K H a (ns.map V.int) ∧ ns.length ≤ 63 ∧ ∀ H', Q (.bl true) H'
theorem ok_law (T : Txt K mg) {f : Addr} {fd : FuncData} (F : Fun K "law" "law" sLaw f fd) : FnOk P w K mg base CX0 8 f fd ["_law_script"] (spLaw K) := by
  refine F.ok scLaw (fun vs H Q E h => ?_) (fun cdv A outer s₀ H vs Q E hr h => ?_)
  · obtain ⟨a, ns, rfl, _⟩ := h
    rfl
  · obtain ⟨a, ns, rfl, hS, hlen, q⟩ := h
    obtain ⟨f1, fd1, D1⟩ := T.d_l_growth_right
    obtain ⟨f2, fd2, D2⟩ := T.d_l_dice
    obtain ⟨f3, fd3, D3⟩ := T.d_l_moved_right
    obtain ⟨f4, fd4, D4⟩ := T.d_l_turned_right
    obtain ⟨f5, fd5, D5⟩ := T.d_l_chain
    obtain ⟨f6, fd6, D6⟩ := T.d_l_tuple
    obtain ⟨f7, fd7, D7⟩ := T.d_l_roll
    have hr1 : Room 1 _ := hr.mono (by decide)
    have hr2 : Room 2 _ := hr.mono (by decide)
    have hr4 : Room 4 _ := hr.mono (by decide)
    refine ⟨_, pss_cons (ps_for PassesOwn.never rfl (pi_range1 (by rfl) T.z_range (pa_cons (pe_callB (call_max2 rfl) (by rfl) T.z_max (by decide +kernel) (pa_cons pe_int (pa_cons
          (pe_callB (call_min2 rfl) (by rfl) T.z_min (by decide +kernel) (pa_cons (pe_callB call_len_seq (by rfl) T.z_len PySem.boot_len (pa_cons (pv 0) pa_nil)) (pa_cons pe_int pa_nil))) pa_nil))) pa_nil)) (pg_name (i := 1) scLaw.nd rfl (.inl rfl))
        (pss_cons (ps_set (i := 2) scLaw.nd rfl (.inl rfl) (pe_call (ok_dice T D2) hr1 (by rfl) D2.g D2.F.kp D2.b .nil pass0 (pa_cons (pv 0) (pa_cons (pv 1) pa_nil))))
        (pss_cons (ps_set (i := 3) scLaw.nd rfl (.inl rfl) (pe_call (ok_chain T D5) hr4 (by rfl) D5.g D5.F.kp D5.b .nil pass0 (pa_cons (pv 2) (pa_cons (pe_op op_add pe_int (pe_call (ok_roll T D7) hr1 (by rfl) D7.g D7.F.kp D7.b .nil pass0 (pa_cons (pv 2) (pa_cons pe_int pa_nil)))) (pa_cons pe_int pa_nil)))))
        (pss_cons (ps_set (i := 4) scLaw.nd rfl (.inl rfl) (pe_call (ok_tuple T D6) hr2 (by rfl) D6.g D6.F.kp D6.b .nil pass0 (pa_cons (pv 2) (pa_cons (pv 3) pa_nil))))
        (pss_cons (ps_if (PW.pt (pw_or (pt_not (pt_val (pe_call (ok_growth_right T D1) hr (by rfl) D1.g D1.F.kp D1.b .nil pass0 (pa_cons (pv 2) (pa_cons (pv 3) (pa_cons (pv 4) pa_nil))))))
          (pw_or1 (pt_not (pt_val (pe_call (ok_moved_right T D3) hr (by rfl) D3.g D3.F.kp D3.b .nil pass0 (pa_cons (pv 2) (pa_cons (pv 3) (pa_cons (pv 4) pa_nil))))))))) (pss_one (ps_ret pe_bl)) pss_nil)
        (pss_one (ps_if (pt_not (pt_val (pe_call (ok_turned_right T D4) hr (by rfl) D4.g D4.F.kp D4.b .nil pass0 (pa_cons (pv 3) (pa_cons (pv 4) pa_nil))))) (pss_one (ps_ret pe_bl)) pss_nil)))))))
      (pss_one (ps_ret pe_bl)), ?_⟩
    refine ⟨.ref a, rfl, a, _, rfl, .inl hS, _, 5, rfl, 1, _, rfl, _, rfl, ?_, ?_, for_range (lo := 0) (n := Int.toNat _) (fun i σ' H' => ∃ y1 y2 y3 y4, σ' = [some (.ref a), y1, y2, y3, y4] ∧ SqL K H' a (ns.map V.int)) ⟨none, none, none, none, rfl, hS⟩ (fun i σ' H' _ hp => ?_) (fun σ' H' hp => ?_)⟩
    · split <;> split <;> omega
    · rw [List.length_map]
      split <;> split <;> omega
    · obtain ⟨y1, y2, y3, y4, rfl, hS'⟩ := hp
      refine ⟨.ref a, rfl, .int (0 + (i : Int)), rfl, a, ns, i, ?_, hS', fun p H1 hp0 e1 hd1 => ?_⟩
      · rw [Int.zero_add]
        rfl
      · refine ⟨_, rfl, _, rfl, p, 8, rfl, hd1, by decide, by decide, fun r H2 r0 r1 hd2 k2 => ?_⟩
        refine ⟨1, r, rfl, rfl, p, 1 + r, 5, rfl, hd2, by omega, by omega, by decide, by decide, fun c xs rs H3 hc3 hR3 hg hd3 k3 => ?_⟩
        have hR3' : RingsAt H3 60 xs rs := paired_imp (fun _ _ z => RingAt.most (by decide) z) hR3
        have hl : 1 ≤ xs.length ∧ xs.length ≤ 12 := by omega
        refine ⟨_, rfl, _, rfl, p, c, xs, rs, rfl, hd3, hc3, hR3', hl.2, fun x ps H4 hx hpl hok hd4 k4 => ?_⟩
        have hc4 := k4.tup hd3 hc3
        have hR4 : RingsAt H4 60 xs rs := paired_imp (fun _ _ z => RingAt.keep k4 hd3 z) hR3'
        refine ⟨_, rfl, _, rfl, _, rfl, p, c, x, xs, rs, ps, rfl, hd4, hc4, hR4, hl, hx, hpl, hok, fun H5 hd5 k5 => ⟨true, rfl, iteF ?_⟩⟩
        have hc5 := k5.tup hd4 hc4
        have hx5 : PlacesT H5 x ps := k5.tup hd4 hx
        have hR5 : RingsAt H5 60 xs rs := paired_imp (fun _ _ z => RingAt.keep k5 hd4 z) hR4
        refine ⟨_, rfl, _, rfl, _, rfl, p, c, x, xs, rs, ps, rfl, hd5, hc5, hR5, hl, hx5, hpl, hok, fun H6 hd6 k6 => ⟨true, rfl, iteF ?_⟩⟩
        have hc6 := k6.tup hd5 hc5
        have hx6 : PlacesT H6 x ps := k6.tup hd5 hx5
        have hR6 : RingsAt H6 60 xs rs := paired_imp (fun _ _ z => RingAt.keep k6 hd5 z) hR5
        refine ⟨_, rfl, _, rfl, c, x, xs, rs, ps, rfl, hc6, hR6, hl, hx6, hpl, hok, fun H7 e7 => ⟨true, rfl, iteF ⟨_, _, _, _, rfl, ?_⟩⟩⟩
        exact sql_keep hp0 e1 ((((k2.trans k3).trans k4).trans k5).trans (k6.trans (Keep.ex e7))) hS'
    · exact q _
end
end K1

namespace K1
open PySem PySem.Spec PyProof.Rows L2
/-- what a def of the text leaves -/
theorem mk_def {K : PySem.W.Frag} {h : Heap} {mg : Str → Option Value} {x : Str} {st : Stmt} {ps : List Str} {f : Addr} {oc : Value} {od an : Option Addr} {osl : Array (Option Value)} {kV doc pm cdv ct : Value} (X : K.In h) (G : h.Ns mainGlobals mg)
    (a : PySem.W.nsIn K mainGlobals x = some (some (.ref f))) (l : K.lookup f = some ⟨oc, od, .func (PySem.W.fnOf x x (defArgs st) (defBody st) (defScope st) .none kV doc pm an cdv ct), osl⟩) (c : PySem.W.codeIn K cdv x = true) (k : PySem.W.keepIn K (.ref f) = true)
    (b : ∀ (kV doc pm : Value) (an : Option Addr) (cdv ct : Value) (us : List Value), us.length = ps.length → bindArgs (PySem.W.fnOf x x (defArgs st) (defBody st) (defScope st) .none kV doc pm an cdv ct) ⟨us, []⟩ = pure (ps.zip us)) :
    ∃ f fd, DefAt K mg x st ps f fd := ⟨f, _, ⟨fun_mk (st := st) l c k, PySem.W.mg_of X G a, (fun_mk (st := st) l c k).binds b⟩⟩
theorem all_mk {P : Program} {w : World} {K : PySem.W.Frag} {h : Heap} {mg : Str → Option Value} {fa : Addr} (X : K.In h) (G : h.Ns mainGlobals mg) (hfa : mg "law" = some (.ref fa)) (vBOUND : ∃ t, mg "BOUND" = some (.int (10 ^ 60) t))
    {tDIGITS tRINGS tPLACES tSIDE : Tok} (gDIGITS : PySem.W.nsIn K mainGlobals "DIGITS" = some (some (.int 60 tDIGITS))) (gRINGS : PySem.W.nsIn K mainGlobals "MOST_RINGS" = some (some (.int 12 tRINGS))) (gPLACES : PySem.W.nsIn K mainGlobals "MOST_PLACES" = some (some (.int 60 tPLACES))) (gSIDE : PySem.W.nsIn K mainGlobals "MOST_SIDE" = some (some (.int 60 tSIDE)))
    (z_abs : PySem.W.nsIn K mainGlobals "abs" = some none) (z_all : PySem.W.nsIn K mainGlobals "all" = some none) (z_bool : PySem.W.nsIn K mainGlobals "bool" = some none) (z_enumerate : PySem.W.nsIn K mainGlobals "enumerate" = some none) (z_int : PySem.W.nsIn K mainGlobals "int" = some none) (z_isinstance : PySem.W.nsIn K mainGlobals "isinstance" = some none) (z_len : PySem.W.nsIn K mainGlobals "len" = some none) (z_list : PySem.W.nsIn K mainGlobals "list" = some none) (z_max : PySem.W.nsIn K mainGlobals "max" = some none) (z_min : PySem.W.nsIn K mainGlobals "min" = some none) (z_range : PySem.W.nsIn K mainGlobals "range" = some none) (z_tuple : PySem.W.nsIn K mainGlobals "tuple" = some none) (z_zip : PySem.W.nsIn K mainGlobals "zip" = some none)
    {f0 : Addr} {oc0 : Value} {od0 an0 : Option Addr} {sl0 : Array (Option Value)} {kV0 dc0 pm0 cd0 ct0 : Value}
    (a0 : PySem.W.nsIn K mainGlobals "is_integer" = some (some (.ref f0))) (l0 : K.lookup f0 = some ⟨oc0, od0, .func (PySem.W.fnOf "is_integer" "is_integer" (defArgs sIsInteger) (defBody sIsInteger) (defScope sIsInteger) .none kV0 dc0 pm0 an0 cd0 ct0), sl0⟩) (c0 : PySem.W.codeIn K cd0 "is_integer" = true) (k0 : PySem.W.keepIn K (.ref f0) = true)
    {f1 : Addr} {oc1 : Value} {od1 an1 : Option Addr} {sl1 : Array (Option Value)} {kV1 dc1 pm1 cd1 ct1 : Value}
    (a1 : PySem.W.nsIn K mainGlobals "is_between" = some (some (.ref f1))) (l1 : K.lookup f1 = some ⟨oc1, od1, .func (PySem.W.fnOf "is_between" "is_between" (defArgs sIsBetween) (defBody sIsBetween) (defScope sIsBetween) .none kV1 dc1 pm1 an1 cd1 ct1), sl1⟩) (c1 : PySem.W.codeIn K cd1 "is_between" = true) (k1 : PySem.W.keepIn K (.ref f1) = true)
    {f2 : Addr} {oc2 : Value} {od2 an2 : Option Addr} {sl2 : Array (Option Value)} {kV2 dc2 pm2 cd2 ct2 : Value}
    (a2 : PySem.W.nsIn K mainGlobals "is_pair" = some (some (.ref f2))) (l2 : K.lookup f2 = some ⟨oc2, od2, .func (PySem.W.fnOf "is_pair" "is_pair" (defArgs sIsPair) (defBody sIsPair) (defScope sIsPair) .none kV2 dc2 pm2 an2 cd2 ct2), sl2⟩) (c2 : PySem.W.codeIn K cd2 "is_pair" = true) (k2 : PySem.W.keepIn K (.ref f2) = true)
    {f3 : Addr} {oc3 : Value} {od3 an3 : Option Addr} {sl3 : Array (Option Value)} {kV3 dc3 pm3 cd3 ct3 : Value}
    (a3 : PySem.W.nsIn K mainGlobals "check_integer" = some (some (.ref f3))) (l3 : K.lookup f3 = some ⟨oc3, od3, .func (PySem.W.fnOf "check_integer" "check_integer" (defArgs sCheckInteger) (defBody sCheckInteger) (defScope sCheckInteger) .none kV3 dc3 pm3 an3 cd3 ct3), sl3⟩) (c3 : PySem.W.codeIn K cd3 "check_integer" = true) (k3 : PySem.W.keepIn K (.ref f3) = true)
    {f4 : Addr} {oc4 : Value} {od4 an4 : Option Addr} {sl4 : Array (Option Value)} {kV4 dc4 pm4 cd4 ct4 : Value}
    (a4 : PySem.W.nsIn K mainGlobals "check_between" = some (some (.ref f4))) (l4 : K.lookup f4 = some ⟨oc4, od4, .func (PySem.W.fnOf "check_between" "check_between" (defArgs sCheckBetween) (defBody sCheckBetween) (defScope sCheckBetween) .none kV4 dc4 pm4 an4 cd4 ct4), sl4⟩) (c4 : PySem.W.codeIn K cd4 "check_between" = true) (k4 : PySem.W.keepIn K (.ref f4) = true)
    {f5 : Addr} {oc5 : Value} {od5 an5 : Option Addr} {sl5 : Array (Option Value)} {kV5 dc5 pm5 cd5 ct5 : Value}
    (a5 : PySem.W.nsIn K mainGlobals "check_digits" = some (some (.ref f5))) (l5 : K.lookup f5 = some ⟨oc5, od5, .func (PySem.W.fnOf "check_digits" "check_digits" (defArgs sCheckDigits) (defBody sCheckDigits) (defScope sCheckDigits) .none kV5 dc5 pm5 an5 cd5 ct5), sl5⟩) (c5 : PySem.W.codeIn K cd5 "check_digits" = true) (k5 : PySem.W.keepIn K (.ref f5) = true)
    {f6 : Addr} {oc6 : Value} {od6 an6 : Option Addr} {sl6 : Array (Option Value)} {kV6 dc6 pm6 cd6 ct6 : Value}
    (a6 : PySem.W.nsIn K mainGlobals "is_ring" = some (some (.ref f6))) (l6 : K.lookup f6 = some ⟨oc6, od6, .func (PySem.W.fnOf "is_ring" "is_ring" (defArgs sIsRing) (defBody sIsRing) (defScope sIsRing) .none kV6 dc6 pm6 an6 cd6 ct6), sl6⟩) (c6 : PySem.W.codeIn K cd6 "is_ring" = true) (k6 : PySem.W.keepIn K (.ref f6) = true)
    {f7 : Addr} {oc7 : Value} {od7 an7 : Option Addr} {sl7 : Array (Option Value)} {kV7 dc7 pm7 cd7 ct7 : Value}
    (a7 : PySem.W.nsIn K mainGlobals "is_chain" = some (some (.ref f7))) (l7 : K.lookup f7 = some ⟨oc7, od7, .func (PySem.W.fnOf "is_chain" "is_chain" (defArgs sIsChain) (defBody sIsChain) (defScope sIsChain) .none kV7 dc7 pm7 an7 cd7 ct7), sl7⟩) (c7 : PySem.W.codeIn K cd7 "is_chain" = true) (k7 : PySem.W.keepIn K (.ref f7) = true)
    {f8 : Addr} {oc8 : Value} {od8 an8 : Option Addr} {sl8 : Array (Option Value)} {kV8 dc8 pm8 cd8 ct8 : Value}
    (a8 : PySem.W.nsIn K mainGlobals "check_ring" = some (some (.ref f8))) (l8 : K.lookup f8 = some ⟨oc8, od8, .func (PySem.W.fnOf "check_ring" "check_ring" (defArgs sCheckRing) (defBody sCheckRing) (defScope sCheckRing) .none kV8 dc8 pm8 an8 cd8 ct8), sl8⟩) (c8 : PySem.W.codeIn K cd8 "check_ring" = true) (k8 : PySem.W.keepIn K (.ref f8) = true)
    {f9 : Addr} {oc9 : Value} {od9 an9 : Option Addr} {sl9 : Array (Option Value)} {kV9 dc9 pm9 cd9 ct9 : Value}
    (a9 : PySem.W.nsIn K mainGlobals "check_chain" = some (some (.ref f9))) (l9 : K.lookup f9 = some ⟨oc9, od9, .func (PySem.W.fnOf "check_chain" "check_chain" (defArgs sCheckChain) (defBody sCheckChain) (defScope sCheckChain) .none kV9 dc9 pm9 an9 cd9 ct9), sl9⟩) (c9 : PySem.W.codeIn K cd9 "check_chain" = true) (k9 : PySem.W.keepIn K (.ref f9) = true)
    {f10 : Addr} {oc10 : Value} {od10 an10 : Option Addr} {sl10 : Array (Option Value)} {kV10 dc10 pm10 cd10 ct10 : Value}
    (a10 : PySem.W.nsIn K mainGlobals "lets" = some (some (.ref f10))) (l10 : K.lookup f10 = some ⟨oc10, od10, .func (PySem.W.fnOf "lets" "lets" (defArgs sLets) (defBody sLets) (defScope sLets) .none kV10 dc10 pm10 an10 cd10 ct10), sl10⟩) (c10 : PySem.W.codeIn K cd10 "lets" = true) (k10 : PySem.W.keepIn K (.ref f10) = true)
    {f11 : Addr} {oc11 : Value} {od11 an11 : Option Addr} {sl11 : Array (Option Value)} {kV11 dc11 pm11 cd11 ct11 : Value}
    (a11 : PySem.W.nsIn K mainGlobals "lies_told" = some (some (.ref f11))) (l11 : K.lookup f11 = some ⟨oc11, od11, .func (PySem.W.fnOf "lies_told" "lies_told" (defArgs sLiesTold) (defBody sLiesTold) (defScope sLiesTold) .none kV11 dc11 pm11 an11 cd11 ct11), sl11⟩) (c11 : PySem.W.codeIn K cd11 "lies_told" = true) (k11 : PySem.W.keepIn K (.ref f11) = true)
    {f12 : Addr} {oc12 : Value} {od12 an12 : Option Addr} {sl12 : Array (Option Value)} {kV12 dc12 pm12 cd12 ct12 : Value}
    (a12 : PySem.W.nsIn K mainGlobals "check_places" = some (some (.ref f12))) (l12 : K.lookup f12 = some ⟨oc12, od12, .func (PySem.W.fnOf "check_places" "check_places" (defArgs sCheckPlaces) (defBody sCheckPlaces) (defScope sCheckPlaces) .none kV12 dc12 pm12 an12 cd12 ct12), sl12⟩) (c12 : PySem.W.codeIn K cd12 "check_places" = true) (k12 : PySem.W.keepIn K (.ref f12) = true)
    {f13 : Addr} {oc13 : Value} {od13 an13 : Option Addr} {sl13 : Array (Option Value)} {kV13 dc13 pm13 cd13 ct13 : Value}
    (a13 : PySem.W.nsIn K mainGlobals "is_class" = some (some (.ref f13))) (l13 : K.lookup f13 = some ⟨oc13, od13, .func (PySem.W.fnOf "is_class" "is_class" (defArgs sIsClass) (defBody sIsClass) (defScope sIsClass) .none kV13 dc13 pm13 an13 cd13 ct13), sl13⟩) (c13 : PySem.W.codeIn K cd13 "is_class" = true) (k13 : PySem.W.keepIn K (.ref f13) = true)
    {f14 : Addr} {oc14 : Value} {od14 an14 : Option Addr} {sl14 : Array (Option Value)} {kV14 dc14 pm14 cd14 ct14 : Value}
    (a14 : PySem.W.nsIn K mainGlobals "check_class" = some (some (.ref f14))) (l14 : K.lookup f14 = some ⟨oc14, od14, .func (PySem.W.fnOf "check_class" "check_class" (defArgs sCheckClass) (defBody sCheckClass) (defScope sCheckClass) .none kV14 dc14 pm14 an14 cd14 ct14), sl14⟩) (c14 : PySem.W.codeIn K cd14 "check_class" = true) (k14 : PySem.W.keepIn K (.ref f14) = true)
    {f15 : Addr} {oc15 : Value} {od15 an15 : Option Addr} {sl15 : Array (Option Value)} {kV15 dc15 pm15 cd15 ct15 : Value}
    (a15 : PySem.W.nsIn K mainGlobals "told_class" = some (some (.ref f15))) (l15 : K.lookup f15 = some ⟨oc15, od15, .func (PySem.W.fnOf "told_class" "told_class" (defArgs sToldClass) (defBody sToldClass) (defScope sToldClass) .none kV15 dc15 pm15 an15 cd15 ct15), sl15⟩) (c15 : PySem.W.codeIn K cd15 "told_class" = true) (k15 : PySem.W.keepIn K (.ref f15) = true)
    {f16 : Addr} {oc16 : Value} {od16 an16 : Option Addr} {sl16 : Array (Option Value)} {kV16 dc16 pm16 cd16 ct16 : Value}
    (a16 : PySem.W.nsIn K mainGlobals "class_with_ends" = some (some (.ref f16))) (l16 : K.lookup f16 = some ⟨oc16, od16, .func (PySem.W.fnOf "class_with_ends" "class_with_ends" (defArgs sClassWithEnds) (defBody sClassWithEnds) (defScope sClassWithEnds) .none kV16 dc16 pm16 an16 cd16 ct16), sl16⟩) (c16 : PySem.W.codeIn K cd16 "class_with_ends" = true) (k16 : PySem.W.keepIn K (.ref f16) = true)
    {f17 : Addr} {oc17 : Value} {od17 an17 : Option Addr} {sl17 : Array (Option Value)} {kV17 dc17 pm17 cd17 ct17 : Value}
    (a17 : PySem.W.nsIn K mainGlobals "is_heap" = some (some (.ref f17))) (l17 : K.lookup f17 = some ⟨oc17, od17, .func (PySem.W.fnOf "is_heap" "is_heap" (defArgs sIsHeap) (defBody sIsHeap) (defScope sIsHeap) .none kV17 dc17 pm17 an17 cd17 ct17), sl17⟩) (c17 : PySem.W.codeIn K cd17 "is_heap" = true) (k17 : PySem.W.keepIn K (.ref f17) = true)
    {f18 : Addr} {oc18 : Value} {od18 an18 : Option Addr} {sl18 : Array (Option Value)} {kV18 dc18 pm18 cd18 ct18 : Value}
    (a18 : PySem.W.nsIn K mainGlobals "check_heap" = some (some (.ref f18))) (l18 : K.lookup f18 = some ⟨oc18, od18, .func (PySem.W.fnOf "check_heap" "check_heap" (defArgs sCheckHeap) (defBody sCheckHeap) (defScope sCheckHeap) .none kV18 dc18 pm18 an18 cd18 ct18), sl18⟩) (c18 : PySem.W.codeIn K cd18 "check_heap" = true) (k18 : PySem.W.keepIn K (.ref f18) = true)
    {f19 : Addr} {oc19 : Value} {od19 an19 : Option Addr} {sl19 : Array (Option Value)} {kV19 dc19 pm19 cd19 ct19 : Value}
    (a19 : PySem.W.nsIn K mainGlobals "check_heaps" = some (some (.ref f19))) (l19 : K.lookup f19 = some ⟨oc19, od19, .func (PySem.W.fnOf "check_heaps" "check_heaps" (defArgs sCheckHeaps) (defBody sCheckHeaps) (defScope sCheckHeaps) .none kV19 dc19 pm19 an19 cd19 ct19), sl19⟩) (c19 : PySem.W.codeIn K cd19 "check_heaps" = true) (k19 : PySem.W.keepIn K (.ref f19) = true)
    {f20 : Addr} {oc20 : Value} {od20 an20 : Option Addr} {sl20 : Array (Option Value)} {kV20 dc20 pm20 cd20 ct20 : Value}
    (a20 : PySem.W.nsIn K mainGlobals "check_side" = some (some (.ref f20))) (l20 : K.lookup f20 = some ⟨oc20, od20, .func (PySem.W.fnOf "check_side" "check_side" (defArgs sCheckSide) (defBody sCheckSide) (defScope sCheckSide) .none kV20 dc20 pm20 an20 cd20 ct20), sl20⟩) (c20 : PySem.W.codeIn K cd20 "check_side" = true) (k20 : PySem.W.keepIn K (.ref f20) = true)
    {f21 : Addr} {oc21 : Value} {od21 an21 : Option Addr} {sl21 : Array (Option Value)} {kV21 dc21 pm21 cd21 ct21 : Value}
    (a21 : PySem.W.nsIn K mainGlobals "height_at" = some (some (.ref f21))) (l21 : K.lookup f21 = some ⟨oc21, od21, .func (PySem.W.fnOf "height_at" "height_at" (defArgs sHeightAt) (defBody sHeightAt) (defScope sHeightAt) .none kV21 dc21 pm21 an21 cd21 ct21), sl21⟩) (c21 : PySem.W.codeIn K cd21 "height_at" = true) (k21 : PySem.W.keepIn K (.ref f21) = true)
    {f22 : Addr} {oc22 : Value} {od22 an22 : Option Addr} {sl22 : Array (Option Value)} {kV22 dc22 pm22 cd22 ct22 : Value}
    (a22 : PySem.W.nsIn K mainGlobals "holds" = some (some (.ref f22))) (l22 : K.lookup f22 = some ⟨oc22, od22, .func (PySem.W.fnOf "holds" "holds" (defArgs sHolds) (defBody sHolds) (defScope sHolds) .none kV22 dc22 pm22 an22 cd22 ct22), sl22⟩) (c22 : PySem.W.codeIn K cd22 "holds" = true) (k22 : PySem.W.keepIn K (.ref f22) = true)
    {f23 : Addr} {oc23 : Value} {od23 an23 : Option Addr} {sl23 : Array (Option Value)} {kV23 dc23 pm23 cd23 ct23 : Value}
    (a23 : PySem.W.nsIn K mainGlobals "is_held" = some (some (.ref f23))) (l23 : K.lookup f23 = some ⟨oc23, od23, .func (PySem.W.fnOf "is_held" "is_held" (defArgs sIsHeld) (defBody sIsHeld) (defScope sIsHeld) .none kV23 dc23 pm23 an23 cd23 ct23), sl23⟩) (c23 : PySem.W.codeIn K cd23 "is_held" = true) (k23 : PySem.W.keepIn K (.ref f23) = true)
    {f24 : Addr} {oc24 : Value} {od24 an24 : Option Addr} {sl24 : Array (Option Value)} {kV24 dc24 pm24 cd24 ct24 : Value}
    (a24 : PySem.W.nsIn K mainGlobals "lengths_of" = some (some (.ref f24))) (l24 : K.lookup f24 = some ⟨oc24, od24, .func (PySem.W.fnOf "lengths_of" "lengths_of" (defArgs sLengthsOf) (defBody sLengthsOf) (defScope sLengthsOf) .none kV24 dc24 pm24 an24 cd24 ct24), sl24⟩) (c24 : PySem.W.codeIn K cd24 "lengths_of" = true) (k24 : PySem.W.keepIn K (.ref f24) = true)
    {f25 : Addr} {oc25 : Value} {od25 an25 : Option Addr} {sl25 : Array (Option Value)} {kV25 dc25 pm25 cd25 ct25 : Value}
    (a25 : PySem.W.nsIn K mainGlobals "turned_over" = some (some (.ref f25))) (l25 : K.lookup f25 = some ⟨oc25, od25, .func (PySem.W.fnOf "turned_over" "turned_over" (defArgs sTurnedOver) (defBody sTurnedOver) (defScope sTurnedOver) .none kV25 dc25 pm25 an25 cd25 ct25), sl25⟩) (c25 : PySem.W.codeIn K cd25 "turned_over" = true) (k25 : PySem.W.keepIn K (.ref f25) = true)
    {f26 : Addr} {oc26 : Value} {od26 an26 : Option Addr} {sl26 : Array (Option Value)} {kV26 dc26 pm26 cd26 ct26 : Value}
    (a26 : PySem.W.nsIn K mainGlobals "common_of" = some (some (.ref f26))) (l26 : K.lookup f26 = some ⟨oc26, od26, .func (PySem.W.fnOf "common_of" "common_of" (defArgs sCommonOf) (defBody sCommonOf) (defScope sCommonOf) .none kV26 dc26 pm26 an26 cd26 ct26), sl26⟩) (c26 : PySem.W.codeIn K cd26 "common_of" = true) (k26 : PySem.W.keepIn K (.ref f26) = true)
    {f27 : Addr} {oc27 : Value} {od27 an27 : Option Addr} {sl27 : Array (Option Value)} {kV27 dc27 pm27 cd27 ct27 : Value}
    (a27 : PySem.W.nsIn K mainGlobals "open_columns" = some (some (.ref f27))) (l27 : K.lookup f27 = some ⟨oc27, od27, .func (PySem.W.fnOf "open_columns" "open_columns" (defArgs sOpenColumns) (defBody sOpenColumns) (defScope sOpenColumns) .none kV27 dc27 pm27 an27 cd27 ct27), sl27⟩) (c27 : PySem.W.codeIn K cd27 "open_columns" = true) (k27 : PySem.W.keepIn K (.ref f27) = true)
    {f28 : Addr} {oc28 : Value} {od28 an28 : Option Addr} {sl28 : Array (Option Value)} {kV28 dc28 pm28 cd28 ct28 : Value}
    (a28 : PySem.W.nsIn K mainGlobals "heaped" = some (some (.ref f28))) (l28 : K.lookup f28 = some ⟨oc28, od28, .func (PySem.W.fnOf "heaped" "heaped" (defArgs sHeaped) (defBody sHeaped) (defScope sHeaped) .none kV28 dc28 pm28 an28 cd28 ct28), sl28⟩) (c28 : PySem.W.codeIn K cd28 "heaped" = true) (k28 : PySem.W.keepIn K (.ref f28) = true)
    {f29 : Addr} {oc29 : Value} {od29 an29 : Option Addr} {sl29 : Array (Option Value)} {kV29 dc29 pm29 cd29 ct29 : Value}
    (a29 : PySem.W.nsIn K mainGlobals "grown_by" = some (some (.ref f29))) (l29 : K.lookup f29 = some ⟨oc29, od29, .func (PySem.W.fnOf "grown_by" "grown_by" (defArgs sGrownBy) (defBody sGrownBy) (defScope sGrownBy) .none kV29 dc29 pm29 an29 cd29 ct29), sl29⟩) (c29 : PySem.W.codeIn K cd29 "grown_by" = true) (k29 : PySem.W.keepIn K (.ref f29) = true)
    {f30 : Addr} {oc30 : Value} {od30 an30 : Option Addr} {sl30 : Array (Option Value)} {kV30 dc30 pm30 cd30 ct30 : Value}
    (a30 : PySem.W.nsIn K mainGlobals "grown" = some (some (.ref f30))) (l30 : K.lookup f30 = some ⟨oc30, od30, .func (PySem.W.fnOf "grown" "grown" (defArgs sGrown) (defBody sGrown) (defScope sGrown) .none kV30 dc30 pm30 an30 cd30 ct30), sl30⟩) (c30 : PySem.W.codeIn K cd30 "grown" = true) (k30 : PySem.W.keepIn K (.ref f30) = true)
    {f31 : Addr} {oc31 : Value} {od31 an31 : Option Addr} {sl31 : Array (Option Value)} {kV31 dc31 pm31 cd31 ct31 : Value}
    (a31 : PySem.W.nsIn K mainGlobals "heaps_of" = some (some (.ref f31))) (l31 : K.lookup f31 = some ⟨oc31, od31, .func (PySem.W.fnOf "heaps_of" "heaps_of" (defArgs sHeapsOf) (defBody sHeapsOf) (defScope sHeapsOf) .none kV31 dc31 pm31 an31 cd31 ct31), sl31⟩) (c31 : PySem.W.codeIn K cd31 "heaps_of" = true) (k31 : PySem.W.keepIn K (.ref f31) = true)
    {f32 : Addr} {oc32 : Value} {od32 an32 : Option Addr} {sl32 : Array (Option Value)} {kV32 dc32 pm32 cd32 ct32 : Value}
    (a32 : PySem.W.nsIn K mainGlobals "heap_of" = some (some (.ref f32))) (l32 : K.lookup f32 = some ⟨oc32, od32, .func (PySem.W.fnOf "heap_of" "heap_of" (defArgs sHeapOf) (defBody sHeapOf) (defScope sHeapOf) .none kV32 dc32 pm32 an32 cd32 ct32), sl32⟩) (c32 : PySem.W.codeIn K cd32 "heap_of" = true) (k32 : PySem.W.keepIn K (.ref f32) = true)
    {f33 : Addr} {oc33 : Value} {od33 an33 : Option Addr} {sl33 : Array (Option Value)} {kV33 dc33 pm33 cd33 ct33 : Value}
    (a33 : PySem.W.nsIn K mainGlobals "_law_dice" = some (some (.ref f33))) (l33 : K.lookup f33 = some ⟨oc33, od33, .func (PySem.W.fnOf "_law_dice" "_law_dice" (defArgs sLDice) (defBody sLDice) (defScope sLDice) .none kV33 dc33 pm33 an33 cd33 ct33), sl33⟩) (c33 : PySem.W.codeIn K cd33 "_law_dice" = true) (k33 : PySem.W.keepIn K (.ref f33) = true)
    {f34 : Addr} {oc34 : Value} {od34 an34 : Option Addr} {sl34 : Array (Option Value)} {kV34 dc34 pm34 cd34 ct34 : Value}
    (a34 : PySem.W.nsIn K mainGlobals "_law_roll" = some (some (.ref f34))) (l34 : K.lookup f34 = some ⟨oc34, od34, .func (PySem.W.fnOf "_law_roll" "_law_roll" (defArgs sLRoll) (defBody sLRoll) (defScope sLRoll) .none kV34 dc34 pm34 an34 cd34 ct34), sl34⟩) (c34 : PySem.W.codeIn K cd34 "_law_roll" = true) (k34 : PySem.W.keepIn K (.ref f34) = true)
    {f35 : Addr} {oc35 : Value} {od35 an35 : Option Addr} {sl35 : Array (Option Value)} {kV35 dc35 pm35 cd35 ct35 : Value}
    (a35 : PySem.W.nsIn K mainGlobals "_law_one_of" = some (some (.ref f35))) (l35 : K.lookup f35 = some ⟨oc35, od35, .func (PySem.W.fnOf "_law_one_of" "_law_one_of" (defArgs sLOneOf) (defBody sLOneOf) (defScope sLOneOf) .none kV35 dc35 pm35 an35 cd35 ct35), sl35⟩) (c35 : PySem.W.codeIn K cd35 "_law_one_of" = true) (k35 : PySem.W.keepIn K (.ref f35) = true)
    {f36 : Addr} {oc36 : Value} {od36 an36 : Option Addr} {sl36 : Array (Option Value)} {kV36 dc36 pm36 cd36 ct36 : Value}
    (a36 : PySem.W.nsIn K mainGlobals "_law_common" = some (some (.ref f36))) (l36 : K.lookup f36 = some ⟨oc36, od36, .func (PySem.W.fnOf "_law_common" "_law_common" (defArgs sLCommon) (defBody sLCommon) (defScope sLCommon) .none kV36 dc36 pm36 an36 cd36 ct36), sl36⟩) (c36 : PySem.W.codeIn K cd36 "_law_common" = true) (k36 : PySem.W.keepIn K (.ref f36) = true)
    {f37 : Addr} {oc37 : Value} {od37 an37 : Option Addr} {sl37 : Array (Option Value)} {kV37 dc37 pm37 cd37 ct37 : Value}
    (a37 : PySem.W.nsIn K mainGlobals "_law_ring" = some (some (.ref f37))) (l37 : K.lookup f37 = some ⟨oc37, od37, .func (PySem.W.fnOf "_law_ring" "_law_ring" (defArgs sLRing) (defBody sLRing) (defScope sLRing) .none kV37 dc37 pm37 an37 cd37 ct37), sl37⟩) (c37 : PySem.W.codeIn K cd37 "_law_ring" = true) (k37 : PySem.W.keepIn K (.ref f37) = true)
    {f38 : Addr} {oc38 : Value} {od38 an38 : Option Addr} {sl38 : Array (Option Value)} {kV38 dc38 pm38 cd38 ct38 : Value}
    (a38 : PySem.W.nsIn K mainGlobals "_law_ring_of" = some (some (.ref f38))) (l38 : K.lookup f38 = some ⟨oc38, od38, .func (PySem.W.fnOf "_law_ring_of" "_law_ring_of" (defArgs sLRingOf) (defBody sLRingOf) (defScope sLRingOf) .none kV38 dc38 pm38 an38 cd38 ct38), sl38⟩) (c38 : PySem.W.codeIn K cd38 "_law_ring_of" = true) (k38 : PySem.W.keepIn K (.ref f38) = true)
    {f39 : Addr} {oc39 : Value} {od39 an39 : Option Addr} {sl39 : Array (Option Value)} {kV39 dc39 pm39 cd39 ct39 : Value}
    (a39 : PySem.W.nsIn K mainGlobals "_law_chain" = some (some (.ref f39))) (l39 : K.lookup f39 = some ⟨oc39, od39, .func (PySem.W.fnOf "_law_chain" "_law_chain" (defArgs sLChain) (defBody sLChain) (defScope sLChain) .none kV39 dc39 pm39 an39 cd39 ct39), sl39⟩) (c39 : PySem.W.codeIn K cd39 "_law_chain" = true) (k39 : PySem.W.keepIn K (.ref f39) = true)
    {f40 : Addr} {oc40 : Value} {od40 an40 : Option Addr} {sl40 : Array (Option Value)} {kV40 dc40 pm40 cd40 ct40 : Value}
    (a40 : PySem.W.nsIn K mainGlobals "_law_tuple" = some (some (.ref f40))) (l40 : K.lookup f40 = some ⟨oc40, od40, .func (PySem.W.fnOf "_law_tuple" "_law_tuple" (defArgs sLTuple) (defBody sLTuple) (defScope sLTuple) .none kV40 dc40 pm40 an40 cd40 ct40), sl40⟩) (c40 : PySem.W.codeIn K cd40 "_law_tuple" = true) (k40 : PySem.W.keepIn K (.ref f40) = true)
    {f41 : Addr} {oc41 : Value} {od41 an41 : Option Addr} {sl41 : Array (Option Value)} {kV41 dc41 pm41 cd41 ct41 : Value}
    (a41 : PySem.W.nsIn K mainGlobals "_law_grown" = some (some (.ref f41))) (l41 : K.lookup f41 = some ⟨oc41, od41, .func (PySem.W.fnOf "_law_grown" "_law_grown" (defArgs sLGrown) (defBody sLGrown) (defScope sLGrown) .none kV41 dc41 pm41 an41 cd41 ct41), sl41⟩) (c41 : PySem.W.codeIn K cd41 "_law_grown" = true) (k41 : PySem.W.keepIn K (.ref f41) = true)
    {f42 : Addr} {oc42 : Value} {od42 an42 : Option Addr} {sl42 : Array (Option Value)} {kV42 dc42 pm42 cd42 ct42 : Value}
    (a42 : PySem.W.nsIn K mainGlobals "_law_heap" = some (some (.ref f42))) (l42 : K.lookup f42 = some ⟨oc42, od42, .func (PySem.W.fnOf "_law_heap" "_law_heap" (defArgs sLHeap) (defBody sLHeap) (defScope sLHeap) .none kV42 dc42 pm42 an42 cd42 ct42), sl42⟩) (c42 : PySem.W.codeIn K cd42 "_law_heap" = true) (k42 : PySem.W.keepIn K (.ref f42) = true)
    {f43 : Addr} {oc43 : Value} {od43 an43 : Option Addr} {sl43 : Array (Option Value)} {kV43 dc43 pm43 cd43 ct43 : Value}
    (a43 : PySem.W.nsIn K mainGlobals "_law_some_added" = some (some (.ref f43))) (l43 : K.lookup f43 = some ⟨oc43, od43, .func (PySem.W.fnOf "_law_some_added" "_law_some_added" (defArgs sLSomeAdded) (defBody sLSomeAdded) (defScope sLSomeAdded) .none kV43 dc43 pm43 an43 cd43 ct43), sl43⟩) (c43 : PySem.W.codeIn K cd43 "_law_some_added" = true) (k43 : PySem.W.keepIn K (.ref f43) = true)
    {f44 : Addr} {oc44 : Value} {od44 an44 : Option Addr} {sl44 : Array (Option Value)} {kV44 dc44 pm44 cd44 ct44 : Value}
    (a44 : PySem.W.nsIn K mainGlobals "_law_held" = some (some (.ref f44))) (l44 : K.lookup f44 = some ⟨oc44, od44, .func (PySem.W.fnOf "_law_held" "_law_held" (defArgs sLHeld) (defBody sLHeld) (defScope sLHeld) .none kV44 dc44 pm44 an44 cd44 ct44), sl44⟩) (c44 : PySem.W.codeIn K cd44 "_law_held" = true) (k44 : PySem.W.keepIn K (.ref f44) = true)
    {f45 : Addr} {oc45 : Value} {od45 an45 : Option Addr} {sl45 : Array (Option Value)} {kV45 dc45 pm45 cd45 ct45 : Value}
    (a45 : PySem.W.nsIn K mainGlobals "_law_meet_of" = some (some (.ref f45))) (l45 : K.lookup f45 = some ⟨oc45, od45, .func (PySem.W.fnOf "_law_meet_of" "_law_meet_of" (defArgs sLMeetOf) (defBody sLMeetOf) (defScope sLMeetOf) .none kV45 dc45 pm45 an45 cd45 ct45), sl45⟩) (c45 : PySem.W.codeIn K cd45 "_law_meet_of" = true) (k45 : PySem.W.keepIn K (.ref f45) = true)
    {f46 : Addr} {oc46 : Value} {od46 an46 : Option Addr} {sl46 : Array (Option Value)} {kV46 dc46 pm46 cd46 ct46 : Value}
    (a46 : PySem.W.nsIn K mainGlobals "_law_growth_right" = some (some (.ref f46))) (l46 : K.lookup f46 = some ⟨oc46, od46, .func (PySem.W.fnOf "_law_growth_right" "_law_growth_right" (defArgs sLGrowthRight) (defBody sLGrowthRight) (defScope sLGrowthRight) .none kV46 dc46 pm46 an46 cd46 ct46), sl46⟩) (c46 : PySem.W.codeIn K cd46 "_law_growth_right" = true) (k46 : PySem.W.keepIn K (.ref f46) = true)
    {f47 : Addr} {oc47 : Value} {od47 an47 : Option Addr} {sl47 : Array (Option Value)} {kV47 dc47 pm47 cd47 ct47 : Value}
    (a47 : PySem.W.nsIn K mainGlobals "_law_moved_right" = some (some (.ref f47))) (l47 : K.lookup f47 = some ⟨oc47, od47, .func (PySem.W.fnOf "_law_moved_right" "_law_moved_right" (defArgs sLMovedRight) (defBody sLMovedRight) (defScope sLMovedRight) .none kV47 dc47 pm47 an47 cd47 ct47), sl47⟩) (c47 : PySem.W.codeIn K cd47 "_law_moved_right" = true) (k47 : PySem.W.keepIn K (.ref f47) = true)
    {f48 : Addr} {oc48 : Value} {od48 an48 : Option Addr} {sl48 : Array (Option Value)} {kV48 dc48 pm48 cd48 ct48 : Value}
    (a48 : PySem.W.nsIn K mainGlobals "_law_turned_right" = some (some (.ref f48))) (l48 : K.lookup f48 = some ⟨oc48, od48, .func (PySem.W.fnOf "_law_turned_right" "_law_turned_right" (defArgs sLTurnedRight) (defBody sLTurnedRight) (defScope sLTurnedRight) .none kV48 dc48 pm48 an48 cd48 ct48), sl48⟩) (c48 : PySem.W.codeIn K cd48 "_law_turned_right" = true) (k48 : PySem.W.keepIn K (.ref f48) = true)
    {f49 : Addr} {oc49 : Value} {od49 an49 : Option Addr} {sl49 : Array (Option Value)} {kV49 dc49 pm49 cd49 ct49 : Value}
    (a49 : PySem.W.nsIn K mainGlobals "law" = some (some (.ref f49))) (l49 : K.lookup f49 = some ⟨oc49, od49, .func (PySem.W.fnOf "law" "law" (defArgs sLaw) (defBody sLaw) (defScope sLaw) .none kV49 dc49 pm49 an49 cd49 ct49), sl49⟩) (c49 : PySem.W.codeIn K cd49 "law" = true) (k49 : PySem.W.keepIn K (.ref f49) = true) :
    ∃ fd : FuncData, (∀ (s : Shared) (v : Value), BindsTo s fd ⟨[v], []⟩ [("_law_script", v)]) ∧ ∀ base : Heap, K.In base → base.Ns mainGlobals mg → FnOk P w K mg base CX0 8 fa fd ["_law_script"] (spLaw K) := by
  have e := hfa.symm.trans (PySem.W.mg_of X G a49)
  cases e
  have T : Txt K mg :=
    { z_abs := PySem.W.mg_none_of X G z_abs, z_all := PySem.W.mg_none_of X G z_all, z_bool := PySem.W.mg_none_of X G z_bool, z_enumerate := PySem.W.mg_none_of X G z_enumerate, z_int := PySem.W.mg_none_of X G z_int, z_isinstance := PySem.W.mg_none_of X G z_isinstance, z_len := PySem.W.mg_none_of X G z_len, z_list := PySem.W.mg_none_of X G z_list, z_max := PySem.W.mg_none_of X G z_max, z_min := PySem.W.mg_none_of X G z_min, z_range := PySem.W.mg_none_of X G z_range, z_tuple := PySem.W.mg_none_of X G z_tuple, z_zip := PySem.W.mg_none_of X G z_zip, v_BOUND := vBOUND, v_DIGITS := ⟨tDIGITS, PySem.W.mg_of X G gDIGITS⟩, v_RINGS := ⟨tRINGS, PySem.W.mg_of X G gRINGS⟩, v_PLACES := ⟨tPLACES, PySem.W.mg_of X G gPLACES⟩, v_SIDE := ⟨tSIDE, PySem.W.mg_of X G gSIDE⟩,
      d_is_integer := mk_def (ps := ["value"]) X G a0 l0 c0 k0 fun _ _ _ _ _ _ us hl => match us, hl with | [_], _ => rfl,
      d_is_between := mk_def (ps := ["value", "low", "high"]) X G a1 l1 c1 k1 fun _ _ _ _ _ _ us hl => match us, hl with | [_, _, _], _ => rfl,
      d_is_pair := mk_def (ps := ["value"]) X G a2 l2 c2 k2 fun _ _ _ _ _ _ us hl => match us, hl with | [_], _ => rfl,
      d_check_integer := mk_def (ps := ["value"]) X G a3 l3 c3 k3 fun _ _ _ _ _ _ us hl => match us, hl with | [_], _ => rfl,
      d_check_between := mk_def (ps := ["value", "low", "high"]) X G a4 l4 c4 k4 fun _ _ _ _ _ _ us hl => match us, hl with | [_, _, _], _ => rfl,
      d_check_digits := mk_def (ps := ["numbers"]) X G a5 l5 c5 k5 fun _ _ _ _ _ _ us hl => match us, hl with | [_], _ => rfl,
      d_is_ring := mk_def (ps := ["value"]) X G a6 l6 c6 k6 fun _ _ _ _ _ _ us hl => match us, hl with | [_], _ => rfl,
      d_is_chain := mk_def (ps := ["value"]) X G a7 l7 c7 k7 fun _ _ _ _ _ _ us hl => match us, hl with | [_], _ => rfl,
      d_check_ring := mk_def (ps := ["ring"]) X G a8 l8 c8 k8 fun _ _ _ _ _ _ us hl => match us, hl with | [_], _ => rfl,
      d_check_chain := mk_def (ps := ["chain"]) X G a9 l9 c9 k9 fun _ _ _ _ _ _ us hl => match us, hl with | [_], _ => rfl,
      d_lets := mk_def (ps := ["ring", "place", "diagonal"]) X G a10 l10 c10 k10 fun _ _ _ _ _ _ us hl => match us, hl with | [_, _, _], _ => rfl,
      d_lies_told := mk_def (ps := ["chain", "value"]) X G a11 l11 c11 k11 fun _ _ _ _ _ _ us hl => match us, hl with | [_, _], _ => rfl,
      d_check_places := mk_def (ps := ["chain", "places"]) X G a12 l12 c12 k12 fun _ _ _ _ _ _ us hl => match us, hl with | [_, _], _ => rfl,
      d_is_class := mk_def (ps := ["chain", "value"]) X G a13 l13 c13 k13 fun _ _ _ _ _ _ us hl => match us, hl with | [_, _], _ => rfl,
      d_check_class := mk_def (ps := ["chain", "value"]) X G a14 l14 c14 k14 fun _ _ _ _ _ _ us hl => match us, hl with | [_, _], _ => rfl,
      d_told_class := mk_def (ps := ["chain", "degree", "rests"]) X G a15 l15 c15 k15 fun _ _ _ _ _ _ us hl => match us, hl with | [_, _, _], _ => rfl,
      d_class_with_ends := mk_def (ps := ["chain", "one", "a", "b"]) X G a16 l16 c16 k16 fun _ _ _ _ _ _ us hl => match us, hl with | [_, _, _, _], _ => rfl,
      d_is_heap := mk_def (ps := ["value"]) X G a17 l17 c17 k17 fun _ _ _ _ _ _ us hl => match us, hl with | [_], _ => rfl,
      d_check_heap := mk_def (ps := ["heap"]) X G a18 l18 c18 k18 fun _ _ _ _ _ _ us hl => match us, hl with | [_], _ => rfl,
      d_check_heaps := mk_def (ps := ["one", "other"]) X G a19 l19 c19 k19 fun _ _ _ _ _ _ us hl => match us, hl with | [_, _], _ => rfl,
      d_check_side := mk_def (ps := ["heap"]) X G a20 l20 c20 k20 fun _ _ _ _ _ _ us hl => match us, hl with | [_], _ => rfl,
      d_height_at := mk_def (ps := ["heap", "column"]) X G a21 l21 c21 k21 fun _ _ _ _ _ _ us hl => match us, hl with | [_, _], _ => rfl,
      d_holds := mk_def (ps := ["heap", "other"]) X G a22 l22 c22 k22 fun _ _ _ _ _ _ us hl => match us, hl with | [_, _], _ => rfl,
      d_is_held := mk_def (ps := ["heap", "other"]) X G a23 l23 c23 k23 fun _ _ _ _ _ _ us hl => match us, hl with | [_, _], _ => rfl,
      d_lengths_of := mk_def (ps := ["heap"]) X G a24 l24 c24 k24 fun _ _ _ _ _ _ us hl => match us, hl with | [_], _ => rfl,
      d_turned_over := mk_def (ps := ["heap"]) X G a25 l25 c25 k25 fun _ _ _ _ _ _ us hl => match us, hl with | [_], _ => rfl,
      d_common_of := mk_def (ps := ["one", "other"]) X G a26 l26 c26 k26 fun _ _ _ _ _ _ us hl => match us, hl with | [_, _], _ => rfl,
      d_open_columns := mk_def (ps := ["heap"]) X G a27 l27 c27 k27 fun _ _ _ _ _ _ us hl => match us, hl with | [_], _ => rfl,
      d_heaped := mk_def (ps := ["heap", "columns"]) X G a28 l28 c28 k28 fun _ _ _ _ _ _ us hl => match us, hl with | [_, _], _ => rfl,
      d_grown_by := mk_def (ps := ["heap", "ring", "place"]) X G a29 l29 c29 k29 fun _ _ _ _ _ _ us hl => match us, hl with | [_, _, _], _ => rfl,
      d_grown := mk_def (ps := ["heap", "ring", "place"]) X G a30 l30 c30 k30 fun _ _ _ _ _ _ us hl => match us, hl with | [_, _, _], _ => rfl,
      d_heaps_of := mk_def (ps := ["chain", "places"]) X G a31 l31 c31 k31 fun _ _ _ _ _ _ us hl => match us, hl with | [_, _], _ => rfl,
      d_heap_of := mk_def (ps := ["chain", "places"]) X G a32 l32 c32 k32 fun _ _ _ _ _ _ us hl => match us, hl with | [_, _], _ => rfl,
      d_l_dice := mk_def (ps := ["_law_script", "_law_at"]) X G a33 l33 c33 k33 fun _ _ _ _ _ _ us hl => match us, hl with | [_, _], _ => rfl,
      d_l_roll := mk_def (ps := ["_law_dice_here", "_law_total"]) X G a34 l34 c34 k34 fun _ _ _ _ _ _ us hl => match us, hl with | [_, _], _ => rfl,
      d_l_one_of := mk_def (ps := ["_law_dice_here", "_law_items"]) X G a35 l35 c35 k35 fun _ _ _ _ _ _ us hl => match us, hl with | [_, _], _ => rfl,
      d_l_common := mk_def (ps := ["_law_one", "_law_other"]) X G a36 l36 c36 k36 fun _ _ _ _ _ _ us hl => match us, hl with | [_, _], _ => rfl,
      d_l_ring := mk_def (ps := ["_law_dice_here", "_law_most"]) X G a37 l37 c37 k37 fun _ _ _ _ _ _ us hl => match us, hl with | [_, _], _ => rfl,
      d_l_ring_of := mk_def (ps := ["_law_dice_here", "_law_k", "_law_times"]) X G a38 l38 c38 k38 fun _ _ _ _ _ _ us hl => match us, hl with | [_, _, _], _ => rfl,
      d_l_chain := mk_def (ps := ["_law_dice_here", "_law_rings", "_law_most"]) X G a39 l39 c39 k39 fun _ _ _ _ _ _ us hl => match us, hl with | [_, _, _], _ => rfl,
      d_l_tuple := mk_def (ps := ["_law_dice_here", "_law_chain_here"]) X G a40 l40 c40 k40 fun _ _ _ _ _ _ us hl => match us, hl with | [_, _], _ => rfl,
      d_l_grown := mk_def (ps := ["_law_heap_here", "_law_ring_here", "_law_x"]) X G a41 l41 c41 k41 fun _ _ _ _ _ _ us hl => match us, hl with | [_, _, _], _ => rfl,
      d_l_heap := mk_def (ps := ["_law_chain_here", "_law_x"]) X G a42 l42 c42 k42 fun _ _ _ _ _ _ us hl => match us, hl with | [_, _], _ => rfl,
      d_l_some_added := mk_def (ps := ["_law_dice_here", "_law_heap_here", "_law_ring_here", "_law_place"]) X G a43 l43 c43 k43 fun _ _ _ _ _ _ us hl => match us, hl with | [_, _, _, _], _ => rfl,
      d_l_held := mk_def (ps := ["_law_one", "_law_other"]) X G a44 l44 c44 k44 fun _ _ _ _ _ _ us hl => match us, hl with | [_, _], _ => rfl,
      d_l_meet_of := mk_def (ps := ["_law_one", "_law_other"]) X G a45 l45 c45 k45 fun _ _ _ _ _ _ us hl => match us, hl with | [_, _], _ => rfl,
      d_l_growth_right := mk_def (ps := ["_law_dice_here", "_law_chain_here", "_law_x"]) X G a46 l46 c46 k46 fun _ _ _ _ _ _ us hl => match us, hl with | [_, _, _], _ => rfl,
      d_l_moved_right := mk_def (ps := ["_law_dice_here", "_law_chain_here", "_law_x"]) X G a47 l47 c47 k47 fun _ _ _ _ _ _ us hl => match us, hl with | [_, _, _], _ => rfl,
      d_l_turned_right := mk_def (ps := ["_law_chain_here", "_law_x"]) X G a48 l48 c48 k48 fun _ _ _ _ _ _ us hl => match us, hl with | [_, _], _ => rfl }
  have F := fun_mk (st := sLaw) l49 c49 k49
  exact ⟨PySem.W.fnOf "law" "law" (defArgs sLaw) (defBody sLaw) (defScope sLaw) .none kV49 dc49 pm49 an49 cd49 ct49, fun s v => .of_eq rfl, fun base _ _ => ok_law T F⟩
/-- the end of the law's row, what the loose names hold told -/
theorem walk_x {l : PySem.W.OpenLaw} {k : Nat} {q : Program} {loose : List Str} {lv : List (Str × PySem.W.WData)} {YP : World → Heap → Prop} {d : DefRec} {K : Params → PySem.W.Frag}
    (hn : l.most = some 63) (hdf : d.params.defaults = []) (hr : Room k callerA) (hY : ∀ (w : World) (h : Heap), YP w h → (K w.params).In h)
    (F : ∀ (w : World) (mg : Str → Option Value) (fa : Addr) (h : Heap), (K w.params).In h → h.Ns mainGlobals mg → PySem.W.XL q lv mg h → mg d.name = some (.ref fa) →
      ∃ fd : FuncData, (∀ (s : Shared) (u : Value), BindsTo s fd ⟨[u], []⟩ [("_law_script", u)]) ∧
        ∀ base : Heap, (K w.params).In base → base.Ns mainGlobals mg → FnOk l.prog w (K w.params) mg base CX0 k fa fd ["_law_script"] (spLaw (K w.params))) :
    PySem.W.WalkO q loose (PySem.W.XL q lv) YP l.row.toRowW d [] (fun f vs => PySem.call f vs) := by
  refine Att.attach_call hn hdf fun w s₀ s₁ mg mb fa o pm cd doc a vs ns G Y ho hd hcd hmg hobj hints hlen hg => ?_
  obtain ⟨fd, hb, hF⟩ := F w mg fa _ (hY w _ Y) G.T.g G.X hmg
  exact law_call (hY w _ Y) G.T.g G.T.b G.T.builtins G.T.nolimit hg hobj hints (Nat.le_trans hlen (by decide)) hr hF hb (fun H _ hS => ⟨a, ns, rfl, hS, hlen, fun _ => rfl⟩) fun H e s' z => z
end K1

open PySem PySem.W PyProof.Rows
set_option maxHeartbeats 0 in
theorem PySem.Challenge.cw_ringstairs_k15_whole_greatest_heaps_and_holds : PySem.Challenge.rw_ringstairs_k15_whole_greatest_heaps_and.Holds := by
  w_on; o_law; k_head; (case hw => w_witness2)
  k_fill
  refine K1.walk_x (k := 8) rfl rfl ⟨rfl, by decide, by decide⟩ (fun w h Y => PySem.W.kIn_of Y) ?F
  case F =>
    intro w mg fa h KX G XF hmg
    have vBOUND : ∃ t, mg "BOUND" = some (.int (10 ^ 60) t) := by
      obtain ⟨v, e1, e2⟩ := XF.2.val _ (List.mem_cons_self ..)
      cases e2
      exact ⟨_, e1⟩
    refine' K1.all_mk KX G hmg vBOUND ?gDIGITS ?gRINGS ?gPLACES ?gSIDE ?z_abs ?z_all ?z_bool ?z_enumerate ?z_int ?z_isinstance ?z_len ?z_list ?z_max ?z_min ?z_range ?z_tuple ?z_zip ?a0 ?l0 ?c0 ?k0 ?a1 ?l1 ?c1 ?k1 ?a2 ?l2 ?c2 ?k2 ?a3 ?l3 ?c3 ?k3 ?a4 ?l4 ?c4 ?k4 ?a5 ?l5 ?c5 ?k5 ?a6 ?l6 ?c6 ?k6 ?a7 ?l7 ?c7 ?k7 ?a8 ?l8 ?c8 ?k8 ?a9 ?l9 ?c9 ?k9 ?a10 ?l10 ?c10 ?k10 ?a11 ?l11 ?c11 ?k11 ?a12 ?l12 ?c12 ?k12 ?a13 ?l13 ?c13 ?k13 ?a14 ?l14 ?c14 ?k14 ?a15 ?l15 ?c15 ?k15 ?a16 ?l16 ?c16 ?k16 ?a17 ?l17 ?c17 ?k17 ?a18 ?l18 ?c18 ?k18 ?a19 ?l19 ?c19 ?k19 ?a20 ?l20 ?c20 ?k20 ?a21 ?l21 ?c21 ?k21 ?a22 ?l22 ?c22 ?k22 ?a23 ?l23 ?c23 ?k23 ?a24 ?l24 ?c24 ?k24 ?a25 ?l25 ?c25 ?k25 ?a26 ?l26 ?c26 ?k26 ?a27 ?l27 ?c27 ?k27 ?a28 ?l28 ?c28 ?k28 ?a29 ?l29 ?c29 ?k29 ?a30 ?l30 ?c30 ?k30 ?a31 ?l31 ?c31 ?k31 ?a32 ?l32 ?c32 ?k32 ?a33 ?l33 ?c33 ?k33 ?a34 ?l34 ?c34 ?k34 ?a35 ?l35 ?c35 ?k35 ?a36 ?l36 ?c36 ?k36 ?a37 ?l37 ?c37 ?k37 ?a38 ?l38 ?c38 ?k38 ?a39 ?l39 ?c39 ?k39 ?a40 ?l40 ?c40 ?k40 ?a41 ?l41 ?c41 ?k41 ?a42 ?l42 ?c42 ?k42 ?a43 ?l43 ?c43 ?k43 ?a44 ?l44 ?c44 ?k44 ?a45 ?l45 ?c45 ?k45 ?a46 ?l46 ?c46 ?k46 ?a47 ?l47 ?c47 ?k47 ?a48 ?l48 ?c48 ?k48 ?a49 ?l49 ?c49 ?k49
    (case gDIGITS => k_is); (case gRINGS => k_is); (case gPLACES => k_is); (case gSIDE => k_is); (case z_abs => k_is); (case z_all => k_is); (case z_bool => k_is); (case z_enumerate => k_is)
    (case z_int => k_is); (case z_isinstance => k_is); (case z_len => k_is); (case z_list => k_is); (case z_max => k_is); (case z_min => k_is); (case z_range => k_is); (case z_tuple => k_is)
    (case z_zip => k_is); (case a0 => k_is); (case l0 => k_is); (case c0 => k_is); (case k0 => k_is); (case a1 => k_is); (case l1 => k_is); (case c1 => k_is)
    (case k1 => k_is); (case a2 => k_is); (case l2 => k_is); (case c2 => k_is); (case k2 => k_is); (case a3 => k_is); (case l3 => k_is); (case c3 => k_is)
    (case k3 => k_is); (case a4 => k_is); (case l4 => k_is); (case c4 => k_is); (case k4 => k_is); (case a5 => k_is); (case l5 => k_is); (case c5 => k_is)
    (case k5 => k_is); (case a6 => k_is); (case l6 => k_is); (case c6 => k_is); (case k6 => k_is); (case a7 => k_is); (case l7 => k_is); (case c7 => k_is)
    (case k7 => k_is); (case a8 => k_is); (case l8 => k_is); (case c8 => k_is); (case k8 => k_is); (case a9 => k_is); (case l9 => k_is); (case c9 => k_is)
    (case k9 => k_is); (case a10 => k_is); (case l10 => k_is); (case c10 => k_is); (case k10 => k_is); (case a11 => k_is); (case l11 => k_is); (case c11 => k_is)
    (case k11 => k_is); (case a12 => k_is); (case l12 => k_is); (case c12 => k_is); (case k12 => k_is); (case a13 => k_is); (case l13 => k_is); (case c13 => k_is)
    (case k13 => k_is); (case a14 => k_is); (case l14 => k_is); (case c14 => k_is); (case k14 => k_is); (case a15 => k_is); (case l15 => k_is); (case c15 => k_is)
    (case k15 => k_is); (case a16 => k_is); (case l16 => k_is); (case c16 => k_is); (case k16 => k_is); (case a17 => k_is); (case l17 => k_is); (case c17 => k_is)
    (case k17 => k_is); (case a18 => k_is); (case l18 => k_is); (case c18 => k_is); (case k18 => k_is); (case a19 => k_is); (case l19 => k_is); (case c19 => k_is)
    (case k19 => k_is); (case a20 => k_is); (case l20 => k_is); (case c20 => k_is); (case k20 => k_is); (case a21 => k_is); (case l21 => k_is); (case c21 => k_is)
    (case k21 => k_is); (case a22 => k_is); (case l22 => k_is); (case c22 => k_is); (case k22 => k_is); (case a23 => k_is); (case l23 => k_is); (case c23 => k_is)
    (case k23 => k_is); (case a24 => k_is); (case l24 => k_is); (case c24 => k_is); (case k24 => k_is); (case a25 => k_is); (case l25 => k_is); (case c25 => k_is)
    (case k25 => k_is); (case a26 => k_is); (case l26 => k_is); (case c26 => k_is); (case k26 => k_is); (case a27 => k_is); (case l27 => k_is); (case c27 => k_is)
    (case k27 => k_is); (case a28 => k_is); (case l28 => k_is); (case c28 => k_is); (case k28 => k_is); (case a29 => k_is); (case l29 => k_is); (case c29 => k_is)
    (case k29 => k_is); (case a30 => k_is); (case l30 => k_is); (case c30 => k_is); (case k30 => k_is); (case a31 => k_is); (case l31 => k_is); (case c31 => k_is)
    (case k31 => k_is); (case a32 => k_is); (case l32 => k_is); (case c32 => k_is); (case k32 => k_is); (case a33 => k_is); (case l33 => k_is); (case c33 => k_is)
    (case k33 => k_is); (case a34 => k_is); (case l34 => k_is); (case c34 => k_is); (case k34 => k_is); (case a35 => k_is); (case l35 => k_is); (case c35 => k_is)
    (case k35 => k_is); (case a36 => k_is); (case l36 => k_is); (case c36 => k_is); (case k36 => k_is); (case a37 => k_is); (case l37 => k_is); (case c37 => k_is)
    (case k37 => k_is); (case a38 => k_is); (case l38 => k_is); (case c38 => k_is); (case k38 => k_is); (case a39 => k_is); (case l39 => k_is); (case c39 => k_is)
    (case k39 => k_is); (case a40 => k_is); (case l40 => k_is); (case c40 => k_is); (case k40 => k_is); (case a41 => k_is); (case l41 => k_is); (case c41 => k_is)
    (case k41 => k_is); (case a42 => k_is); (case l42 => k_is); (case c42 => k_is); (case k42 => k_is); (case a43 => k_is); (case l43 => k_is); (case c43 => k_is)
    (case k43 => k_is); (case a44 => k_is); (case l44 => k_is); (case c44 => k_is); (case k44 => k_is); (case a45 => k_is); (case l45 => k_is); (case c45 => k_is)
    (case k45 => k_is); (case a46 => k_is); (case l46 => k_is); (case c46 => k_is); (case k46 => k_is); (case a47 => k_is); (case l47 => k_is); (case c47 => k_is)
    (case k47 => k_is); (case a48 => k_is); (case l48 => k_is); (case c48 => k_is); (case k48 => k_is); (case a49 => k_is); (case l49 => k_is); (case c49 => k_is)
    (case k49 => k_is)

