import PyProof.Rows.All
import Wide.All
import OpenK.AllK
import Wide.FinOn
import HandS.Iter
import PyProof.LongRange
import HandS.ForMost
import KE.GoesEnum
import PySem.Challenge.RW_ringstairs_k05_whole_classes_added_and_m
import HandS.ForExc
import HandS.Wide
import HandS.SortInts
import HandS.Zip
import HandS.Style
import HandS.Rev
import HandS.TupMul
import HandS.IsInst
import HandS.Evl
import HandS.Gcd
import HandS.RevRange
import HandS.Small
import HandS.Conv
import HandS.Walk
import HandS.DictComp
import KE.KDictSum
import KE.KDictCopyH
import KE.KDictDisplayH
set_option Elab.async false
set_option linter.all false
set_option maxRecDepth 100000
set_option maxHeartbeats 4000000
/-! own rule: range(i, j) with ends of any size, walked -/
namespace LR
open PySem PySem.Spec PyProof.Rows L2
theorem turn_long {P : Program} {w : World} {K : PySem.W.Frag} {tg : Expr} (it : Addr) (lo : Int) (n : Nat) : Turn P w K tg (Itr lo n) [it] it (fun i h => IsLongIter h it (lo + (i : Nat) * 1) ((n : Int) - (i : Nat)) 1) where
  mem := by simp
  obj := fun i h st b hb => by
    have e : b = it := by simpa using hb
    subst e
    exact ⟨_, st, fun v z => nomatch z⟩
  keep := fun i h h' st k => k it (by simp) _ st
  item := by
    intro X hP hw hK hc i pins s σ H E I hf st hg
    subst hP hw hK
    obtain ⟨f0, f1, f2, f3, f4, f5⟩ := hf it (by simp)
    have W := Walks.longrange (prog := X.prog) (w := X.w) (I.ok.hd hc) it lo 1 n
    refine W.item i s _ _ hg st fun v h' tk hv st' kk => ?_
    obtain ⟨t, rfl⟩ := hv
    have I1 : Inv X pins σ H { s with heap := h', toks := tk } := I.turned (fun b o hb e => kk b o (by simpa using hb) e) f0 f1 f3 f4 f5
    exact ⟨_, rfl, go_of (s := { s with heap := h', toks := tk }) (n := "longrange_iterator") st' rfl rfl (by decide) ⟨.int (lo + (i : Nat) * 1), H, I1, ⟨t, rfl⟩, ⟨rfl, by simp⟩, st', fun b hb => (hf b hb).1⟩⟩
  done := by
    intro X hP hw hK hc i pins s σ H E I hf st hg
    subst hP hw hK
    obtain ⟨f0, f1, f2, f3, f4, f5⟩ := hf it (by simp)
    exact wpAny_pyNext_long_end (I.ok.hd hc) st (by have : n ≤ i := hg; omega) fun h' eb => ⟨rfl, I.turned (t' := s.toks) (fun b o hb e => eb b o hb e) f0 f1 f3 f4 f5⟩
  self := fun A i s Q E st h => wpAny_pyIter_longiter st h
theorem range_itL {X : Cx} {tg : Expr} {pins : List (Addr × Obj)} {σ : L2.St} {H : Hp} {s : Shared} {R : It → Hp → Prop} {E : Value → Shared → Prop} {lo hi : Int} {t u v : Tok} {tk : Nat} (I : Inv X pins σ H s) (hb : Builtin.Range.small lo hi 1 = false)
    (q : R (Itr lo (hi - lo).toNat) H) : wpAny (model X.prog X.w) X.A (pyIter (.ref s.heap.objs.size)) (PIE X pins σ tg R) E { s with heap := s.heap.push { cls := .type "range", data := .fields #[.int lo t, .int hi u, .int 1 v] }, toks := tk } := by
  refine wpAny_pyIter_longrange (IsRange.new ..) hb ?_
  have I1 : Inv X pins σ H { s with heap := s.heap.push { cls := .type "range", data := .fields #[.int lo t, .int hi u, .int 1 v] }, toks := tk } := I.kept fun b o e => Heap.get?_push_of_some _ e
  refine ⟨(s.heap.push { cls := .type "range", data := .fields #[.int lo t, .int hi u, .int 1 v] }).objs.size, [(s.heap.push { cls := .type "range", data := .fields #[.int lo t, .int hi u, .int 1 v] }).objs.size], _, _, H, rfl,
    I1.kept (t' := tk) fun b o e => Heap.get?_push_of_some _ e, turn_long _ lo (hi - lo).toNat, ?_, fun b hb => ?_, q⟩
  · have e1 : lo + ((0 : Nat) : Int) * 1 = lo := by simp
    have e2 : (((hi - lo).toNat : Nat) : Int) - ((0 : Nat) : Int) = Builtin.Range.rangeSize lo hi 1 := by rw [rangeSize_one]; split <;> omega
    show IsLongIter _ _ (lo + ((0 : Nat) : Int) * 1) ((((hi - lo).toNat : Nat) : Int) - ((0 : Nat) : Int)) 1
    rw [e1, e2]
    exact Heap.get?_push_size _ rfl
  · have e : b = (s.heap.push { cls := .type "range", data := .fields #[.int lo t, .int hi u, .int 1 v] }).objs.size := by simpa using hb
    subst e
    exact I1.fpOk (Nat.le_refl _) (I1.hok.fresh (Nat.le_refl _))
/-- small or not -/
theorem range_itS {X : Cx} {tg : Expr} {pins : List (Addr × Obj)} {σ : L2.St} {H : Hp} {s : Shared} {R : It → Hp → Prop} {E : Value → Shared → Prop} {lo hi : Int} {t u v : Tok} {tk : Nat} (I : Inv X pins σ H s) (hb : Builtin.Range.small lo hi 1 = true)
    (q : R (Itr lo (hi - lo).toNat) H) : wpAny (model X.prog X.w) X.A (pyIter (.ref s.heap.objs.size)) (PIE X pins σ tg R) E { s with heap := s.heap.push { cls := .type "range", data := .fields #[.int lo t, .int hi u, .int 1 v] }, toks := tk } := by
  refine wpAny_pyIter_range (IsRange.new ..) hb ?_
  have I1 : Inv X pins σ H { s with heap := s.heap.push { cls := .type "range", data := .fields #[.int lo t, .int hi u, .int 1 v] }, toks := tk } := I.kept fun b o e => Heap.get?_push_of_some _ e
  refine ⟨(s.heap.push { cls := .type "range", data := .fields #[.int lo t, .int hi u, .int 1 v] }).objs.size, [(s.heap.push { cls := .type "range", data := .fields #[.int lo t, .int hi u, .int 1 v] }).objs.size], _, _, H, rfl,
    I1.kept (t' := tk) fun b o e => Heap.get?_push_of_some _ e, turn_range _ lo (hi - lo).toNat, ?_, fun b hb => ?_, q⟩
  · have e1 : lo + ((0 : Nat) : Int) * 1 = lo := by simp
    have e2 : (((hi - lo).toNat : Nat) : Int) - ((0 : Nat) : Int) = Builtin.Range.rangeSize lo hi 1 := by rw [rangeSize_one]; split <;> omega
    show IsRangeIter _ _ (lo + ((0 : Nat) : Int) * 1) ((((hi - lo).toNat : Nat) : Int) - ((0 : Nat) : Int)) 1
    rw [e1, e2]
    exact Heap.get?_push_size _ rfl
  · have e : b = (s.heap.push { cls := .type "range", data := .fields #[.int lo t, .int hi u, .int 1 v] }).objs.size := by simpa using hb
    subst e
    exact I1.fpOk (Nat.le_refl _) (I1.hok.fresh (Nat.le_refl _))
def iRng2L (ta : TA) : TI := fun σ H R => ta σ H fun vs H1 => ∃ i j : Int, vs = [.int i, .int j] ∧ R (Itr i (j - i).toNat) H1
theorem pi_range2L {X : Cx} {tg : Expr} {a b : Expr} {ta : TA} {p pos : Pos} (hg : Gl X "range") (hm : X.mg "range" = none) (ha : PA X [a, b] ta) (hs : starEach [a, b] X.env = [(false, eval a X.env), (false, eval b X.env)] := by rfl) (hs2 : starEach [b] X.env = [(false, eval b X.env)] := by rfl) :
    PI X tg (.Call (.Name "range" p) [a, b] [] pos) (iRng2L ta) := by
  refine ⟨fun pins s σ H R I h => ?_⟩
  refine Call_ (ld_blt I hg hm boot_range (PyProof.Rows.callWith_type1 (thn (ha.run pos pins s σ H _ I h) fun us s1 ⟨vs, H1, I1, r1, q1⟩ => ?_) (by rw [hs, hs2]) (by rw [hs2]; rfl)))
  obtain ⟨i, j, e, q⟩ := q1
  subst e
  cases r1 with
  | cons r rr =>
    cases rr with
    | cons r' rr =>
      cases rr
      obtain ⟨t, rfl⟩ := r
      obtain ⟨t', rfl⟩ := r'
      cases hb : Builtin.Range.small i j 1 with
      | true => exact call_range_2 (range_itS I1 hb q)
      | false => exact call_range_2 (range_itL I1 hb q)
end LR

/-! plain mathematics for the orders and the diagonals -/
namespace K1M
/-- the step: the i-th place on the way from the right door by the left door -/
theorem dvd_iff {n s i : Nat} (hn : 0 < n) : (i * s) % n = 0 ↔ (n / Nat.gcd n s) ∣ i := by
  have hg : 0 < Nat.gcd n s := Nat.gcd_pos_of_pos_left _ hn
  have hc : Nat.Coprime (n / Nat.gcd n s) (s / Nat.gcd n s) := Nat.coprime_div_gcd_div_gcd hg
  have hn' : n = Nat.gcd n s * (n / Nat.gcd n s) := (Nat.mul_div_cancel' (Nat.gcd_dvd_left n s)).symm
  have hs' : s = Nat.gcd n s * (s / Nat.gcd n s) := (Nat.mul_div_cancel' (Nat.gcd_dvd_right n s)).symm
  constructor
  · intro h
    have d : n ∣ i * s := Nat.dvd_of_mod_eq_zero h
    have d2 : Nat.gcd n s * (n / Nat.gcd n s) ∣ Nat.gcd n s * (i * (s / Nat.gcd n s)) := by
      rw [← hn']
      have e : Nat.gcd n s * (i * (s / Nat.gcd n s)) = i * s := by
        rw [Nat.mul_left_comm, ← hs']
      rw [e]
      exact d
    have d3 := Nat.dvd_of_mul_dvd_mul_left hg d2
    exact hc.dvd_of_dvd_mul_right d3
  · rintro ⟨c, rfl⟩
    apply Nat.mod_eq_zero_of_dvd
    refine ⟨c * (s / Nat.gcd n s), ?_⟩
    have e : n / Nat.gcd n s * c * s = n / Nat.gcd n s * c * (Nat.gcd n s * (s / Nat.gcd n s)) := by rw [← hs']
    rw [e]
    have e2 : n * (c * (s / Nat.gcd n s)) = Nat.gcd n s * (n / Nat.gcd n s) * (c * (s / Nat.gcd n s)) := by rw [← hn']
    rw [e2]
    simp only [Nat.mul_assoc, Nat.mul_left_comm, Nat.mul_comm]
def ord (n s : Nat) : Nat := n / Nat.gcd n s
theorem ord_pos {n s : Nat} (hn : 0 < n) : 0 < ord n s := Nat.div_pos (Nat.gcd_le_left s hn) (Nat.gcd_pos_of_pos_left _ hn)
theorem ord_le {n s : Nat} : ord n s ≤ n := Nat.div_le_self _ _
theorem ord_ge2 {n s : Nat} (h1 : 1 ≤ s) (h2 : s < n) : 2 ≤ ord n s := by
  have hn : 0 < n := by omega
  have hg : 0 < Nat.gcd n s := Nat.gcd_pos_of_pos_left _ hn
  have hle : Nat.gcd n s ≤ s := Nat.le_of_dvd h1 (Nat.gcd_dvd_right n s)
  have hn' : n = Nat.gcd n s * ord n s := (Nat.mul_div_cancel' (Nat.gcd_dvd_left n s)).symm
  rcases Nat.lt_or_ge (ord n s) 2 with h | h
  · exfalso
    have hp := ord_pos (s := s) hn
    have e1 : ord n s = 1 := by omega
    rw [e1, Nat.mul_one] at hn'
    omega
  · exact h
/-- the way: while the next is not 0 and there are fewer than n -/
def stp (n s i : Nat) : Nat := (i * s) % n
theorem stp_zero_iff {n s i : Nat} (hn : 0 < n) : stp n s i = 0 ↔ ord n s ∣ i := dvd_iff hn
theorem stp_mod {n s i : Nat} (hn : 0 < n) : stp n s (i % ord n s) = stp n s i := by
  have h0 : (ord n s * s) % n = 0 := (stp_zero_iff (i := ord n s) hn).mpr (Nat.dvd_refl _)
  have e : i = ord n s * (i / ord n s) + i % ord n s := (Nat.div_add_mod i (ord n s)).symm
  have e2 : i * s = (i / ord n s) * (ord n s * s) + (i % ord n s) * s := by
    have : (ord n s * (i / ord n s) + i % ord n s) * s = (i / ord n s) * (ord n s * s) + (i % ord n s) * s := by
      rw [Nat.add_mul]
      congr 1
      simp only [Nat.mul_assoc, Nat.mul_left_comm, Nat.mul_comm]
    rw [← this, ← e]
  obtain ⟨q, hq⟩ := Nat.dvd_of_mod_eq_zero h0
  unfold stp
  rw [e2, hq, Nat.mul_left_comm, Nat.add_comm, Nat.add_mul_mod_self_left]
/-- the same for integers: the diagonal's place -/
theorem istp {n s : Nat} (hn : 0 < n) (c : Int) : (c * (s : Int)) % (n : Int) = ((stp n s (c % (ord n s : Int)).toNat : Nat) : Int) := by
  have hm : 0 < ord n s := ord_pos hn
  have hm' : (0 : Int) < (ord n s : Int) := by exact_mod_cast hm
  have hr0 : 0 ≤ c % (ord n s : Int) := Int.emod_nonneg _ (by omega)
  have h0 : ((ord n s : Int) * (s : Int)) % (n : Int) = 0 := by
    have h0 : (ord n s * s) % n = 0 := (stp_zero_iff (i := ord n s) hn).mpr (Nat.dvd_refl _)
    have := congrArg (fun x : Nat => (x : Int)) h0
    simpa using this
  have e : c = (ord n s : Int) * (c / (ord n s : Int)) + c % (ord n s : Int) := (Int.mul_ediv_add_emod c (ord n s : Int)).symm
  have e2 : c * (s : Int) = (c / (ord n s : Int)) * ((ord n s : Int) * (s : Int)) + (c % (ord n s : Int)) * (s : Int) := by
    have : ((ord n s : Int) * (c / (ord n s : Int)) + c % (ord n s : Int)) * (s : Int) = (c / (ord n s : Int)) * ((ord n s : Int) * (s : Int)) + (c % (ord n s : Int)) * (s : Int) := by
      rw [Int.add_mul]
      congr 1
      rw [Int.mul_assoc, Int.mul_left_comm]
    rw [← this, ← e]
  rw [e2, Int.add_emod, Int.mul_emod, h0, Int.mul_zero, Int.zero_emod, Int.zero_add, Int.emod_emod]
  unfold stp
  have e3 : c % (ord n s : Int) = (((c % (ord n s : Int)).toNat : Nat) : Int) := (Int.toNat_of_nonneg hr0).symm
  conv => lhs; rw [e3]
  simp
/-- does_let tells just the place -/
theorem lets_iff {n : Nat} {x p : Int} (hn : 0 < n) (h0 : 0 ≤ p) (h1 : p < n) : (x - p) % (n : Int) = 0 ↔ x % (n : Int) = p := by
  have hn' : (0 : Int) < n := by exact_mod_cast hn
  constructor
  · intro h
    have e := Int.emod_emod_of_dvd x (Int.dvd_refl (n : Int))
    have h2 : x = (n : Int) * ((x - p) / n) + p := by
      have := Int.mul_ediv_add_emod (x - p) n
      omega
    rw [h2, Int.add_comm, Int.add_mul_emod_self_left]
    exact Int.emod_eq_of_lt h0 h1
  · intro h
    have h2 := Int.mul_ediv_add_emod x n
    have h3 : x - p = (n : Int) * (x / n) := by omega
    rw [h3, Int.mul_emod_right]
/-- the stop of the loop is the order -/
theorem stop_is {n s k : Nat} (hn : 0 < n) (hk : 1 ≤ k) (hkn : k ≤ n) (hlow : ∀ i, 0 < i → i < k → stp n s i ≠ 0) (hstop : stp n s k = 0 ∨ k = n) : k = ord n s := by
  have hm := ord_pos (s := s) hn
  have hmn : ord n s ≤ n := ord_le
  have h1 : k ≤ ord n s := by
    rcases Nat.lt_or_ge (ord n s) k with h | h
    · exact absurd ((stp_zero_iff hn).mpr (Nat.dvd_refl _)) (hlow _ hm h)
    · exact h
  rcases hstop with h | h
  · have d := (stp_zero_iff hn).mp h
    have := Nat.le_of_dvd hk d
    omega
  · omega
end K1M

/-! plain mathematics for the written names -/
namespace K1N
def nAt (rs : List (Int × Int)) (j : Nat) : Nat := (rs.getD j (0, 0)).1.toNat
def sAt (rs : List (Int × Int)) (j : Nat) : Int := (rs.getD j (0, 0)).2
def row (j n : Nat) : List (Int × Int) := (List.range n).map fun (q : Nat) => ((j : Int), (q : Int))
def pre (rs : List (Int × Int)) : Nat → List (Int × Int)
  | 0 => []
  | i + 1 => pre rs i ++ row i (nAt rs i)
/-- a place that is its own written name -/
def own (rs : List (Int × Int)) (p : Int × Int) : Bool := !(decide (0 < p.1) && decide (p.2 = sAt rs p.1.toNat))
def names (rs : List (Int × Int)) : List (Int × Int) := (pre rs rs.length).filter (own rs)
def sumTo (rs : List (Int × Int)) : Nat → Nat
  | 0 => 0
  | i + 1 => sumTo rs i + nAt rs i
theorem row_succ (j n : Nat) : row j (n + 1) = row j n ++ [((j : Int), (n : Int))] := by
  unfold row
  rw [List.range_succ, List.map_append]
  rfl
theorem row_len (j n : Nat) : (row j n).length = n := by
  unfold row
  rw [List.length_map, List.length_range]
theorem pre_len {rs : List (Int × Int)} (h : ∀ j, nAt rs j ≤ 60) : ∀ i, (pre rs i).length ≤ 60 * i
  | 0 => Nat.le_refl _
  | i + 1 => by
    show (pre rs i ++ row i (nAt rs i)).length ≤ 60 * (i + 1)
    rw [List.length_append, row_len]
    have := pre_len h i
    have := h i
    omega
theorem row0 (rs : List (Int × Int)) : ∀ n, ((row 0 n).filter (own rs)).length = n
  | 0 => rfl
  | n + 1 => by
    rw [row_succ, List.filter_append, List.length_append, row0 rs n]
    have : own rs (((0 : Nat) : Int), (n : Int)) = true := rfl
    rw [List.filter_cons, if_pos this]
    rfl
theorem rowS (rs : List (Int × Int)) (j : Nat) (s : Nat) (hs : sAt rs (j + 1) = (s : Int)) : ∀ n, ((row (j + 1) n).filter (own rs)).length = if s < n then n - 1 else n
  | 0 => rfl
  | n + 1 => by
    rw [row_succ, List.filter_append, List.length_append, rowS rs j s hs n]
    by_cases c : n = s
    · have e : own rs (((j + 1 : Nat) : Int), (n : Int)) = false := by
        unfold own
        rw [show (((j + 1 : Nat) : Int)).toNat = j + 1 by omega, hs, decide_eq_true (show (0 : Int) < ((j + 1 : Nat) : Int) by omega), decide_eq_true (show (n : Int) = (s : Int) by omega)]
        rfl
      have e2 : [(((j + 1 : Nat) : Int), (n : Int))].filter (own rs) = [] := by
        rw [List.filter_cons, if_neg (show ¬ own rs (((j + 1 : Nat) : Int), (n : Int)) = true by rw [e]; decide)]
        rfl
      rw [e2, if_neg (show ¬ s < n by omega), if_pos (show s < n + 1 by omega)]
      show n + 0 = n + 1 - 1
      omega
    · have e : own rs (((j + 1 : Nat) : Int), (n : Int)) = true := by
        unfold own
        rw [show (((j + 1 : Nat) : Int)).toNat = j + 1 by omega, hs, decide_eq_false (show ¬ (n : Int) = (s : Int) by omega), Bool.and_false]
        rfl
      rw [List.filter_cons, if_pos e]
      show (if s < n then n - 1 else n) + 1 = _
      by_cases c2 : s < n
      · rw [if_pos c2, if_pos (by omega)]
        omega
      · rw [if_neg c2, if_neg (by omega)]
/-- how many written names -/
theorem count_to {rs : List (Int × Int)} (h : ∀ j, j < rs.length → 1 ≤ sAt rs j ∧ sAt rs j < (nAt rs j : Int)) : ∀ i, 1 ≤ i → i ≤ rs.length → ((pre rs i).filter (own rs)).length + i = sumTo rs i + 1
  | 0, z, _ => absurd z (by decide)
  | 1, _, h1 => by
    show (([] ++ row 0 (nAt rs 0)).filter (own rs)).length + 1 = 0 + nAt rs 0 + 1
    rw [List.nil_append, row0]
    omega
  | i + 2, _, h1 => by
    have ih := count_to h (i + 1) (by omega) (by omega)
    have hs := h (i + 1) (by omega)
    have hr := rowS rs i (sAt rs (i + 1)).toNat (by omega) (nAt rs (i + 1))
    rw [if_pos (by omega)] at hr
    show ((pre rs (i + 1) ++ row (i + 1) (nAt rs (i + 1))).filter (own rs)).length + (i + 2) = sumTo rs (i + 1) + nAt rs (i + 1) + 1
    rw [List.filter_append, List.length_append, hr]
    omega
theorem nAt_left {a b : List (Int × Int)} {j : Nat} (h : j < a.length) : nAt (a ++ b) j = nAt a j := by
  unfold nAt
  rw [List.getD_eq_getElem?_getD, List.getD_eq_getElem?_getD, List.getElem?_append_left h]
theorem nAt_right {a b : List (Int × Int)} {j : Nat} : nAt (a ++ b) (a.length + j) = nAt b j := by
  unfold nAt
  rw [List.getD_eq_getElem?_getD, List.getD_eq_getElem?_getD, List.getElem?_append_right (by omega), Nat.add_sub_cancel_left]
theorem sum_left {a b : List (Int × Int)} : ∀ i, i ≤ a.length → sumTo (a ++ b) i = sumTo a i
  | 0, _ => rfl
  | i + 1, h => by
    show sumTo (a ++ b) i + nAt (a ++ b) i = sumTo a i + nAt a i
    rw [sum_left i (by omega), nAt_left (by omega)]
theorem sum_right {a b : List (Int × Int)} : ∀ i, sumTo (a ++ b) (a.length + i) = sumTo a a.length + sumTo b i
  | 0 => by
    rw [Nat.add_zero, sum_left _ (Nat.le_refl _)]
    rfl
  | i + 1 => by
    show sumTo (a ++ b) (a.length + i) + nAt (a ++ b) (a.length + i) = sumTo a a.length + (sumTo b i + nAt b i)
    rw [sum_right i, nAt_right, Nat.add_assoc]
theorem names_joined {a b : List (Int × Int)} (ha : 1 ≤ a.length) (hb : 1 ≤ b.length) (h1 : ∀ j, j < a.length → 1 ≤ sAt a j ∧ sAt a j < (nAt a j : Int)) (h2 : ∀ j, j < b.length → 1 ≤ sAt b j ∧ sAt b j < (nAt b j : Int))
    (h3 : ∀ j, j < (a ++ b).length → 1 ≤ sAt (a ++ b) j ∧ sAt (a ++ b) j < (nAt (a ++ b) j : Int)) : (names (a ++ b)).length + 1 = (names a).length + (names b).length := by
  unfold names
  have e1 := count_to h1 a.length ha (Nat.le_refl _)
  have e2 := count_to h2 b.length hb (Nat.le_refl _)
  have e3 := count_to h3 (a ++ b).length (by rw [List.length_append]; omega) (Nat.le_refl _)
  have e4 := sum_right (a := a) (b := b) b.length
  rw [List.length_append] at e3 ⊢
  omega
end K1N

/-! enumerate over a tuple, one argument -/
namespace EnT
open PySem PySem.Spec PyProof.Rows L2
theorem made {v : Value} {o : Obj} {Hy : Heap → Prop} (B : Begins v o Hy) : Meets (Builtin.«enumerate.__new__» ⟨[.type "enumerate", v], []⟩) (fun _ R s => Hy s.heap ∧
      R (.ok (.ret (.ref (s.heap.push o).objs.size))) { s with heap := (s.heap.push o).push { cls := .type "enumerate", data := .fields #[.none, .bool false, .ref s.heap.objs.size, rawInt 0, .none, .none] } }) :=
  .of_wp fun prog w A R s z => by
    obtain ⟨hp, gs, dr, tk, os⟩ := s
    obtain ⟨z1, z2⟩ := z
    have sb := sub_enumerate
    have it1 : ∀ {A2 : Around} {E2 : Value → Shared → Prop} {Q2 : Value → Shared → Prop}, Q2 (.ref hp.objs.size) ⟨hp.push o, gs, dr, tk, os⟩ → wpAny (model prog w) A2 (pyIter v) Q2 E2 ⟨hp, gs, dr, tk, os⟩ :=
      fun y => B.iter prog w _ _ ⟨hp, gs, dr, tk, os⟩ _ z1 y
    wp_walk using it1
    refine wpAny_stack_any fun _ => wpAny_pure ?_
    split
    · rename_i c _ _ _ _ _
      cases (c == Value.type "enumerate")
      · wp_walk using it1
        exact ⟨_, rfl, z2⟩
      · wp_walk using it1
        exact ⟨_, rfl, z2⟩
    · wp_walk using it1
      exact ⟨_, rfl, z2⟩
section
variable {prog : Program} {w : World} {A : Around} {E : Value → Shared → Prop} {s : Shared}
theorem call_made {v : Value} {o : Obj} {Hy : Heap → Prop} {Q : Value → Shared → Prop} (B : Begins v o Hy) (h1 : Hy s.heap)
    (k : ∀ h2, IsEnum h2 (s.heap.objs.size + 1) s.heap.objs.size 0 .none → h2.get? s.heap.objs.size = some o → (∀ b u, s.heap.get? b = some u → h2.get? b = some u) → Q (.ref (s.heap.objs.size + 1)) { s with heap := h2 }) :
    wpAny (model prog w) A (call (.type "enumerate") [v]) Q E s := by
  refine callType_new F.called_enumerate (by decide) (F.typeCall_enumerate_1 _) (F.newCall_enumerate_1 _) (fun obj => F.args_object_init_2 obj _) F.entry_enumerate_new (made B) ⟨h1, ?_⟩
  have sz : (s.heap.push o).objs.size = s.heap.objs.size + 1 := by rw [Heap.size_push]
  show _ ∧ _
  rw [sz]
  have en := Heap.get?_push_size (s.heap.push o) (o := { cls := .type "enumerate", data := .fields #[.none, .bool false, .ref s.heap.objs.size, rawInt 0, .none, .none] }) rfl
  rw [sz] at en
  exact ⟨⟨_, en, rfl⟩, k _ en (Heap.get?_push_of_some _ (Heap.get?_push_size _ B.free)) fun b u y => Heap.get?_push_of_some _ (Heap.get?_push_of_some _ y)⟩
end
/-- the tuple at a, each item in a new pair with its number -/
def IteT (K : PySem.W.Frag) (a : Addr) : It :=
  ⟨fun i H => ∃ (ts : List V) (x : V), SqT K H a ts ∧ ts[i]? = some x, fun i H v H' => ∃ T x, v = .ref T ∧ H T = none ∧ H' = upd H T (.tup [.int (i : Nat), x]) ∧ ∀ ts, SqT K H a ts → ts[i]? = some x, fun i H => ∃ ts : List V, SqT K H a ts ∧ ts.length = i⟩
theorem tup_inj {X : Cx} {pins : List (Addr × Obj)} {σ : L2.St} {H : Hp} {s : Shared} {a : Addr} {xs ys : List V} (I : Inv X pins σ H s) (h1 : SqT X.K H a xs) (h2 : SqT X.K H a ys) : xs = ys := by
  obtain ⟨i1, r1, ⟨o1, g1, c1, n1, d1⟩, _⟩ := I.tuple h1
  obtain ⟨i2, r2, ⟨o2, g2, c2, n2, d2⟩, _⟩ := I.tuple h2
  rw [g1] at g2
  have e := Option.some.inj g2
  subst e
  rw [d1] at d2
  injection d2 with e1 _
  have e3 : i1 = i2 := by simpa using e1
  subst e3
  exact Vals.inj r1 r2
theorem turn {P : Program} {w : World} {K : PySem.W.Frag} {elts : List Expr} {kk : Nat} {tpos : Pos} (a e it : Addr) :
    Turn P w K (.Tuple elts kk tpos) (IteT K a) [e, it] e (fun i h => (∃ old, IsEnum h e it ((i : Nat) : Int) old) ∧ h.IsTupleIter it a i ∧ e ≠ it ∧ a ≠ e ∧ a ≠ it) where
  mem := by simp
  obj := fun i h st b hb => by
    obtain ⟨⟨old, he⟩, ⟨o, ho, hc, hd⟩, _⟩ := st
    rcases (show b = e ∨ b = it by simpa using hb) with z | z
    · rw [z]
      exact ⟨_, he, fun v q => nomatch q⟩
    · rw [z]
      exact ⟨o, ho, fun v q => by rw [hd] at q; cases q⟩
  keep := fun i h h' st k => by
    obtain ⟨⟨old, he⟩, ⟨o, ho, hc, hd⟩, n1, n2, n3⟩ := st
    exact ⟨⟨old, k e (by simp) _ he⟩, ⟨o, k it (by simp) _ ho, hc, hd⟩, n1, n2, n3⟩
  item := by
    intro X hP hw hK hc i pins s σ H E I hf st hg
    subst hP hw hK
    obtain ⟨⟨old, he⟩, hit, n1, n2, n3⟩ := st
    obtain ⟨xs, x, hq, hx⟩ := hg
    obtain ⟨its, rv, p, _⟩ := I.tuple hq
    obtain ⟨u, hu, ru⟩ := rv.get hx
    have hel : e < s.heap.objs.size := Heap.lt_size he
    have hil : it < s.heap.objs.size := by
      obtain ⟨_, q, _⟩ := hit
      exact Heap.lt_size q
    have hlt : i < its.toArray.size := by
      have := (List.getElem?_eq_some_iff.mp hu).1
      simpa using this
    have hh : X.A.in1.handled = none := I.ok.hd hc
    have DT := Draws.tuple (prog := X.prog) (w := X.w) hh it a n3 its.toArray
    refine wpAny_pyNext_enum_itemD DT he ⟨hit, p⟩ hlt n1 (by simp [n1, Ne.symm n2]) fun y h1 tk hy ho hst hT hsz hk => ?_
    have ey : y = u := by
      have q : its.toArray[i]? = some u := by simpa using hu
      exact Option.some.inj (hy.symm.trans q)
    subst ey
    refine ⟨_, rfl, wpAny_letOwnedTupleGo_enum (s := { s with heap := h1, toks := tk + 1 }) ho fun h2 he2 sb => ?_⟩
    have hT2 : h2.get? s.heap.objs.size = some { cls := .type "tuple", data := .seq #[.int i tk, y] } := (sb.2 _ (Nat.ne_of_gt hel)).trans hT
    have new : ObjOk X.prog X.w (upd H s.heap.objs.size (.tup [.int (i : Nat), x])) h2 s.heap.objs.size (.tup [.int (i : Nat), x]) :=
      ⟨show 2 ≤ sizeLine by decide, [.int i tk, y], .cons ⟨_, rfl⟩ (.cons ru .nil), ⟨_, hT2, rfl, _, rfl⟩⟩
    have I1 : Inv X pins σ (upd H s.heap.objs.size (.tup [.int (i : Nat), x])) { s with heap := h2, toks := tk + 1 } :=
      I.turnedNew (ch := [e, it]) (fun b ob hb q => (sb.2 b (fun z => hb (by simp [z]))).trans (hk b ob (fun z => hb (by simp [z])) (fun z => hb (by simp [z])) q)) hf (Nat.le_refl _) new
    obtain ⟨oi, g1, g2, g3⟩ := hst.1
    refine ⟨.ref s.heap.objs.size, _, I1, rfl, ⟨_, x, rfl, I.hok.fresh (Nat.le_refl _), rfl, fun ys hys => by rw [tup_inj I hys hq]; exact hx⟩, ⟨⟨y, ?_⟩, ⟨oi, (sb.2 it (Ne.symm n1)).trans g1, g2, g3⟩, n1, n2, n3⟩, fun b hb => ?_⟩
    · rw [show ((i + 1 : Nat) : Int) = (i : Int) + 1 by omega]
      exact he2
    · have hb2 : b < s.heap.objs.size := by
        rcases (show b = e ∨ b = it by simpa using hb) with z | z
        · rw [z]
          exact hel
        · rw [z]
          exact hil
      rw [upd_ne (Nat.ne_of_lt hb2)]
      exact (hf b hb).1
  done := by
    intro X hP hw hK hc i pins s σ H E I hf st hg
    subst hP hw hK
    obtain ⟨⟨old, he⟩, hit, n1, n2, n3⟩ := st
    obtain ⟨xs, hq, hx⟩ := hg
    obtain ⟨its, rv, p, _⟩ := I.tuple hq
    obtain ⟨f0, f1, f2, f3, f4, f5⟩ := hf it (by simp)
    have hl := rv.length
    have hn : its.toArray.size = i := by
      rw [List.size_toArray]
      omega
    have hh : X.A.in1.handled = none := I.ok.hd hc
    have DT := Draws.tuple (prog := X.prog) (w := X.w) hh it a n3 its.toArray
    refine wpAny_pyNext_enum_endD DT he ⟨?_, p⟩ fun h1 eb => ⟨rfl, I.turned (t' := s.toks) (fun b o hb q => eb b o hb q) f0 f1 f3 f4 f5⟩
    rw [hn]
    exact hit
  self := fun A i s Q E st h => by
    obtain ⟨⟨_, he⟩, _⟩ := st
    exact wpAny_pyIter_enum he h
def iEnumT (K : PySem.W.Frag) (ta : TA) : TI := fun σ H R => ta σ H fun vs H1 => ∃ a xs, vs = [.ref a] ∧ SqT K H1 a xs ∧ R (IteT K a) H1
theorem pi_enumT {X : Cx} {e : Expr} {ta : TA} {p pos tpos : Pos} {elts : List Expr} {kk : Nat} (hg : Gl X "enumerate") (hm : X.mg "enumerate" = none) (ha : PA X [e] ta) (hs : starEach [e] X.env = [(false, eval e X.env)] := by rfl) :
    PI X (.Tuple elts kk tpos) (.Call (.Name "enumerate" p) [e] [] pos) (iEnumT X.K ta) := by
  refine ⟨fun pins s σ H R I h => ?_⟩
  refine Call_ (ld_blt I hg hm boot_enumerate (PyProof.Rows.callWith_type1 (thn (ha.run pos pins s σ H _ I h) fun us s1 ⟨vs, H1, I1, r1, y1⟩ => ?_) hs rfl))
  obtain ⟨a, xs, ex, hq, q⟩ := y1
  subst ex
  cases r1 with
  | cons r rr =>
    cases rr
    cases r
    obtain ⟨its, rv, p2, _⟩ := I1.tuple hq
    have hal : a < s1.heap.objs.size := by
      obtain ⟨o, g, _⟩ := p2
      exact Heap.lt_size g
    refine call_made (begins_tuple a its.toArray) p2 fun h2 he hit hk => wpAny_pyIter_enum he ?_
    have I2 : Inv X pins σ H1 { s1 with heap := h2 } := I1.kept (t' := s1.toks) hk
    refine ⟨s1.heap.objs.size + 1, [s1.heap.objs.size + 1, s1.heap.objs.size], _, _, H1, rfl, I2, turn a (s1.heap.objs.size + 1) s1.heap.objs.size, ⟨⟨.none, he⟩, ⟨_, hit, rfl, rfl⟩, Nat.succ_ne_self _, Nat.ne_of_lt (Nat.lt_succ_of_lt hal), Nat.ne_of_lt hal⟩, fun b hb => ?_, q⟩
    have hle : s1.heap.objs.size ≤ b := by
      rcases (show b = s1.heap.objs.size + 1 ∨ b = s1.heap.objs.size by simpa using hb) with z | z
      · rw [z]
        exact Nat.le_add_right _ _
      · rw [z]
        exact Nat.le_refl _
    exact I1.fpOk hle (I1.hok.fresh hle)
end EnT

namespace K1
open PySem PySem.Spec PyProof.Rows L2 Evl
def topS (i : Nat) : Stmt := PySem.Challenge.pw_ringstairs_k05_whole_classes_added_and_m.main.body.getD i (.Pass ⟨0, 0, 0, 0⟩)
abbrev sIsInteger : Stmt := topS 10
abbrev nIsInteger : List Str := ["value"]
theorem scIsInteger : FnScope nIsInteger ["value"] (defScope sIsInteger) := ⟨rfl, rfl, rfl, by decide +kernel, rfl, by decide +kernel, by decide +kernel⟩
abbrev sIsBetween : Stmt := topS 11
abbrev nIsBetween : List Str := ["value", "low", "high"]
theorem scIsBetween : FnScope nIsBetween ["value", "low", "high"] (defScope sIsBetween) := ⟨rfl, rfl, rfl, by decide +kernel, rfl, by decide +kernel, by decide +kernel⟩
abbrev sIsPair : Stmt := topS 12
abbrev nIsPair : List Str := ["value"]
theorem scIsPair : FnScope nIsPair ["value"] (defScope sIsPair) := ⟨rfl, rfl, rfl, by decide +kernel, rfl, by decide +kernel, by decide +kernel⟩
abbrev sCheckInteger : Stmt := topS 13
abbrev nCheckInteger : List Str := ["value"]
theorem scCheckInteger : FnScope nCheckInteger ["value"] (defScope sCheckInteger) := ⟨rfl, rfl, rfl, by decide +kernel, rfl, by decide +kernel, by decide +kernel⟩
abbrev sCheckDigits : Stmt := topS 14
abbrev nCheckDigits : List Str := ["numbers", "number"]
theorem scCheckDigits : FnScope nCheckDigits ["numbers"] (defScope sCheckDigits) := ⟨rfl, rfl, rfl, by decide +kernel, rfl, by decide +kernel, by decide +kernel⟩
abbrev sIsRing : Stmt := topS 18
abbrev nIsRing : List Str := ["value", "places", "door"]
theorem scIsRing : FnScope nIsRing ["value"] (defScope sIsRing) := ⟨rfl, rfl, rfl, by decide +kernel, rfl, by decide +kernel, by decide +kernel⟩
abbrev sIsChain : Stmt := topS 19
abbrev nIsChain : List Str := ["value", "ring"]
theorem scIsChain : FnScope nIsChain ["value"] (defScope sIsChain) := ⟨rfl, rfl, rfl, by decide +kernel, rfl, by decide +kernel, by decide +kernel⟩
abbrev sLiesOn : Stmt := topS 20
abbrev nLiesOn : List Str := ["chain", "value", "index", "spot"]
theorem scLiesOn : FnScope nLiesOn ["chain", "value"] (defScope sLiesOn) := ⟨rfl, rfl, rfl, by decide +kernel, rfl, by decide +kernel, by decide +kernel⟩
abbrev sLiesDealt : Stmt := topS 21
abbrev nLiesDealt : List Str := ["chain", "value", "place"]
theorem scLiesDealt : FnScope nLiesDealt ["chain", "value"] (defScope sLiesDealt) := ⟨rfl, rfl, rfl, by decide +kernel, rfl, by decide +kernel, by decide +kernel⟩
abbrev sCheckChain : Stmt := topS 22
abbrev nCheckChain : List Str := ["chain"]
theorem scCheckChain : FnScope nCheckChain ["chain"] (defScope sCheckChain) := ⟨rfl, rfl, rfl, by decide +kernel, rfl, by decide +kernel, by decide +kernel⟩
abbrev sCheckDeal : Stmt := topS 23
abbrev nCheckDeal : List Str := ["chain", "deal"]
theorem scCheckDeal : FnScope nCheckDeal ["chain", "deal"] (defScope sCheckDeal) := ⟨rfl, rfl, rfl, by decide +kernel, rfl, by decide +kernel, by decide +kernel⟩
abbrev sLeftName : Stmt := topS 24
abbrev nLeftName : List Str := ["chain"]
theorem scLeftName : FnScope nLeftName ["chain"] (defScope sLeftName) := ⟨rfl, rfl, rfl, by decide +kernel, rfl, by decide +kernel, by decide +kernel⟩
abbrev sRightName : Stmt := topS 25
abbrev nRightName : List Str := ["chain"]
theorem scRightName : FnScope nRightName ["chain"] (defScope sRightName) := ⟨rfl, rfl, rfl, by decide +kernel, rfl, by decide +kernel, by decide +kernel⟩
abbrev sWrittenName : Stmt := topS 26
abbrev nWrittenName : List Str := ["chain", "place", "index", "spot"]
theorem scWrittenName : FnScope nWrittenName ["chain", "place"] (defScope sWrittenName) := ⟨rfl, rfl, rfl, by decide +kernel, rfl, by decide +kernel, by decide +kernel⟩
abbrev sCombined : Stmt := topS 27
abbrev nCombined : List Str := ["chain", "parts", "sums", "count", "deal", "place", "name"]
theorem scCombined : FnScope nCombined ["chain", "parts"] (defScope sCombined) := ⟨rfl, rfl, rfl, by decide +kernel, rfl, by decide +kernel, by decide +kernel⟩
abbrev sToldSum : Stmt := topS 28
abbrev nToldSum : List Str := ["chain", "parts", "deal"]
theorem scToldSum : FnScope nToldSum ["chain", "parts"] (defScope sToldSum) := ⟨rfl, rfl, rfl, by decide +kernel, rfl, by decide +kernel, by decide +kernel⟩
abbrev sCheckDeals : Stmt := topS 29
abbrev nCheckDeals : List Str := ["chain", "one", "other"]
theorem scCheckDeals : FnScope nCheckDeals ["chain", "one", "other"] (defScope sCheckDeals) := ⟨rfl, rfl, rfl, by decide +kernel, rfl, by decide +kernel, by decide +kernel⟩
abbrev sAdded : Stmt := topS 30
abbrev nAdded : List Str := ["chain", "one", "other"]
theorem scAdded : FnScope nAdded ["chain", "one", "other"] (defScope sAdded) := ⟨rfl, rfl, rfl, by decide +kernel, rfl, by decide +kernel, by decide +kernel⟩
abbrev sLess : Stmt := topS 31
abbrev nLess : List Str := ["chain", "one", "other"]
theorem scLess : FnScope nLess ["chain", "one", "other"] (defScope sLess) := ⟨rfl, rfl, rfl, by decide +kernel, rfl, by decide +kernel, by decide +kernel⟩
abbrev sMultiplied : Stmt := topS 32
abbrev nMultiplied : List Str := ["chain", "count", "deal"]
theorem scMultiplied : FnScope nMultiplied ["chain", "count", "deal"] (defScope sMultiplied) := ⟨rfl, rfl, rfl, by decide +kernel, rfl, by decide +kernel, by decide +kernel⟩
abbrev sAtEnds : Stmt := topS 33
abbrev nAtEnds : List Str := ["chain", "a", "b"]
theorem scAtEnds : FnScope nAtEnds ["chain", "a", "b"] (defScope sAtEnds) := ⟨rfl, rfl, rfl, by decide +kernel, rfl, by decide +kernel, by decide +kernel⟩
abbrev sLiesTold : Stmt := topS 35
abbrev nLiesTold : List Str := ["chain", "value", "place", "ring"]
theorem scLiesTold : FnScope nLiesTold ["chain", "value"] (defScope sLiesTold) := ⟨rfl, rfl, rfl, by decide +kernel, rfl, by decide +kernel, by decide +kernel⟩
abbrev sIsClass : Stmt := topS 36
abbrev nIsClass : List Str := ["chain", "value"]
theorem scIsClass : FnScope nIsClass ["chain", "value"] (defScope sIsClass) := ⟨rfl, rfl, rfl, by decide +kernel, rfl, by decide +kernel, by decide +kernel⟩
abbrev sCheckClass : Stmt := topS 37
abbrev nCheckClass : List Str := ["chain", "value"]
theorem scCheckClass : FnScope nCheckClass ["chain", "value"] (defScope sCheckClass) := ⟨rfl, rfl, rfl, by decide +kernel, rfl, by decide +kernel, by decide +kernel⟩
abbrev sClassAt : Stmt := topS 38
abbrev nClassAt : List Str := ["chain", "deal", "chips", "sums", "place", "index", "spot", "places", "ahead", "ring", "_"]
theorem scClassAt : FnScope nClassAt ["chain", "deal"] (defScope sClassAt) := ⟨rfl, rfl, rfl, by decide +kernel, rfl, by decide +kernel, by decide +kernel⟩
abbrev sClassOf : Stmt := topS 39
abbrev nClassOf : List Str := ["chain", "deal", "told"]
theorem scClassOf : FnScope nClassOf ["chain", "deal"] (defScope sClassOf) := ⟨rfl, rfl, rfl, by decide +kernel, rfl, by decide +kernel, by decide +kernel⟩
abbrev sCheckClasses : Stmt := topS 40
abbrev nCheckClasses : List Str := ["chain", "one", "other"]
theorem scCheckClasses : FnScope nCheckClasses ["chain", "one", "other"] (defScope sCheckClasses) := ⟨rfl, rfl, rfl, by decide +kernel, rfl, by decide +kernel, by decide +kernel⟩
abbrev sToldClass : Stmt := topS 41
abbrev nToldClass : List Str := ["chain", "degree", "rests", "rest", "ring"]
theorem scToldClass : FnScope nToldClass ["chain", "degree", "rests"] (defScope sToldClass) := ⟨rfl, rfl, rfl, by decide +kernel, rfl, by decide +kernel, by decide +kernel⟩
abbrev sClassSum : Stmt := topS 42
abbrev nClassSum : List Str := ["chain", "one", "other", "rests", "index", "ring"]
theorem scClassSum : FnScope nClassSum ["chain", "one", "other"] (defScope sClassSum) := ⟨rfl, rfl, rfl, by decide +kernel, rfl, by decide +kernel, by decide +kernel⟩
abbrev sClassLess : Stmt := topS 43
abbrev nClassLess : List Str := ["chain", "one", "other", "rests", "index", "ring"]
theorem scClassLess : FnScope nClassLess ["chain", "one", "other"] (defScope sClassLess) := ⟨rfl, rfl, rfl, by decide +kernel, rfl, by decide +kernel, by decide +kernel⟩
abbrev sClassWithEnds : Stmt := topS 44
abbrev nClassWithEnds : List Str := ["chain", "one", "a", "b", "rests", "place", "ring"]
theorem scClassWithEnds : FnScope nClassWithEnds ["chain", "one", "a", "b"] (defScope sClassWithEnds) := ⟨rfl, rfl, rfl, by decide +kernel, rfl, by decide +kernel, by decide +kernel⟩
abbrev sLDice : Stmt := topS 46
abbrev nLDice : List Str := ["_law_script", "_law_at", "_law_cell", "_law_great", "_law_left", "_law_mixed"]
theorem scLDice : FnScope nLDice ["_law_script", "_law_at"] (defScope sLDice) := ⟨rfl, rfl, rfl, by decide +kernel, rfl, by decide +kernel, by decide +kernel⟩
abbrev sLRoll : Stmt := topS 47
abbrev nLRoll : List Str := ["_law_dice_here", "_law_total", "_law_size", "_law_drawn", "_law_one", "_law_two"]
theorem scLRoll : FnScope nLRoll ["_law_dice_here", "_law_total"] (defScope sLRoll) := ⟨rfl, rfl, rfl, by decide +kernel, rfl, by decide +kernel, by decide +kernel⟩
abbrev sLOneOf : Stmt := topS 48
abbrev nLOneOf : List Str := ["_law_dice_here", "_law_items"]
theorem scLOneOf : FnScope nLOneOf ["_law_dice_here", "_law_items"] (defScope sLOneOf) := ⟨rfl, rfl, rfl, by decide +kernel, rfl, by decide +kernel, by decide +kernel⟩
abbrev sLCommon : Stmt := topS 49
abbrev nLCommon : List Str := ["_law_one", "_law_other"]
theorem scLCommon : FnScope nLCommon ["_law_one", "_law_other"] (defScope sLCommon) := ⟨rfl, rfl, rfl, by decide +kernel, rfl, by decide +kernel, by decide +kernel⟩
abbrev sLRing : Stmt := topS 50
abbrev nLRing : List Str := ["_law_dice_here", "_law_most", "_law_n"]
theorem scLRing : FnScope nLRing ["_law_dice_here", "_law_most"] (defScope sLRing) := ⟨rfl, rfl, rfl, by decide +kernel, rfl, by decide +kernel, by decide +kernel⟩
abbrev sLRingOf : Stmt := topS 51
abbrev nLRingOf : List Str := ["_law_dice_here", "_law_k", "_law_times", "_law_more", "_law_steps", "_law_one"]
theorem scLRingOf : FnScope nLRingOf ["_law_dice_here", "_law_k", "_law_times"] (defScope sLRingOf) := ⟨rfl, rfl, rfl, by decide +kernel, rfl, by decide +kernel, by decide +kernel⟩
abbrev sLChain : Stmt := topS 52
abbrev nLChain : List Str := ["_law_dice_here", "_law_rings", "_law_most", "_law_k", "_law_turn"]
theorem scLChain : FnScope nLChain ["_law_dice_here", "_law_rings", "_law_most"] (defScope sLChain) := ⟨rfl, rfl, rfl, by decide +kernel, rfl, by decide +kernel, by decide +kernel⟩
abbrev sLDeal : Stmt := topS 53
abbrev nLDeal : List Str := ["_law_dice_here", "_law_chain_here", "_law_most", "_law_found", "_law_j", "_law_turn"]
theorem scLDeal : FnScope nLDeal ["_law_dice_here", "_law_chain_here", "_law_most"] (defScope sLDeal) := ⟨rfl, rfl, rfl, by decide +kernel, rfl, by decide +kernel, by decide +kernel⟩
abbrev sLJoinedClass : Stmt := topS 54
abbrev nLJoinedClass : List Str := ["_law_chain_here", "_law_one", "_law_other", "_law_sign", "_law_x", "_law_j", "_law_n", "_law_s"]
theorem scLJoinedClass : FnScope nLJoinedClass ["_law_chain_here", "_law_one", "_law_other", "_law_sign"] (defScope sLJoinedClass) := ⟨rfl, rfl, rfl, by decide +kernel, rfl, by decide +kernel, by decide +kernel⟩
abbrev sLSumsRight : Stmt := topS 55
abbrev nLSumsRight : List Str := ["_law_chain_here", "_law_one", "_law_other", "_law_last", "_law_first", "_law_second", "_law_third", "_law_whole", "_law_rest", "_law_nothing", "_law_deal_here"]
theorem scLSumsRight : FnScope nLSumsRight ["_law_chain_here", "_law_one", "_law_other", "_law_last"] (defScope sLSumsRight) := ⟨rfl, rfl, rfl, by decide +kernel, rfl, by decide +kernel, by decide +kernel⟩
abbrev sLEndsRight : Stmt := topS 56
abbrev nLEndsRight : List Str := ["_law_dice_here", "_law_chain_here", "_law_deal_here", "_law_most", "_law_a", "_law_b", "_law_here", "_law_there", "_law_x", "_law_whole", "_law_turn", "_law_p", "_law_n", "_law_s"]
theorem scLEndsRight : FnScope nLEndsRight ["_law_dice_here", "_law_chain_here", "_law_deal_here"] (defScope sLEndsRight) := ⟨rfl, rfl, rfl, by decide +kernel, rfl, by decide +kernel, by decide +kernel⟩
abbrev sLaw : Stmt := topS 57
abbrev nLaw : List Str := ["_law_script", "_law_at", "_law_dice_here", "_law_chain_here", "_law_deals", "_law_turn"]
theorem scLaw : FnScope nLaw ["_law_script"] (defScope sLaw) := ⟨rfl, rfl, rfl, by decide +kernel, rfl, by decide +kernel, by decide +kernel⟩
/-- a def of the text at its place, and how its arguments bind -/
structure DefAt (K : PySem.W.Frag) (mg : Str → Option Value) (x : Str) (st : Stmt) (ps : List Str) (f : Addr) (fd : FuncData) : Prop where
  F : Fun K x x st f fd
  g : mg x = some (.ref f)
  b : Binds K fd ps []
/-- what the top has written -/
structure Txt (K : PySem.W.Frag) (mg : Str → Option Value) : Prop where
  z_abs : mg "abs" = none
  z_all : mg "all" = none
  z_bool : mg "bool" = none
  z_dict : mg "dict" = none
  z_enumerate : mg "enumerate" = none
  z_int : mg "int" = none
  z_isinstance : mg "isinstance" = none
  z_len : mg "len" = none
  z_list : mg "list" = none
  z_max : mg "max" = none
  z_min : mg "min" = none
  z_range : mg "range" = none
  z_sorted : mg "sorted" = none
  z_tuple : mg "tuple" = none
  z_zip : mg "zip" = none
  v_BOUND : ∃ t, mg "BOUND" = some (.int (10 ^ 60) t)
  v_DIGITS : ∃ t, mg "DIGITS" = some (.int 60 t)
  v_RINGS : ∃ t, mg "MOST_RINGS" = some (.int 12 t)
  v_PLACES : ∃ t, mg "MOST_PLACES" = some (.int 60 t)
  d_is_integer : ∃ f fd, DefAt K mg "is_integer" sIsInteger ["value"] f fd
  d_is_between : ∃ f fd, DefAt K mg "is_between" sIsBetween ["value", "low", "high"] f fd
  d_is_pair : ∃ f fd, DefAt K mg "is_pair" sIsPair ["value"] f fd
  d_check_integer : ∃ f fd, DefAt K mg "check_integer" sCheckInteger ["value"] f fd
  d_check_digits : ∃ f fd, DefAt K mg "check_digits" sCheckDigits ["numbers"] f fd
  d_is_ring : ∃ f fd, DefAt K mg "is_ring" sIsRing ["value"] f fd
  d_is_chain : ∃ f fd, DefAt K mg "is_chain" sIsChain ["value"] f fd
  d_lies_on : ∃ f fd, DefAt K mg "lies_on" sLiesOn ["chain", "value"] f fd
  d_lies_dealt : ∃ f fd, DefAt K mg "lies_dealt" sLiesDealt ["chain", "value"] f fd
  d_check_chain : ∃ f fd, DefAt K mg "check_chain" sCheckChain ["chain"] f fd
  d_check_deal : ∃ f fd, DefAt K mg "check_deal" sCheckDeal ["chain", "deal"] f fd
  d_left_name : ∃ f fd, DefAt K mg "left_name" sLeftName ["chain"] f fd
  d_right_name : ∃ f fd, DefAt K mg "right_name" sRightName ["chain"] f fd
  d_written_name : ∃ f fd, DefAt K mg "written_name" sWrittenName ["chain", "place"] f fd
  d_combined : ∃ f fd, DefAt K mg "combined" sCombined ["chain", "parts"] f fd
  d_told_sum : ∃ f fd, DefAt K mg "told_sum" sToldSum ["chain", "parts"] f fd
  d_check_deals : ∃ f fd, DefAt K mg "check_deals" sCheckDeals ["chain", "one", "other"] f fd
  d_added : ∃ f fd, DefAt K mg "added" sAdded ["chain", "one", "other"] f fd
  d_less : ∃ f fd, DefAt K mg "less" sLess ["chain", "one", "other"] f fd
  d_multiplied : ∃ f fd, DefAt K mg "multiplied" sMultiplied ["chain", "count", "deal"] f fd
  d_at_ends : ∃ f fd, DefAt K mg "at_ends" sAtEnds ["chain", "a", "b"] f fd
  d_lies_told : ∃ f fd, DefAt K mg "lies_told" sLiesTold ["chain", "value"] f fd
  d_is_class : ∃ f fd, DefAt K mg "is_class" sIsClass ["chain", "value"] f fd
  d_check_class : ∃ f fd, DefAt K mg "check_class" sCheckClass ["chain", "value"] f fd
  d_class_at : ∃ f fd, DefAt K mg "class_at" sClassAt ["chain", "deal"] f fd
  d_class_of : ∃ f fd, DefAt K mg "class_of" sClassOf ["chain", "deal"] f fd
  d_check_classes : ∃ f fd, DefAt K mg "check_classes" sCheckClasses ["chain", "one", "other"] f fd
  d_told_class : ∃ f fd, DefAt K mg "told_class" sToldClass ["chain", "degree", "rests"] f fd
  d_class_sum : ∃ f fd, DefAt K mg "class_sum" sClassSum ["chain", "one", "other"] f fd
  d_class_less : ∃ f fd, DefAt K mg "class_less" sClassLess ["chain", "one", "other"] f fd
  d_class_with_ends : ∃ f fd, DefAt K mg "class_with_ends" sClassWithEnds ["chain", "one", "a", "b"] f fd
  d_l_dice : ∃ f fd, DefAt K mg "_law_dice" sLDice ["_law_script", "_law_at"] f fd
  d_l_roll : ∃ f fd, DefAt K mg "_law_roll" sLRoll ["_law_dice_here", "_law_total"] f fd
  d_l_one_of : ∃ f fd, DefAt K mg "_law_one_of" sLOneOf ["_law_dice_here", "_law_items"] f fd
  d_l_common : ∃ f fd, DefAt K mg "_law_common" sLCommon ["_law_one", "_law_other"] f fd
  d_l_ring : ∃ f fd, DefAt K mg "_law_ring" sLRing ["_law_dice_here", "_law_most"] f fd
  d_l_ring_of : ∃ f fd, DefAt K mg "_law_ring_of" sLRingOf ["_law_dice_here", "_law_k", "_law_times"] f fd
  d_l_chain : ∃ f fd, DefAt K mg "_law_chain" sLChain ["_law_dice_here", "_law_rings", "_law_most"] f fd
  d_l_deal : ∃ f fd, DefAt K mg "_law_deal" sLDeal ["_law_dice_here", "_law_chain_here", "_law_most"] f fd
  d_l_joined_class : ∃ f fd, DefAt K mg "_law_joined_class" sLJoinedClass ["_law_chain_here", "_law_one", "_law_other", "_law_sign"] f fd
  d_l_sums_right : ∃ f fd, DefAt K mg "_law_sums_right" sLSumsRight ["_law_chain_here", "_law_one", "_law_other", "_law_last"] f fd
  d_l_ends_right : ∃ f fd, DefAt K mg "_law_ends_right" sLEndsRight ["_law_dice_here", "_law_chain_here", "_law_deal_here"] f fd
end K1

namespace K1
open PySem PySem.Spec PyProof.Rows L2 Evl
/-! ### great powers -/
def CPowW (i j : Int) : Prop := 0 ≤ j ∧ (Builtin.Int.intBits i : Int) * j ≤ 2 ^ 27
theorem op_powW {X : Cx} : OpR X (binaryOp .Pow) (rI CPowW fun i j => .int (i ^ j.toNat)) := opI fun _ _ _ _ _ _ _ hc q => pow_int hc.1 hc.2 q
/-! ### values that are looked at -/
/-- no int -/
inductive NotInt (K : PySem.W.Frag) (H : Hp) : V → Prop where
  | bl (b : Bool) : NotInt K H (.bl b)
  | non : NotInt K H .non
  | str (x : Str) : NotInt K H (.str x)
  | lst {a : Addr} {xs : List V} (e : H a = some (.lst xs)) : NotInt K H (.ref a)
  | tup {a : Addr} {xs : List V} (e : H a = some (.tup xs)) : NotInt K H (.ref a)
  | dK {a : Addr} {kvs : List (Key × V)} (e : H a = some (.dK kvs)) : NotInt K H (.ref a)
inductive IntB (K : PySem.W.Frag) (H : Hp) : V → Bool → Prop where
  | int (i : Int) : IntB K H (.int i) (decide (-(10 ^ 60) < i) && decide (i < 10 ^ 60))
  | no {x : V} (h : NotInt K H x) : IntB K H x false
/-- between two ints -/
inductive BtwB (K : PySem.W.Frag) (H : Hp) (lo hi : Int) : V → Bool → Prop where
  | int (i : Int) : BtwB K H lo hi (.int i) ((decide (-(10 ^ 60) < i) && decide (i < 10 ^ 60)) && (decide (lo ≤ i) && decide (i ≤ hi)))
  | no {x : V} (h : NotInt K H x) : BtwB K H lo hi x false
theorem NotInt.ty {K : PySem.W.Frag} {H : Hp} {x : V} (h : NotInt K H x) : ∃ t : Value, TyX K H x t ∧ ((PySem.W.kitOne K t (.type "int") = some false) ∨ (t = .type "bool")) := by
  cases h with
  | bl b => exact ⟨_, .base (.bl b), .inr rfl⟩
  | non => exact ⟨_, .base .non, .inl (kit_ty (by decide +kernel))⟩
  | str x => exact ⟨_, .base (.str x), .inl (kit_ty (by decide +kernel))⟩
  | lst e => exact ⟨_, .base (.lst e), .inl (kit_ty (by decide +kernel))⟩
  | tup e => exact ⟨_, .base (.tup e), .inl (kit_ty (by decide +kernel))⟩
  | dK e => exact ⟨_, .base (.dK e), .inl (kit_ty (by decide +kernel))⟩
theorem NotInt.mono {K : PySem.W.Frag} {H H' : Hp} {x : V} (e : Ex H H') (h : NotInt K H x) : NotInt K H' x := by
  cases h with
  | bl b => exact .bl b
  | non => exact .non
  | str x => exact .str x
  | lst q => exact .lst (e _ _ q)
  | tup q => exact .tup (e _ _ q)
  | dK q => exact .dK (e _ _ q)
section
variable {P : Program} {w : World} {K : PySem.W.Frag} {mg : Str → Option Value} {base : Heap}
def spIsInteger (K : PySem.W.Frag) : Sp := fun vs H Q _ => ∃ x b, vs = [x] ∧ IntB K H x b ∧ ∀ H', Ex H H' → Q (.bl b) H'
theorem ok_is_integer (T : Txt K mg) {f : Addr} {fd : FuncData} (D : DefAt K mg "is_integer" sIsInteger ["value"] f fd) : FnOk P w K mg base CX0 1 f fd ["value"] (spIsInteger K) := by
  refine D.F.ok scIsInteger (fun vs H Q E h => ?_) (fun cdv A outer s H vs Q E hr h => ?_)
  · obtain ⟨x, b, rfl, _⟩ := h
    rfl
  · obtain ⟨x, b, rfl, hb, q⟩ := h
    obtain ⟨tB, vB⟩ := T.v_BOUND
    refine ⟨_, pss_one (ps_ret (pe_and (pe_callB call_isi (by rfl) T.z_isinstance (by decide +kernel) (pa_cons (pv 0) (pa_cons (pe_bltn (v := .ty "int") (by rfl) T.z_int (by decide +kernel) rfl) pa_nil)))
      (pe_and (pe_not (pe_callB call_isi (by rfl) T.z_isinstance (by decide +kernel) (pa_cons (pv 0) (pa_cons (pe_bltn (v := .ty "bool") (by rfl) T.z_bool (by decide +kernel) rfl) pa_nil))))
      (pe_one (pe_chain op_lt op_lt (pe_un un_neg (pe_glob (v := .int (10 ^ 60)) rfl vB ⟨_, rfl⟩)) (pv 0) (pe_glob (v := .int (10 ^ 60)) rfl vB ⟨_, rfl⟩)))))), ?_⟩
    cases hb with
    | int i =>
      refine ⟨.int i, rfl, .int i, .ty "int", .type "int", .type "int", true, rfl, .ty _, .base (.int i), kit_ty (by decide +kernel), true, rfl, iteT ?_⟩
      refine ⟨.int i, rfl, .int i, .ty "bool", .type "int", .type "bool", false, rfl, .ty _, .base (.int i), kit_ty (by decide +kernel), false, rfl, true, rfl, iteT ?_⟩
      refine ⟨_, rfl, .int i, rfl, _, _, rfl, rfl, _, rfl, ite2 (fun c => ?_) (fun c => ?_)⟩
      · refine ⟨_, _, rfl, rfl, ?_⟩
        have e : decide (-(10 ^ 60) < i) = true := c
        rw [e, Bool.true_and] at q
        exact q _ (Ex.refl _)
      · have e : decide (-(10 ^ 60) < i) = false := Bool.eq_false_iff.mpr c
        rw [e, Bool.false_and] at q
        exact q _ (Ex.refl _)
    | no hn =>
      obtain ⟨t, ty, h | rfl⟩ := hn.ty
      · exact ⟨x, rfl, x, .ty "int", t, .type "int", false, rfl, .ty _, ty, h, false, rfl, iteF (q _ (Ex.refl _))⟩
      · refine ⟨x, rfl, x, .ty "int", .type "bool", .type "int", true, rfl, .ty _, ty, kit_ty (by decide +kernel), true, rfl, iteT ?_⟩
        exact ⟨x, rfl, x, .ty "bool", .type "bool", .type "bool", true, rfl, .ty _, ty, kit_ty (by decide +kernel), true, rfl, false, rfl, iteF (q _ (Ex.refl _))⟩
def spIsBetween (K : PySem.W.Frag) : Sp := fun vs H Q _ => ∃ x lo hi b, vs = [x, .int lo, .int hi] ∧ BtwB K H lo hi x b ∧ ∀ H', Ex H H' → Q (.bl b) H'
theorem ok_is_between (T : Txt K mg) {f : Addr} {fd : FuncData} (D : DefAt K mg "is_between" sIsBetween ["value", "low", "high"] f fd) : FnOk P w K mg base CX0 2 f fd ["value", "low", "high"] (spIsBetween K) := by
  refine D.F.ok scIsBetween (fun vs H Q E h => ?_) (fun cdv A outer s H vs Q E hr h => ?_)
  · obtain ⟨x, lo, hi, b, rfl, _⟩ := h
    rfl
  · obtain ⟨x, lo, hi, b, rfl, hb, q⟩ := h
    obtain ⟨f1, fd1, D1⟩ := T.d_is_integer
    refine ⟨_, pss_one (ps_ret (pe_and (pe_call (ok_is_integer T D1) hr (by rfl) D1.g D1.F.kp D1.b .nil pass0 (pa_cons (pv 0) pa_nil)) (pe_one (pe_chain op_le op_le (pv 1) (pv 0) (pv 2))))), ?_⟩
    cases hb with
    | int i =>
      refine ⟨.int i, rfl, .int i, _, rfl, .int i, fun H1 e1 => ⟨_, rfl, ite2 (fun c => ?_) (fun c => ?_)⟩⟩
      · refine ⟨.int lo, rfl, .int i, rfl, _, _, rfl, rfl, _, rfl, ?_⟩
        rw [c, Bool.true_and] at q
        refine ite2 (fun c2 => ⟨.int hi, rfl, _, _, rfl, rfl, ?_⟩) (fun c2 => ?_)
        · have e : decide (lo ≤ i) = true := c2
          rw [e, Bool.true_and] at q
          exact q _ e1
        · have e : decide (lo ≤ i) = false := Bool.eq_false_iff.mpr c2
          rw [e, Bool.false_and] at q
          exact q _ e1
      · rw [Bool.eq_false_iff.mpr c, Bool.false_and] at q
        exact q _ e1
    | no hn => exact ⟨x, rfl, x, false, rfl, .no hn, fun H1 e1 => ⟨false, rfl, iteF (q _ e1)⟩⟩
end
end K1

namespace K1
open PySem PySem.Spec PyProof.Rows L2 Evl
/-! ### the dice -/
def Dice (H : Hp) (d : Addr) : Prop := ∃ l m c : Int, H d = some (.lst [.int l, .int m, .int c])
/-- all but the dice is as it was -/
def Keep (d : Addr) (H H' : Hp) : Prop := ∀ b o, b ≠ d → H b = some o → H' b = some o
theorem Keep.refl (d : Addr) (H : Hp) : Keep d H H := fun _ _ _ h => h
theorem Keep.trans {d : Addr} {H H1 H2 : Hp} (a : Keep d H H1) (b : Keep d H1 H2) : Keep d H H2 := fun x o n h => b x o n (a x o n h)
theorem Keep.ex {d : Addr} {H H' : Hp} (e : Ex H H') : Keep d H H' := fun b o _ h => e b o h
theorem Keep.dice {d : Addr} {H : Hp} {o : HO} : Keep d H (upd H d o) := fun b u n h => by
  rw [upd_ne n]
  exact h
theorem Keep.new {d p : Addr} {H : Hp} {o : HO} (h : H p = none) : Keep d H (upd H p o) := .ex (.new h)
/-- a thing that H did not know may change -/
theorem Keep.mut {d p : Addr} {H H' : Hp} {o : HO} (e : Keep d H H') (h : H p = none) : Keep d H (upd H' p o) := fun b u n q => by
  rw [upd_ne (ne_of_none q h)]
  exact e b u n q
theorem Keep.free {d p : Addr} {H H' : Hp} (e : Keep d H H') (n : p ≠ d) (h : H' p = none) : H p = none := by
  cases q : H p with
  | none => rfl
  | some o =>
    rw [e p o n q] at h
    cases h
theorem Dice.ex {d : Addr} {H H' : Hp} (e : Ex H H') (h : Dice H d) : Dice H' d := by
  obtain ⟨l, m, c, q⟩ := h
  exact ⟨l, m, c, e _ _ q⟩
theorem Dice.upd {d p : Addr} {H : Hp} {o : HO} (n : d ≠ p) (h : Dice H d) : Dice (L2.upd H p o) d := by
  obtain ⟨l, m, c, q⟩ := h
  exact ⟨l, m, c, by rw [upd_ne n]; exact q⟩
theorem Dice.ne_new {d p : Addr} {H : Hp} (h : Dice H d) (n : H p = none) : d ≠ p := by
  obtain ⟨l, m, c, q⟩ := h
  exact ne_of_none q n
theorem Dice.ne_tup {d p : Addr} {H : Hp} {xs : List V} (h : Dice H d) (n : H p = some (.tup xs)) : p ≠ d := by
  obtain ⟨l, m, c, q⟩ := h
  exact ne_of n q (by intro z; cases z)
theorem Keep.tup {d p : Addr} {H H' : Hp} {xs : List V} (e : Keep d H H') (h : Dice H d) (n : H p = some (.tup xs)) : H' p = some (.tup xs) := e _ _ (h.ne_tup n) n
theorem wide_n {n : Int} (h : 1 ≤ n) (h2 : n ≤ 10 ^ 50) {i : Int} : CDivW i n := wide_div (b := 200) (by omega) (by omega) (by decide) (by decide)
section
variable {P : Program} {w : World} {K : PySem.W.Frag} {mg : Str → Option Value} {base : Heap}
def spRoll : Sp := fun vs H Q _ => ∃ (d : Addr) (n : Int), vs = [.ref d, .int n] ∧ Dice H d ∧ 1 ≤ n ∧ n ≤ 10 ^ 50 ∧ ∀ (r : Int) H', 0 ≤ r → r < n → Dice H' d → Keep d H H' → Q (.int r) H'
theorem ok_roll (T : Txt K mg) {f : Addr} {fd : FuncData} (D : DefAt K mg "_law_roll" sLRoll ["_law_dice_here", "_law_total"] f fd) : FnOk P w K mg base CX0 1 f fd ["_law_dice_here", "_law_total"] spRoll := by
  refine D.F.ok scLRoll (fun vs H Q E h => ?_) (fun cdv A outer s H vs Q E hr h => ?_)
  · obtain ⟨d, n, rfl, _⟩ := h
    rfl
  · obtain ⟨d, n, rfl, ⟨l, m, c, hd⟩, h1, h2, q⟩ := h
    refine ⟨_, pss_cons (ps_set (i := 2) scLRoll.nd rfl (.inl rfl) (pe_callTy call_int1 (by rfl) T.z_int (by decide +kernel) (pa_cons (pv 1) pa_nil)))
      (pss_cons (ps_if (pt_cmpR op_gt (pe_ix ix_list (pv 0) pe_int (fun _ _ => rfl)) pe_int (nomark _))
        (pss_cons (ps_set (i := 3) scLRoll.nd rfl (.inl rfl) (pe_op op_mod (pe_ix ix_list (pv 0) pe_int (fun _ _ => rfl)) (pv 2)))
        (pss_cons (ps_asg (pe_op op_fdivW (pe_ix ix_list (pv 0) pe_int (fun _ _ => rfl)) (pv 2)) (pg_sub (pv 0) pe_int set_list))
        (pss_one (ps_ret (pe_callTy call_int1 (by rfl) T.z_int (by decide +kernel) (pa_cons (pv 3) pa_nil)))))) pss_nil)
      (pss_cons (ps_asg (pe_op op_add (pe_ix ix_list (pv 0) pe_int (fun _ _ => rfl)) pe_int) (pg_sub (pv 0) pe_int set_list))
      (pss_cons (ps_set (i := 4) scLRoll.nd rfl (.inl rfl) (pe_op op_mod (pe_op op_add (pe_ix ix_list (pv 0) pe_int (fun _ _ => rfl)) (pe_op op_mul pe_int (pe_ix ix_list (pv 0) pe_int (fun _ _ => rfl)))) pe_int))
      (pss_cons (ps_set (i := 5) scLRoll.nd rfl (.inl rfl) (pe_op op_add (pe_op op_mul (pe_op op_mod (pe_op op_mul (pv 4) (pv 4)) pe_int) (pv 4)) (pe_op op_mul pe_int (pe_ix ix_list (pv 0) pe_int (fun _ _ => rfl)))))
      (pss_cons (ps_set (i := 5) scLRoll.nd rfl (.inl rfl) (pe_op op_mod (pv 5) pe_int))
      (pss_one (ps_ret (pe_callTy call_int1 (by rfl) T.z_int (by decide +kernel) (pa_cons (pe_op op_mod (pe_op op_fdiv (pv 5) pe_int) (pv 2)) pa_nil))))))))), ?_⟩
    refine ⟨.int n, rfl, .inl ⟨n, rfl, ?_⟩⟩
    have S0 : SqL K H d [.int l, .int m, .int c] := SqL.of hd
    refine ⟨.ref d, rfl, d, _, 0, .int l, rfl, rfl, S0, rfl, l, 0, rfl, rfl, _, rfl, ite2 (fun cc => ?_) (fun cc => ?_)⟩
    · refine ⟨.ref d, rfl, d, _, 0, .int l, rfl, rfl, S0, rfl, .int n, rfl, l, n, rfl, rfl, by omega, ?_⟩
      refine ⟨.ref d, rfl, d, _, 0, .int l, rfl, rfl, S0, rfl, .int n, rfl, l, n, rfl, rfl, wide_n h1 h2, .ref d, rfl, d, _, 0, 0, rfl, rfl, hd, rfl, ?_⟩
      refine ⟨_, rfl, .inl ⟨l % n, rfl, ?_⟩⟩
      exact q _ _ (Int.emod_nonneg _ (by omega)) (Int.emod_lt_of_pos _ (by omega)) ⟨_, _, _, upd_same⟩ Keep.dice
    · refine ⟨.ref d, rfl, d, _, 2, .int c, rfl, rfl, S0, rfl, c, 1, rfl, rfl, .ref d, rfl, d, _, 2, 2, rfl, rfl, hd, rfl, ?_⟩
      generalize hH1 : upd H d _ = H1
      have hd1 : H1 d = some (.lst [.int l, .int m, .int (c + 1)]) := by
        rw [← hH1]
        exact upd_same
      have k1 : Keep d H H1 := by
        rw [← hH1]
        exact Keep.dice
      have S1 : SqL K H1 d [.int l, .int m, .int (c + 1)] := SqL.of hd1
      refine ⟨.ref d, rfl, d, _, 1, .int m, rfl, rfl, S1, rfl, .ref d, rfl, d, _, 2, .int (c + 1), rfl, rfl, S1, rfl, _, _, rfl, rfl, .inl (by decide), _, _, rfl, rfl, _, _, rfl, rfl, by show (0 : Int) < _; decide, ?_⟩
      refine ⟨_, rfl, _, rfl, (m + 1000409 * (c + 1)) % 2305843009213693951, (m + 1000409 * (c + 1)) % 2305843009213693951, rfl, rfl, .inl (by constructor <;> omega), _, _, rfl, rfl, by show (0 : Int) < _; decide, _, rfl, _, (m + 1000409 * (c + 1)) % 2305843009213693951, rfl, rfl, .inr (by constructor <;> omega), ?_⟩
      refine ⟨.ref d, rfl, d, _, 2, .int (c + 1), rfl, rfl, S1, rfl, _, _, rfl, rfl, .inl (by decide), _, _, rfl, rfl, ?_⟩
      refine ⟨_, rfl, _, _, rfl, rfl, by show (0 : Int) < _; decide, ?_⟩
      refine ⟨_, rfl, _, _, rfl, rfl, ⟨by decide, by decide⟩, .int n, rfl, _, n, rfl, rfl, by omega, .inl ⟨_, rfl, ?_⟩⟩
      exact q _ _ (Int.emod_nonneg _ (by omega)) (Int.emod_lt_of_pos _ (by omega)) ⟨_, _, _, hd1⟩ k1
def spOneOf (K : PySem.W.Frag) : Sp := fun vs H Q _ => ∃ (d a : Addr) (xs : List V), vs = [.ref d, .ref a] ∧ Dice H d ∧ H a = some (.lst xs) ∧ a ≠ d ∧ 1 ≤ xs.length ∧ xs.length ≤ 1000 ∧ ∀ x H', x ∈ xs → Dice H' d → Keep d H H' → Q x H'
theorem ok_one_of (T : Txt K mg) {f : Addr} {fd : FuncData} (D : DefAt K mg "_law_one_of" sLOneOf ["_law_dice_here", "_law_items"] f fd) : FnOk P w K mg base CX0 2 f fd ["_law_dice_here", "_law_items"] (spOneOf K) := by
  refine D.F.ok scLOneOf (fun vs H Q E h => ?_) (fun cdv A outer s H vs Q E hr h => ?_)
  · obtain ⟨d, a, xs, rfl, _⟩ := h
    rfl
  · obtain ⟨d, a, xs, rfl, hd, ha, nad, h1, h2, q⟩ := h
    obtain ⟨f1, fd1, D1⟩ := T.d_l_roll
    refine ⟨_, pss_one (ps_ret (pe_ix ix_list (pv 1) (pe_call (ok_roll T D1) hr (by rfl) D1.g D1.F.kp D1.b .nil pass0 (pa_cons (pv 0) (pa_cons (pe_callB call_len_seq (by rfl) T.z_len PySem.boot_len (pa_cons (pv 1) pa_nil)) pa_nil))) (fun _ _ => rfl))), ?_⟩
    refine ⟨.ref a, rfl, .ref d, rfl, .ref a, rfl, a, xs, rfl, .inl (SqL.of ha), d, _, rfl, hd, by omega, by omega, fun r H1 r0 r1 hd1 k1 => ?_⟩
    have hx : xs[r.toNat]? = some (xs[r.toNat]'(by omega)) := List.getElem?_eq_getElem _
    refine ⟨a, xs, r, _, rfl, rfl, SqL.of (k1 _ _ nad ha), ?_, q (xs[r.toNat]'(by omega)) H1 (List.getElem_mem _) hd1 k1⟩
    exact at_of (show r = ((r.toNat : Nat) : Int) by omega) hx
/-- a drawn ring -/
def RingAt (H : Hp) (most : Int) (x : V) (n s : Int) : Prop := ∃ t, x = .ref t ∧ H t = some (.tup [.int n, .int s]) ∧ 2 ≤ n ∧ n ≤ most ∧ 1 ≤ s ∧ s < n
def spRing : Sp := fun vs H Q _ => ∃ (d : Addr) (most : Int), vs = [.ref d, .int most] ∧ Dice H d ∧ 2 ≤ most ∧ most ≤ 1000 ∧ ∀ x n s H', RingAt H' most x n s → Dice H' d → Keep d H H' → Q x H'
theorem ok_ring (T : Txt K mg) {f : Addr} {fd : FuncData} (D : DefAt K mg "_law_ring" sLRing ["_law_dice_here", "_law_most"] f fd) : FnOk P w K mg base CX0 2 f fd ["_law_dice_here", "_law_most"] spRing := by
  refine D.F.ok scLRing (fun vs H Q E h => ?_) (fun cdv A outer s H vs Q E hr h => ?_)
  · obtain ⟨d, a, rfl, _⟩ := h
    rfl
  · obtain ⟨d, most, rfl, hd, h1, h2, q⟩ := h
    obtain ⟨f1, fd1, D1⟩ := T.d_l_roll
    refine ⟨_, pss_cons (ps_set (i := 2) scLRing.nd rfl (.inl rfl) (pe_op op_add pe_int (pe_call (ok_roll T D1) hr (by rfl) D1.g D1.F.kp D1.b .nil pass0 (pa_cons (pv 0) (pa_cons (pe_op op_sub (pv 1) pe_int) pa_nil)))))
      (pss_one (ps_ret (pe_tup (pa_cons (pv 2) (pa_cons (pe_op op_add pe_int (pe_call (ok_roll T D1) hr (by rfl) D1.g D1.F.kp D1.b .nil pass0 (pa_cons (pv 0) (pa_cons (pe_op op_sub (pv 2) pe_int) pa_nil)))) pa_nil))))), ?_⟩
    refine ⟨.ref d, rfl, .int most, rfl, _, _, rfl, rfl, d, _, rfl, hd, by omega, by omega, fun r H1 r0 r1 hd1 k1 => ?_⟩
    refine ⟨2, r, rfl, rfl, _, rfl, .ref d, rfl, .int (2 + r), rfl, _, _, rfl, rfl, d, _, rfl, hd1, by omega, by omega, fun r' H2 r0' r1' hd2 k2 => ?_⟩
    refine ⟨1, r', rfl, rfl, by show 2 ≤ sizeLine; decide, fun t ht => ?_⟩
    exact q _ (2 + r) (1 + r') _ ⟨t, rfl, upd_same, by omega, by omega, by omega, by omega⟩ (hd2.upd (hd2.ne_new ht)) ((k1.trans k2).trans (Keep.new ht))
end
end K1

namespace K1
open PySem PySem.Spec PyProof.Rows L2 Evl
section
variable {P : Program} {w : World} {K : PySem.W.Frag} {mg : Str → Option Value} {base : Heap}
def spDice (K : PySem.W.Frag) : Sp := fun vs H Q _ => ∃ (a : Addr) (ns : List Int) (i : Nat), vs = [.ref a, .int i] ∧ SqL K H a (ns.map V.int) ∧ ∀ p H', H p = none → Ex H H' → Dice H' p → Q (.ref p) H'
theorem ok_dice (T : Txt K mg) {f : Addr} {fd : FuncData} (D : DefAt K mg "_law_dice" sLDice ["_law_script", "_law_at"] f fd) : FnOk P w K mg base CX0 1 f fd ["_law_script", "_law_at"] (spDice K) := by
  refine D.F.ok scLDice (fun vs H Q E h => ?_) (fun cdv A outer s H vs Q E hr h => ?_)
  · obtain ⟨d, n, i, rfl, _⟩ := h
    rfl
  · obtain ⟨a, ns, i, rfl, hS, q⟩ := h
    refine ⟨_, pss_cons (ps_set (i := 2) scLDice.nd rfl (.inl rfl) (pe_op op_add (pe_op op_mul pe_int (pv 1)) pe_int))
      (pss_cut (ps_if (pt_cmpR op_lt (pv 1) (pe_callB call_len_seq (by rfl) T.z_len PySem.boot_len (pa_cons (pv 0) pa_nil)) (nomark _))
        (pss_one (ps_set (i := 2) scLDice.nd rfl (.inl rfl) (pe_ix ix_list (pv 0) (pv 1) (fun _ _ => rfl)))) pss_nil)
      (pss_cons (ps_set (i := 3) scLDice.nd rfl (.inl rfl) (pe_op op_mod (pe_callTy call_int1 (by rfl) T.z_int (by decide +kernel) (pa_cons (pe_callB call_abs (by rfl) T.z_abs (by decide +kernel) (pa_cons (pv 2) pa_nil)) pa_nil)) (pe_op op_powW (pe_op op_pow pe_int pe_int) pe_int)))
      (pss_cons (ps_set (i := 4) scLDice.nd rfl (.inl rfl) (pe_op op_fdivW (pv 3) (pe_op op_pow pe_int pe_int)))
      (pss_cons (ps_set (i := 5) scLDice.nd rfl (.inl rfl) (pe_op op_add (pe_op op_add (pe_op op_add (pe_op op_mul (pe_op op_mod (pv 3) pe_int) pe_int) (pe_op op_mul pe_int (pv 1))) (pe_op op_mul pe_int (pe_callTy call_int1 (by rfl) T.z_int (by decide +kernel) (pa_cons (pe_cmpR op_lt (pv 2) pe_int (nomark _)) pa_nil)))) pe_int))
      (pss_one (ps_ret (pe_lst (pa_cons (pv 4) (pa_cons (pe_op op_mod (pv 5) pe_int) (pa_cons pe_int pa_nil))))))))) ), ?_⟩
    refine ⟨_, rfl, _, _, rfl, rfl, .inl (by decide), _, _, rfl, rfl, ?_⟩
    refine ⟨fun σ' H' => ∃ cell : Int, σ' = [some (.ref a), some (.int i), some (.int cell), none, none, none] ∧ H' = H, ?_, ?_⟩
    · refine ⟨_, rfl, .ref a, rfl, a, _, rfl, .inl hS, _, _, rfl, rfl, _, rfl, ite2 (fun c => ?_) (fun c => ⟨_, rfl, rfl⟩)⟩
      have c' : (i : Int) < ((ns.map V.int).length : Int) := of_decide_eq_true c
      rw [List.length_map] at c'
      have hx : (ns.map V.int)[i]? = some (.int (ns[i]'(by omega))) := by
        rw [List.getElem?_map, List.getElem?_eq_getElem (by omega)]
        rfl
      exact ⟨.ref a, rfl, _, rfl, a, _, _, _, rfl, rfl, hS, atI_nat hx, _, rfl, rfl⟩
    · rintro σ' H' ⟨cell, rfl, rfl⟩
      refine ⟨_, rfl, _, rfl, .inl ⟨_, rfl, _, _, rfl, rfl, ⟨by decide, by decide, by decide⟩, _, _, rfl, rfl, ⟨by decide, by decide +kernel⟩, _, _, rfl, rfl, by show (0 : Int) < (10 ^ Int.toNat 60) ^ Int.toNat 10; decide +kernel, ?_⟩⟩
      refine ⟨_, rfl, _, _, rfl, rfl, ⟨by decide, by decide, by decide⟩, _, _, rfl, rfl, wide_div (b := 60) (by decide +kernel) (by decide +kernel) (by decide) (by decide), ?_⟩
      refine ⟨_, rfl, _, _, rfl, rfl, by show (0 : Int) < _; decide, _, _, rfl, rfl, .inr (by decide), _, rfl, _, _, rfl, rfl, .inl (by decide), _, _, rfl, rfl, _, rfl, _, _, rfl, rfl, .inr ⟨_, rfl, _, _, rfl, rfl, .inl (by decide), _, _, rfl, rfl, _, _, rfl, rfl, ?_⟩⟩
      refine ⟨_, rfl, _, rfl, _, _, rfl, rfl, by show (0 : Int) < _; decide, by show 3 ≤ sizeLine; decide, fun p hp => ?_⟩
      exact q p _ hp (Ex.new hp) ⟨_, _, _, upd_same⟩
/-- the greatest common divisor -/
def spCommon : Sp := fun vs H Q _ => ∃ (a b : Nat), vs = [.int a, .int b] ∧ ∀ H', Ex H H' → Q (.int (Nat.gcd a b : Nat)) H'
theorem ok_common (T : Txt K mg) {f : Addr} {fd : FuncData} (D : DefAt K mg "_law_common" sLCommon ["_law_one", "_law_other"] f fd) : FnOk P w K mg base CX0 1 f fd ["_law_one", "_law_other"] spCommon := by
  refine D.F.ok scLCommon (fun vs H Q E h => ?_) (fun cdv A outer s H vs Q E hr h => ?_)
  · obtain ⟨d, n, rfl, _⟩ := h
    rfl
  · obtain ⟨a, b, rfl, q⟩ := h
    refine ⟨_, pss_cons (ps_while PassesOwn.never (pt_cmpR op_ne (pv 1) pe_int (nomark _))
        (pss_one (ps_par (i := 0) (j := 1) (by rfl) scLCommon.nd rfl rfl (by decide) rfl rfl (pa_cons (pv 1) (pa_cons (pe_op op_mod (pv 0) (pv 1)) pa_nil)) (by rfl))))
      (pss_one (ps_ret (pv 0))), ?_⟩
    refine q_while (fun m σ' H' => ∃ x y : Nat, σ' = [some (.int x), some (.int y)] ∧ m = y ∧ Nat.gcd x y = Nat.gcd a b ∧ Ex H H') b ⟨a, b, rfl, rfl, rfl, Ex.refl _⟩ (fun m σ' H' hW => ?_)
    obtain ⟨x, y, rfl, rfl, hg, e1⟩ := hW
    refine ⟨_, et_test (ev_op (ev_var (v := .int (m : Int)) rfl) ev_c (rv_ne rfl)), fun hb H1 e2 => ?_, fun hb H1 e2 => ?_⟩
    · have hy : m ≠ 0 := fun z => by
        subst z
        exact absurd hb (by decide)
      have hm : (x : Int) % (m : Int) = ((x % m : Nat) : Int) := by simp
      refine ⟨fun σ2 H2 => σ2 = [some (.int m), some (.int ((x % m : Nat) : Int))] ∧ H2 = H1, fun σ2 H2 hN => ?_, ?_⟩
      · obtain ⟨rfl, rfl⟩ := hN
        refine ⟨x % m, Nat.mod_lt _ (by omega), m, x % m, rfl, rfl, ?_, e1.trans e2⟩
        rw [← hg, Nat.gcd_comm m (x % m), ← Nat.gcd_rec, Nat.gcd_comm]
      · refine ⟨_, rfl, _, rfl, _, rfl, (x : Int), (m : Int), rfl, rfl, by omega, _, _, rfl, ?_⟩
        refine ⟨?_, rfl⟩
        show [some (V.int (m : Int)), some (V.int ((x : Int) % (m : Int)))] = _
        rw [hm]
    · have hy : m = 0 := by
        by_cases z : m = 0
        · exact z
        · exfalso
          have : (!decide (V.int (m : Int) = V.int 0)) = true := by
            rw [decide_eq_false (fun q => z (by have := V.int.inj q; omega))]
            rfl
          rw [this] at hb
          cases hb
      subst hy
      refine ⟨_, rfl, ?_⟩
      rw [Nat.gcd_zero_right] at hg
      rw [hg]
      exact q _ (e1.trans e2)
/-- a drawn ring of one order -/
def spRingOf : Sp := fun vs H Q _ => ∃ (d : Addr) (k t : Int), vs = [.ref d, .int k, .int t] ∧ Dice H d ∧ 2 ≤ k ∧ k ≤ 100 ∧ 1 ≤ t ∧ t ≤ 1000 ∧ ∀ x n s H', RingAt H' (k * t) x n s → Dice H' d → Keep d H H' → Q x H'
theorem ok_ring_of (T : Txt K mg) {f : Addr} {fd : FuncData} (D : DefAt K mg "_law_ring_of" sLRingOf ["_law_dice_here", "_law_k", "_law_times"] f fd) : FnOk P w K mg base CX0 3 f fd ["_law_dice_here", "_law_k", "_law_times"] spRingOf := by
  refine D.F.ok scLRingOf (fun vs H Q E h => ?_) (fun cdv A outer s H vs Q E hr h => ?_)
  · obtain ⟨d, n, t, rfl, _⟩ := h
    rfl
  · obtain ⟨d, k, t, rfl, hd, h1, h2, h3, h4, q⟩ := h
    obtain ⟨f1, fd1, D1⟩ := T.d_l_roll
    obtain ⟨f2, fd2, D2⟩ := T.d_l_common
    obtain ⟨f3, fd3, D3⟩ := T.d_l_one_of
    have hr1 : Room 1 _ := hr.mono (by decide)
    refine ⟨_, pss_cons (ps_set (i := 3) scLRingOf.nd rfl (.inl rfl) (pe_op op_add pe_int (pe_call (ok_roll T D1) hr1 (by rfl) D1.g D1.F.kp D1.b .nil pass0 (pa_cons (pv 0) (pa_cons (pv 2) pa_nil)))))
      (pss_cons (ps_setLc (i := 4) (own := [("_law_one", 5)]) (g := gName 5) (by rfl) scLRingOf.nd rfl rfl (sw_true rfl rfl rfl (by decide +kernel)) (pi_range2 (by rfl) T.z_range (pa_cons pe_int (pa_cons (pv 1) pa_nil)))
        (blkOk_by (N := nLRingOf) (sc := defScope sLRingOf) (by decide +kernel)) (fun _ _ _ _ _ => pg_name (i := 5) scLRingOf.nd rfl (Or.inl rfl))
        (fun _ _ _ _ _ => pts_one (pt_cmpR op_eq (pe_call (ok_common T D2) hr1 (by rfl) D2.g D2.F.kp D2.b .nil pass0 (pa_cons (pv 1) (pa_cons (pv 5) pa_nil))) pe_int (nomark _))) (fun _ _ _ _ _ => pv 5))
      (pss_one (ps_ret (pe_tup (pa_cons (pe_op op_mul (pv 1) (pv 3)) (pa_cons (pe_op op_mul (pv 3) (pe_call (ok_one_of T D3) hr (by rfl) D3.g D3.F.kp D3.b .nil pass0 (pa_cons (pv 0) (pa_cons (pv 4) pa_nil)))) pa_nil)))))), ?_⟩
    refine ⟨.ref d, rfl, .int t, rfl, d, _, rfl, hd, by omega, by omega, fun r H1 r0 r1 hd1 k1 => ?_⟩
    refine ⟨1, r, rfl, rfl, .int k, rfl, 1, k, rfl, by omega, fun Dl hD => ?_⟩
    have ndl : d ≠ Dl := hd1.ne_new hD
    have hD0 : H Dl = none := k1.free ndl.symm hD
    refine lc_range (lo := 1) (n := (k - 1).toNat) (fun i H' => ∃ js : List Int, H' Dl = some (.lst (js.map V.int)) ∧ js.length ≤ i ∧ (∀ j ∈ js, 1 ≤ j ∧ j < k) ∧ (1 ≤ i → 1 ≤ js.length) ∧ Keep d H H' ∧ Dice H' d)
      ⟨[], upd_same, Nat.le_refl _, by simp, by omega, k1.trans (Keep.new hD), hd1.upd (hd1.ne_new hD)⟩ (fun i H' hi hp => ?_) (fun H' hp => ?_)
    · obtain ⟨js, a1, a2, a3, a4, a5, a6⟩ := hp
      refine ⟨rfl, .int k, rfl, .int (1 + (i : Int)), rfl, k.toNat, 1 + i, ?_, fun H2 e2 => ?_⟩
      · show [V.int k, V.int (1 + (i : Int))] = [V.int ((k.toNat : Nat) : Int), V.int (((1 + i : Nat)) : Int)]
        rw [show ((k.toNat : Nat) : Int) = k by omega, show (((1 + i : Nat)) : Int) = 1 + (i : Int) by omega]
      · refine ⟨rfl, _, rfl, ite2 (fun c => ?_) (fun c => ?_)⟩
        · refine ⟨_, rfl, js.map V.int, e2 _ _ a1, ?_, js ++ [1 + (i : Int)], ?_, ?_, ?_, ?_, ?_, ?_⟩
          · rw [List.length_map]
            exact small1000 (by omega)
          · rw [List.map_append]
            exact upd_same
          · rw [List.length_append]
            exact Nat.add_le_add_right a2 1
          · intro j hj
            rcases List.mem_append.mp hj with hj | hj
            · exact a3 j hj
            · have := List.mem_singleton.mp hj
              omega
          · intro _
            rw [List.length_append]
            exact Nat.le_add_left _ _
          · exact (a5.trans (Keep.ex e2)).mut hD0
          · exact (a6.ex e2).upd ndl
        · refine ⟨js, e2 _ _ a1, by omega, a3, fun _ => ?_, a5.trans (Keep.ex e2), a6.ex e2⟩
          by_cases z : i = 0
          · subst z
            refine absurd ?_ c
            rw [show k.toNat.gcd (1 + 0) = 1 from Nat.gcd_one_right k.toNat]
            rfl
          · exact a4 (by omega)
    · obtain ⟨js, a1, a2, a3, a4, a5, a6⟩ := hp
      have hl : 1 ≤ js.length := a4 (by omega)
      have hb : 1 ≤ 1 + r ∧ 1 + r ≤ t := by omega
      have hkm : k * (1 + r) ≤ k * t := Int.mul_le_mul_of_nonneg_left hb.2 (by omega)
      have hk2 : 2 ≤ k * (1 + r) := by
        have := Int.mul_le_mul_of_nonneg_left hb.1 (show (0 : Int) ≤ k by omega)
        omega
      refine ⟨.int k, rfl, .int (1 + r), rfl, k, 1 + r, rfl, rfl, .inl (by constructor <;> omega), .int (1 + r), rfl, .ref d, rfl, .ref Dl, rfl, d, Dl, _, rfl, a6, a1, ndl.symm, by rw [List.length_map]; exact hl, by rw [List.length_map]; omega, fun x H2 hx hd2 k2 => ?_⟩
      obtain ⟨j, hj, rfl⟩ := List.mem_map.mp hx
      obtain ⟨j1, j2⟩ := a3 j hj
      refine ⟨1 + r, j, rfl, rfl, .inl (by constructor <;> omega), by show 2 ≤ sizeLine; decide, fun p hp => ?_⟩
      have c1 : 1 ≤ (1 + r) * j := by
        have := Int.mul_le_mul_of_nonneg_left j1 (show (0 : Int) ≤ 1 + r by omega)
        omega
      have c2 : (1 + r) * j < k * (1 + r) := by
        rw [Int.mul_comm k (1 + r)]
        exact Int.mul_lt_mul_of_pos_left j2 (by omega)
      exact q _ _ _ _ ⟨p, rfl, upd_same, hk2, hkm, c1, c2⟩ (hd2.upd (hd2.ne_new hp)) ((a5.trans k2).trans (Keep.new hp))
end
end K1

namespace K1
open PySem PySem.Spec PyProof.Rows L2 Evl
/-! ### chains -/
theorem RingAt.keep {d : Addr} {H H' : Hp} {most n s : Int} {x : V} (e : Keep d H H') (h : Dice H d) (r : RingAt H most x n s) : RingAt H' most x n s := by
  obtain ⟨t, rfl, ht, q⟩ := r
  exact ⟨t, rfl, e.tup h ht, q⟩
theorem RingAt.ex {H H' : Hp} {most n s : Int} {x : V} (e : Ex H H') (r : RingAt H most x n s) : RingAt H' most x n s := by
  obtain ⟨t, rfl, ht, q⟩ := r
  exact ⟨t, rfl, e _ _ ht, q⟩
theorem RingAt.upd {H : Hp} {most n s : Int} {x : V} {p : Addr} {o : HO} (h : ∀ t, x = .ref t → t ≠ p) (r : RingAt H most x n s) : RingAt (upd H p o) most x n s := by
  obtain ⟨t, rfl, ht, q⟩ := r
  exact ⟨t, rfl, by rw [upd_ne (h t rfl)]; exact ht, q⟩
theorem RingAt.most {H : Hp} {m m' n s : Int} {x : V} (h : m ≤ m') (r : RingAt H m x n s) : RingAt H m' x n s := by
  obtain ⟨t, rfl, ht, q1, q2, q3, q4⟩ := r
  exact ⟨t, rfl, ht, q1, by omega, q3, q4⟩
/-- rings at values, one by one -/
abbrev RingsAt (H : Hp) (most : Int) (xs : List V) (rs : List (Int × Int)) : Prop := Paired (fun x (r : Int × Int) => RingAt H most x r.1 r.2) xs rs
theorem paired_snoc {α β : Type} {R : α → β → Prop} {x : α} {y : β} (h : R x y) : ∀ {xs : List α} {ys : List β}, Paired R xs ys → Paired R (xs ++ [x]) (ys ++ [y])
  | _, _, .nil => .cons h .nil
  | _, _, .cons r t => .cons r (paired_snoc h t)
theorem paired_imp {α β : Type} {R S : α → β → Prop} (h : ∀ x y, R x y → S x y) : ∀ {xs : List α} {ys : List β}, Paired R xs ys → Paired S xs ys
  | _, _, .nil => .nil
  | _, _, .cons r t => .cons (h _ _ r) (paired_imp h t)
theorem paired_append {α β : Type} {R : α → β → Prop} : ∀ {xs xs' : List α} {ys ys' : List β}, Paired R xs ys → Paired R xs' ys' → Paired R (xs ++ xs') (ys ++ ys')
  | _, _, _, _, .nil, s => s
  | _, _, _, _, .cons r t, s => .cons r (paired_append t s)
theorem paired_get {α β : Type} {R : α → β → Prop} : ∀ {xs : List α} {ys : List β} {i : Nat} {x : α}, Paired R xs ys → xs[i]? = some x → ∃ y, ys[i]? = some y ∧ R x y
  | _, _, _, _, .nil, e => by simp at e
  | _, _, 0, _, .cons r _, e => by simp at e; subst e; exact ⟨_, rfl, r⟩
  | _, _, i + 1, x, .cons _ t, e => by
    obtain ⟨u, h1, h2⟩ := paired_get (i := i) (x := x) t (by simpa using e)
    exact ⟨u, by simpa using h1, h2⟩
theorem paired_len {α β : Type} {R : α → β → Prop} {xs : List α} {ys : List β} (h : Paired R xs ys) : xs.length = ys.length := Paired.length h
section
variable {P : Program} {w : World} {K : PySem.W.Frag} {mg : Str → Option Value} {base : Heap}
def spChain : Sp := fun vs H Q _ => ∃ (d : Addr) (g most : Int), vs = [.ref d, .int g, .int most] ∧ Dice H d ∧ 1 ≤ g ∧ g ≤ 100 ∧ 2 ≤ most ∧ most ≤ 60 ∧
  ∀ p xs rs H', H' p = some (.tup xs) → RingsAt H' most xs rs → (xs.length : Int) = g → Dice H' d → Keep d H H' → Q (.ref p) H'
/-- what stands behind i rings of the list at D -/
def ChW (d Dl : Addr) (H : Hp) (most : Int) (i : Nat) (H' : Hp) : Prop := ∃ xs rs, H' Dl = some (.lst xs) ∧ RingsAt H' most xs rs ∧ xs.length = i ∧ Keep d H H' ∧ Dice H' d
theorem ChW.turn {d Dl : Addr} {H H' H2 : Hp} {most n s : Int} {x : V} {i : Nat} (W : ChW d Dl H most i H') (ndl : d ≠ Dl) (hD0 : H Dl = none) (k : Keep d H' H2) (hd : Dice H2 d) (r : RingAt H2 most x n s) (hi : i < 1000) :
    ∃ acc, H2 Dl = some (.lst acc) ∧ acc.length < sizeLine ∧ ChW d Dl H most (i + 1) (upd H2 Dl (.lst (acc ++ [x]))) := by
  obtain ⟨xs, rs, a1, a2, a3, a4, a5⟩ := W
  have e1 : H2 Dl = some (.lst xs) := k _ _ ndl.symm a1
  have nt : ∀ {y : V} {n s : Int}, RingAt H2 most y n s → RingAt (upd H2 Dl (.lst (xs ++ [x]))) most y n s := fun {y n s} q => q.upd fun t ht => by
    obtain ⟨t', rfl, ht', _⟩ := q
    cases ht
    exact ne_of ht' e1 (by intro z; cases z)
  refine ⟨xs, e1, small1000 (by omega), xs ++ [x], rs ++ [(n, s)], upd_same, paired_snoc (R := fun x (r : Int × Int) => RingAt (upd H2 Dl (.lst (xs ++ [_]))) most x r.1 r.2) (y := (n, s)) (nt r) (paired_imp (R := fun x (r : Int × Int) => RingAt H' most x r.1 r.2) (fun y r' q => nt (q.keep k a5)) a2), ?_, (a4.trans k).mut hD0, hd.upd ndl⟩
  rw [List.length_append, a3]
  rfl
theorem ok_chain (T : Txt K mg) {f : Addr} {fd : FuncData} (D : DefAt K mg "_law_chain" sLChain ["_law_dice_here", "_law_rings", "_law_most"] f fd) : FnOk P w K mg base CX0 4 f fd ["_law_dice_here", "_law_rings", "_law_most"] spChain := by
  refine D.F.ok scLChain (fun vs H Q E h => ?_) (fun cdv A outer s H vs Q E hr h => ?_)
  · obtain ⟨d, n, t, rfl, _⟩ := h
    rfl
  · obtain ⟨d, g, most, rfl, hd, h1, h2, h3, h4, q⟩ := h
    obtain ⟨f1, fd1, D1⟩ := T.d_l_roll
    obtain ⟨f2, fd2, D2⟩ := T.d_l_ring_of
    obtain ⟨f3, fd3, D3⟩ := T.d_l_ring
    have hr1 : Room 1 _ := hr.mono (by decide)
    have hr2 : Room 2 _ := hr.mono (by decide)
    refine ⟨_, pss_cons (ps_if (pt_cmpR op_eq (pe_call (ok_roll T D1) hr1 (by rfl) D1.g D1.F.kp D1.b .nil pass0 (pa_cons (pv 0) (pa_cons pe_int pa_nil))) pe_int (nomark _))
        (pss_cons (ps_set (i := 3) scLChain.nd rfl (.inr rfl) (pe_op op_add pe_int (pe_call (ok_roll T D1) hr1 (by rfl) D1.g D1.F.kp D1.b .nil pass0 (pa_cons (pv 0) (pa_cons (pe_callB (call_min2 rfl) (by rfl) T.z_min (by decide +kernel) (pa_cons pe_int (pa_cons (pe_op op_sub (pv 2) pe_int) pa_nil))) pa_nil)))))
        (pss_one (ps_ret (pe_callTy call_tuple_of (by rfl) T.z_tuple (by decide +kernel) (pa_cons (pe_lc (own := [("_law_turn", 4)]) (g := gName 4) (tt := tYes) rfl scLChain.nd (pi_range1 (by rfl) T.z_range (pa_cons (pv 1) pa_nil))
          (blkOk_by (N := nLChain) (sc := defScope sLChain) (by decide +kernel)) (fun _ _ _ _ _ => pg_name (i := 4) scLChain.nd rfl (Or.inl rfl)) (fun _ _ _ _ _ => pts_nil)
          (fun _ _ _ _ _ => pe_call (ok_ring_of T D2) hr (by rfl) D2.g D2.F.kp D2.b .nil pass0 (pa_cons (pv 0) (pa_cons (pv 3) (pa_cons (pe_op op_fdiv (pv 2) (pv 3)) pa_nil))))) pa_nil))))) pss_nil)
      (pss_one (ps_ret (pe_callTy call_tuple_of (by rfl) T.z_tuple (by decide +kernel) (pa_cons (pe_lc (own := [("_law_turn", 4)]) (g := gName 4) (tt := tYes) rfl scLChain.nd (pi_range1 (by rfl) T.z_range (pa_cons (pv 1) pa_nil))
          (blkOk_by (N := nLChain) (sc := defScope sLChain) (by decide +kernel)) (fun _ _ _ _ _ => pg_name (i := 4) scLChain.nd rfl (Or.inl rfl)) (fun _ _ _ _ _ => pts_nil)
          (fun _ _ _ _ _ => pe_call (ok_ring T D3) hr2 (by rfl) D3.g D3.F.kp D3.b .nil pass0 (pa_cons (pv 0) (pa_cons (pv 2) pa_nil)))) pa_nil)))), ?_⟩
    refine ⟨.ref d, rfl, d, 3, rfl, hd, by omega, by omega, fun r H1 r0 r1 hd1 k1 => ?_⟩
    refine ⟨rfl, _, rfl, ite2 (fun c => ?_) (fun c => ?_)⟩
    · refine ⟨.ref d, rfl, .int most, rfl, most, 1, rfl, rfl, 3, most - 1, rfl, d, _, rfl, hd1, ?_, ?_, fun r' H2 r0' r1' hd2 k2 => ?_⟩
      · split <;> omega
      · split <;> omega
      have hk : 2 + r' ≤ most ∧ 2 + r' ≤ 4 := by
        split at r1' <;> omega
      refine ⟨2, r', rfl, rfl, .int g, rfl, g, rfl, by omega, by omega, fun Dl hD => ?_⟩
      have ndl : d ≠ Dl := hd2.ne_new hD
      have k12 := k1.trans k2
      have hD0 : H Dl = none := k12.free ndl.symm hD
      refine lc_range (lo := 0) (n := g.toNat) (ChW d Dl H most) ⟨[], [], upd_same, .nil, rfl, k12.trans (Keep.new hD), hd2.upd ndl⟩ (fun i H' hi W => ?_) (fun H' W => ?_)
      · have hd' := W.choose_spec.choose_spec.2.2.2.2
        have hq : 1 ≤ most / (2 + r') := Int.le_ediv_of_mul_le (by omega) (by omega)
        have hq2 : most / (2 + r') ≤ most := Int.ediv_le_self _ (by omega)
        have hq3 : (2 + r') * (most / (2 + r')) ≤ most := Int.mul_ediv_self_le (by omega)
        refine ⟨rfl, ?_⟩
        dsimp only [tYes]
        rw [if_pos rfl]
        refine ⟨.ref d, rfl, .int (2 + r'), rfl, .int most, rfl, .int (2 + r'), rfl, most, 2 + r', rfl, rfl, ⟨by omega, by omega⟩, d, 2 + r', most / (2 + r'), rfl, hd', by omega, by omega, hq, by omega, fun x n s H3 hx hd3 k3 => ?_⟩
        exact W.turn ndl hD0 k3 hd3 (hx.most hq3) (by omega)
      · obtain ⟨xs, rs, a1, a2, a3, a4, a5⟩ := W
        refine ⟨Dl, xs, rfl, .inl ⟨SqL.of a1, fun p hp => q p xs rs _ upd_same (paired_imp (fun y r' z => RingAt.ex (.new hp) z) a2) (by omega) (a5.upd (a5.ne_new hp)) (a4.trans (Keep.new hp))⟩⟩
    · refine ⟨.int g, rfl, g, rfl, by omega, by omega, fun Dl hD => ?_⟩
      have ndl : d ≠ Dl := hd1.ne_new hD
      have hD0 : H Dl = none := k1.free ndl.symm hD
      refine lc_range (lo := 0) (n := g.toNat) (ChW d Dl H most) ⟨[], [], upd_same, .nil, rfl, k1.trans (Keep.new hD), hd1.upd ndl⟩ (fun i H' hi W => ?_) (fun H' W => ?_)
      · have hd' := W.choose_spec.choose_spec.2.2.2.2
        refine ⟨rfl, ?_⟩
        dsimp only [tYes]
        rw [if_pos rfl]
        refine ⟨.ref d, rfl, .int most, rfl, d, most, rfl, hd', by omega, by omega, fun x n s H3 hx hd3 k3 => ?_⟩
        exact W.turn ndl hD0 k3 hd3 hx (by omega)
      · obtain ⟨xs, rs, a1, a2, a3, a4, a5⟩ := W
        refine ⟨Dl, xs, rfl, .inl ⟨SqL.of a1, fun p hp => q p xs rs _ upd_same (paired_imp (fun y r' z => RingAt.ex (.new hp) z) a2) (by omega) (a5.upd (a5.ne_new hp)) (a4.trans (Keep.new hp))⟩⟩
end
end K1

namespace K1
open PySem PySem.Spec PyProof.Rows L2 Evl
/-! ### judges of rings and chains -/
/-- no tuple -/
inductive NotTup (K : PySem.W.Frag) (H : Hp) : V → Prop where
  | bl (b : Bool) : NotTup K H (.bl b)
  | non : NotTup K H .non
  | int (i : Int) : NotTup K H (.int i)
  | str (x : Str) : NotTup K H (.str x)
  | lst {a : Addr} {xs : List V} (e : H a = some (.lst xs)) : NotTup K H (.ref a)
  | dK {a : Addr} {kvs : List (Key × V)} (e : H a = some (.dK kvs)) : NotTup K H (.ref a)
theorem NotTup.ty {K : PySem.W.Frag} {H : Hp} {x : V} (h : NotTup K H x) : ∃ t : Value, TyX K H x t ∧ PySem.W.kitOne K t (.type "tuple") = some false := by
  cases h with
  | bl b => exact ⟨_, .base (.bl b), (kit_ty (by decide +kernel))⟩
  | non => exact ⟨_, .base .non, (kit_ty (by decide +kernel))⟩
  | int x => exact ⟨_, .base (.int x), (kit_ty (by decide +kernel))⟩
  | str x => exact ⟨_, .base (.str x), (kit_ty (by decide +kernel))⟩
  | lst e => exact ⟨_, .base (.lst e), (kit_ty (by decide +kernel))⟩
  | dK e => exact ⟨_, .base (.dK e), (kit_ty (by decide +kernel))⟩
theorem NotTup.mono {K : PySem.W.Frag} {H H' : Hp} {x : V} (e : Ex H H') (h : NotTup K H x) : NotTup K H' x := by
  cases h with
  | bl b => exact .bl b
  | non => exact .non
  | int x => exact .int x
  | str x => exact .str x
  | lst q => exact .lst (e _ _ q)
  | dK q => exact .dK (e _ _ q)
theorem BtwB.mono {K : PySem.W.Frag} {H H' : Hp} {lo hi : Int} {x : V} {b : Bool} (e : Ex H H') (h : BtwB K H lo hi x b) : BtwB K H' lo hi x b := by
  cases h with
  | int i => exact .int i
  | no h => exact .no (h.mono e)
theorem BtwB.yes {K : PySem.W.Frag} {H : Hp} {lo hi i : Int} (h1 : lo ≤ i) (h2 : i ≤ hi) (h3 : -(10 ^ 60) < i) (h4 : i < 10 ^ 60) : BtwB K H lo hi (.int i) true := by
  have := BtwB.int (K := K) (H := H) (lo := lo) (hi := hi) i
  rw [decide_eq_true h1, decide_eq_true h2, decide_eq_true h3, decide_eq_true h4] at this
  exact this
theorem BtwB.out {K : PySem.W.Frag} {H : Hp} {lo hi i : Int} (h1 : ¬ (lo ≤ i ∧ i ≤ hi)) : BtwB K H lo hi (.int i) false := by
  have := BtwB.int (K := K) (H := H) (lo := lo) (hi := hi) i
  have e : (decide (lo ≤ i) && decide (i ≤ hi)) = false := by
    by_cases c : lo ≤ i
    · have c2 : ¬ i ≤ hi := fun z => h1 ⟨c, z⟩
      rw [decide_eq_false c2, Bool.and_false]
    · rw [decide_eq_false c, Bool.false_and]
  rw [e, Bool.and_false] at this
  exact this
inductive PairB (K : PySem.W.Frag) (H : Hp) : V → Bool → Prop where
  | no {x : V} (h : NotTup K H x) : PairB K H x false
  | tup {a : Addr} {xs : List V} (e : H a = some (.tup xs)) : PairB K H (.ref a) (decide (xs.length = 2))
inductive RingB (K : PySem.W.Frag) (H : Hp) : V → Bool → Prop where
  | no {x : V} (h : NotTup K H x) : RingB K H x false
  | len {a : Addr} {xs : List V} (e : H a = some (.tup xs)) (h : xs.length ≠ 2) : RingB K H (.ref a) false
  | first {a : Addr} {x y : V} (e : H a = some (.tup [x, y])) (h : BtwB K H 2 60 x false) : RingB K H (.ref a) false
  | both {a : Addr} {n : Int} {y : V} {b : Bool} (e : H a = some (.tup [.int n, y])) (h1 : 2 ≤ n) (h2 : n ≤ 60) (h : BtwB K H 1 (n - 1) y b) : RingB K H (.ref a) b
theorem RingB.mono {K : PySem.W.Frag} {H H' : Hp} {x : V} {b : Bool} (e : Ex H H') (h : RingB K H x b) : RingB K H' x b := by
  cases h with
  | no h => exact .no (h.mono e)
  | len q h => exact .len (e _ _ q) h
  | first q h => exact .first (e _ _ q) (h.mono e)
  | both q h1 h2 h => exact .both (e _ _ q) h1 h2 (h.mono e)
inductive ChainB (K : PySem.W.Frag) (H : Hp) : V → Bool → Prop where
  | no {x : V} (h : NotTup K H x) : ChainB K H x false
  | len {a : Addr} {xs : List V} (e : H a = some (.tup xs)) (h : ¬ (1 ≤ xs.length ∧ xs.length ≤ 12)) : ChainB K H (.ref a) false
  | tup {a : Addr} {xs : List V} {bs : List Bool} (e : H a = some (.tup xs)) (h : 1 ≤ xs.length ∧ xs.length ≤ 12) (hb : Paired (RingB K H) xs bs) : ChainB K H (.ref a) (bs.all id)
theorem RingAt.ring {K : PySem.W.Frag} {H : Hp} {most n s : Int} {x : V} (h : RingAt H most x n s) (hm : most ≤ 60) : RingB K H x true := by
  obtain ⟨t, rfl, ht, h1, h2, h3, h4⟩ := h
  exact .both ht h1 (by omega) (.yes h3 (by omega) (by omega) (by omega))
section
variable {P : Program} {w : World} {K : PySem.W.Frag} {mg : Str → Option Value} {base : Heap}
def spIsPair (K : PySem.W.Frag) : Sp := fun vs H Q _ => ∃ x b, vs = [x] ∧ PairB K H x b ∧ ∀ H', Ex H H' → Q (.bl b) H'
theorem ok_is_pair (T : Txt K mg) {f : Addr} {fd : FuncData} (D : DefAt K mg "is_pair" sIsPair ["value"] f fd) : FnOk P w K mg base CX0 1 f fd ["value"] (spIsPair K) := by
  refine D.F.ok scIsPair (fun vs H Q E h => ?_) (fun cdv A outer s H vs Q E hr h => ?_)
  · obtain ⟨x, b, rfl, _⟩ := h
    rfl
  · obtain ⟨x, b, rfl, hb, q⟩ := h
    refine ⟨_, pss_one (ps_ret (pe_and (pe_callB call_isi (by rfl) T.z_isinstance (by decide +kernel) (pa_cons (pv 0) (pa_cons (pe_bltn (v := .ty "tuple") (by rfl) T.z_tuple (by decide +kernel) rfl) pa_nil)))
      (pe_one (pe_cmpR op_eq (pe_callB call_len (by rfl) T.z_len PySem.boot_len (pa_cons (pv 0) pa_nil)) pe_int (nomark _))))), ?_⟩
    cases hb with
    | no hn =>
      obtain ⟨t, ty, h⟩ := hn.ty
      exact ⟨x, rfl, x, .ty "tuple", t, .type "tuple", false, rfl, .ty _, ty, h, false, rfl, iteF (q _ (Ex.refl _))⟩
    | @tup a xs e =>
      refine ⟨_, rfl, .ref a, .ty "tuple", .type "tuple", .type "tuple", true, rfl, .ty _, .base (.tup e), kit_ty (by decide +kernel), true, rfl, iteT ?_⟩
      refine ⟨_, rfl, _, xs.length, rfl, .inr ⟨_, SqT.of e, rfl⟩, rfl, ?_⟩
      have e2 : decide (V.int (xs.length : Int) = V.int 2) = decide (xs.length = 2) := by
        by_cases c : xs.length = 2
        · rw [c]
          rfl
        · rw [decide_eq_false c, decide_eq_false (fun z => c (by have := V.int.inj z; omega))]
      rw [e2]
      exact q _ (Ex.refl _)
def spIsRing (K : PySem.W.Frag) : Sp := fun vs H Q _ => ∃ x b, vs = [x] ∧ RingB K H x b ∧ ∀ H', Ex H H' → Q (.bl b) H'
theorem ok_is_ring (T : Txt K mg) {f : Addr} {fd : FuncData} (D : DefAt K mg "is_ring" sIsRing ["value"] f fd) : FnOk P w K mg base CX0 3 f fd ["value"] (spIsRing K) := by
  refine D.F.ok scIsRing (fun vs H Q E h => ?_) (fun cdv A outer s H vs Q E hr h => ?_)
  · obtain ⟨x, b, rfl, _⟩ := h
    rfl
  · obtain ⟨x, b, rfl, hb, q⟩ := h
    obtain ⟨f1, fd1, D1⟩ := T.d_is_pair
    obtain ⟨f2, fd2, D2⟩ := T.d_is_between
    obtain ⟨tM, vM⟩ := T.v_PLACES
    have hr1 : Room 1 _ := hr.mono (by decide)
    refine ⟨_, pss_cons (ps_if (pt_not (pt_val (pe_call (ok_is_pair T D1) hr1 (by rfl) D1.g D1.F.kp D1.b .nil pass0 (pa_cons (pv 0) pa_nil)))) (pss_one (ps_ret pe_bl)) pss_nil)
      (pss_cons (ps_asg (pv 0) (pg_tup (by rfl) (pgs_cons (pg_name (i := 1) scIsRing.nd rfl (.inl rfl)) (pgs_cons (pg_name (i := 2) scIsRing.nd rfl (.inl rfl)) pgs_nil))))
      (pss_one (ps_ret (pe_and (pe_call (ok_is_between T D2) hr (by rfl) D2.g D2.F.kp D2.b .nil pass0 (pa_cons (pv 1) (pa_cons pe_int (pa_cons (pe_glob (v := .int 60) rfl vM ⟨_, rfl⟩) pa_nil))))
        (pe_one (pe_call (ok_is_between T D2) hr (by rfl) D2.g D2.F.kp D2.b .nil pass0 (pa_cons (pv 2) (pa_cons pe_int (pa_cons (pe_op op_sub (pv 1) pe_int) pa_nil))))))))), ?_⟩
    cases hb with
    | no h => exact ⟨x, rfl, x, false, rfl, .no h, fun H1 e1 => ⟨false, rfl, iteT (q _ e1)⟩⟩
    | @len a xs e h => exact ⟨_, rfl, .ref a, false, rfl, by have := PairB.tup (K := K) e; rw [decide_eq_false h] at this; exact this, fun H1 e1 => ⟨false, rfl, iteT (q _ e1)⟩⟩
    | @first a x y e h =>
      refine ⟨_, rfl, .ref a, true, rfl, .tup e, fun H1 e1 => ⟨true, rfl, iteF ?_⟩⟩
      refine ⟨_, rfl, a, [x, y], rfl, SqT.of (e1 _ _ e), rfl, x, [y], rfl, y, [], rfl, rfl, ?_⟩
      exact ⟨x, rfl, x, 2, 60, false, rfl, h.mono e1, fun H2 e2 => ⟨false, rfl, iteF (q _ (e1.trans e2))⟩⟩
    | @both a n y b e h1 h2 h =>
      refine ⟨_, rfl, .ref a, true, rfl, .tup e, fun H1 e1 => ⟨true, rfl, iteF ?_⟩⟩
      refine ⟨_, rfl, a, [.int n, y], rfl, SqT.of (e1 _ _ e), rfl, .int n, [y], rfl, y, [], rfl, rfl, ?_⟩
      refine ⟨.int n, rfl, .int n, 2, 60, true, rfl, .yes h1 h2 (by omega) (by omega), fun H2 e2 => ⟨true, rfl, iteT ?_⟩⟩
      exact ⟨y, rfl, .int n, rfl, n, 1, rfl, rfl, y, 1, n - 1, b, rfl, h.mono (e1.trans e2), fun H3 e3 => q _ ((e1.trans e2).trans e3)⟩
def spIsChain (K : PySem.W.Frag) : Sp := fun vs H Q _ => ∃ x b, vs = [x] ∧ ChainB K H x b ∧ ∀ H', Ex H H' → Q (.bl b) H'
theorem ok_is_chain (T : Txt K mg) {f : Addr} {fd : FuncData} (D : DefAt K mg "is_chain" sIsChain ["value"] f fd) : FnOk P w K mg base CX0 4 f fd ["value"] (spIsChain K) := by
  refine D.F.ok scIsChain (fun vs H Q E h => ?_) (fun cdv A outer s H vs Q E hr h => ?_)
  · obtain ⟨x, b, rfl, _⟩ := h
    rfl
  · obtain ⟨x, b, rfl, hb, q⟩ := h
    obtain ⟨f1, fd1, D1⟩ := T.d_is_ring
    obtain ⟨tM, vM⟩ := T.v_RINGS
    refine ⟨_, pss_cons (ps_if (PW.pt (pw_or (pt_not (pt_val (pe_callB call_isi (by rfl) T.z_isinstance (by decide +kernel) (pa_cons (pv 0) (pa_cons (pe_bltn (v := .ty "tuple") (by rfl) T.z_tuple (by decide +kernel) rfl) pa_nil)))))
        (pw_or1 (pt_not (pt_chain op_le op_le pe_int (pe_callB call_len (by rfl) T.z_len PySem.boot_len (pa_cons (pv 0) pa_nil)) (pe_glob (v := .int 12) rfl vM ⟨_, rfl⟩)))))) (pss_one (ps_ret pe_bl)) pss_nil)
      (pss_one (ps_ret (pe_callB (cr_all rfl) (by rfl) T.z_all (by decide +kernel) (pa_cons (pe_lc (own := [("ring", 1)]) (g := gName 1) (tt := tYes) rfl scIsChain.nd (pi_tup (pv 0))
          (blkOk_by (N := nIsChain) (sc := defScope sIsChain) (by decide +kernel)) (fun _ _ _ _ _ => pg_name (i := 1) scIsChain.nd rfl (Or.inl rfl)) (fun _ _ _ _ _ => pts_nil)
          (fun _ _ _ _ _ => pe_call (ok_is_ring T D1) hr (by rfl) D1.g D1.F.kp D1.b .nil pass0 (pa_cons (pv 1) pa_nil))) pa_nil)))), ?_⟩
    cases hb with
    | no hn =>
      obtain ⟨t, ty, h⟩ := hn.ty
      exact ⟨x, rfl, x, .ty "tuple", t, .type "tuple", false, rfl, .ty _, ty, h, false, rfl, iteT (iteT (q _ (Ex.refl _)))⟩
    | @len a xs e h =>
      refine ⟨_, rfl, .ref a, .ty "tuple", .type "tuple", .type "tuple", true, rfl, .ty _, .base (.tup e), kit_ty (by decide +kernel), true, rfl, iteF ?_⟩
      refine ⟨_, rfl, _, xs.length, rfl, .inr ⟨_, SqT.of e, rfl⟩, _, _, rfl, rfl, _, rfl, ite2 (fun c => ?_) (fun c => ?_)⟩
      · refine ⟨_, _, rfl, rfl, _, rfl, ?_⟩
        have c2 : ¬ ((xs.length : Int) ≤ 12) := fun z => h ⟨by have : (1 : Int) ≤ (xs.length : Int) := of_decide_eq_true c; omega, by omega⟩
        rw [decide_eq_false c2]
        exact iteT (q _ (Ex.refl _))
      · exact ⟨_, rfl, iteT (q _ (Ex.refl _))⟩
    | @tup a xs bs e h hb =>
      refine ⟨_, rfl, .ref a, .ty "tuple", .type "tuple", .type "tuple", true, rfl, .ty _, .base (.tup e), kit_ty (by decide +kernel), true, rfl, iteF ?_⟩
      refine ⟨_, rfl, _, xs.length, rfl, .inr ⟨_, SqT.of e, rfl⟩, _, _, rfl, rfl, _, rfl, ite2 (fun c => ?_) (fun c => ?_)⟩
      · refine ⟨_, _, rfl, rfl, _, rfl, ?_⟩
        rw [decide_eq_true (show (xs.length : Int) ≤ 12 by omega)]
        refine iteF ?_
        refine ⟨_, rfl, a, rfl, ⟨_, SqT.of e⟩, fun Dl hD => ?_⟩
        refine lc_tup (K := K) (a := a) (xs := xs) (fun i H' => H' Dl = some (.lst ((bs.take i).map V.bl)) ∧ Ex H H') ⟨upd_same, Ex.new hD⟩ (fun i H' _ hp => SqT.of (hp.2 _ _ e)) (fun i x H' hx hp => ?_) (fun H' hp => ?_)
        · obtain ⟨y, hy, hR⟩ := paired_get hb hx
          refine ⟨rfl, ?_⟩
          dsimp only [tYes]
          rw [if_pos rfl]
          refine ⟨x, rfl, x, y, rfl, hR.mono hp.2, fun H2 e2 => ⟨_, e2 _ _ hp.1, ?_, ?_, ?_⟩⟩
          · have := (List.getElem?_eq_some_iff.mp hx).1
            rw [List.length_map, List.length_take]
            exact small1000 (Nat.le_trans (Nat.min_le_left _ _) (by omega))
          · rw [upd_same, List.take_add_one, hy, List.map_append]
            rfl
          · exact Ex.mut (hp.2.trans e2) hD
        · refine ⟨Dl, bs, rfl, ?_, q _ hp.2⟩
          have e3 : bs.take xs.length = bs := List.take_of_length_le (by rw [paired_len hb]; exact Nat.le_refl _)
          have h1 := hp.1
          rw [e3] at h1
          exact SqL.of h1
      · exact absurd (decide_eq_true (show (1 : Int) ≤ (xs.length : Int) by omega)) c
end
end K1

namespace K1
open PySem PySem.Spec PyProof.Rows L2 Evl
/-! ### orders and diagonals -/
section
variable {P : Program} {w : World} {K : PySem.W.Frag} {mg : Str → Option Value} {base : Heap}
def spCheckInteger (K : PySem.W.Frag) : Sp := fun vs H Q _ => ∃ i : Int, vs = [.int i] ∧ -(10 ^ 60) < i ∧ i < 10 ^ 60 ∧ ∀ H', Ex H H' → Q .non H'
theorem ok_check_integer (T : Txt K mg) {f : Addr} {fd : FuncData} (D : DefAt K mg "check_integer" sCheckInteger ["value"] f fd) : FnOk P w K mg base CX0 2 f fd ["value"] (spCheckInteger K) := by
  refine D.F.ok scCheckInteger (fun vs H Q E h => ?_) (fun cdv A outer s H vs Q E hr h => ?_)
  · obtain ⟨x, rfl, _⟩ := h
    rfl
  · obtain ⟨i, rfl, h1, h2, q⟩ := h
    obtain ⟨f1, fd1, D1⟩ := T.d_is_integer
    refine ⟨_, pss_one (ps_if (pt_not (pt_val (pe_call (ok_is_integer T D1) hr (by rfl) D1.g D1.F.kp D1.b .nil pass0 (pa_cons (pv 0) pa_nil)))) pss_never pss_nil), ?_⟩
    refine ⟨_, rfl, .int i, true, rfl, ?_, fun H1 e1 => ⟨true, rfl, iteF (q _ e1)⟩⟩
    have := IntB.int (K := K) (H := H) i
    rw [decide_eq_true h1, decide_eq_true h2] at this
    exact this
def spCheckRing (K : PySem.W.Frag) : Sp := fun vs H Q _ => ∃ x, vs = [x] ∧ RingB K H x true ∧ ∀ H', Ex H H' → Q .non H'
def spCheckChain (K : PySem.W.Frag) : Sp := fun vs H Q _ => ∃ x, vs = [x] ∧ ChainB K H x true ∧ ∀ H', Ex H H' → Q .non H'
theorem ok_check_chain (T : Txt K mg) {f : Addr} {fd : FuncData} (D : DefAt K mg "check_chain" sCheckChain ["chain"] f fd) : FnOk P w K mg base CX0 5 f fd ["chain"] (spCheckChain K) := by
  refine D.F.ok scCheckChain (fun vs H Q E h => ?_) (fun cdv A outer s H vs Q E hr h => ?_)
  · obtain ⟨x, rfl, _⟩ := h
    rfl
  · obtain ⟨x, rfl, hb, q⟩ := h
    obtain ⟨f1, fd1, D1⟩ := T.d_is_chain
    refine ⟨_, pss_one (ps_if (pt_not (pt_val (pe_call (ok_is_chain T D1) hr (by rfl) D1.g D1.F.kp D1.b .nil pass0 (pa_cons (pv 0) pa_nil)))) pss_never pss_nil), ?_⟩
    exact ⟨_, rfl, x, true, rfl, hb, fun H1 e1 => ⟨true, rfl, iteF (q _ e1)⟩⟩
def spOrderOf : Sp := fun vs H Q _ => ∃ x n s, vs = [x] ∧ RingAt H 60 x n s ∧ ∀ H', Ex H H' → Q (.int (K1M.ord n.natAbs s.natAbs : Nat)) H'
def spLets : Sp := fun vs H Q _ => ∃ x n s p c, vs = [x, .int p, .int c] ∧ RingAt H 60 x n s ∧ ∀ H', Ex H H' → Q (.bl (decide ((c * s - p) % n = 0))) H'
def spDoesLet : Sp := fun vs H Q _ => ∃ x n s p c, vs = [x, .int p, .int c] ∧ RingAt H 60 x n s ∧ 0 ≤ p ∧ p < n ∧ -(10 ^ 60) < c ∧ c < 10 ^ 60 ∧ ∀ H', Ex H H' → Q (.bl (decide ((c * s) % n = p))) H'
end
end K1

namespace K1
open PySem PySem.Spec PyProof.Rows L2 Evl K1N
/-! ### written names -/
theorem eqv_pair (a b c d : Int) : PyData.eqv (.tuple [.int a, .int b]) (.tuple [.int c, .int d]) = (a == c && b == d) := by
  simp [PyData.eqv, PyData.eqvAll]
def PlaceAt (H : Hp) (x : V) (p : Int × Int) : Prop := ∃ t, x = .ref t ∧ H t = some (.tup [.int p.1, .int p.2])
theorem PlaceAt.ex {H H' : Hp} {x : V} {p : Int × Int} (e : Ex H H') (h : PlaceAt H x p) : PlaceAt H' x p := by
  obtain ⟨t, rfl, ht⟩ := h
  exact ⟨t, rfl, e _ _ ht⟩
theorem PlaceAt.updL {H : Hp} {x : V} {p : Int × Int} {D : Addr} {ys zs : List V} (hD : H D = some (.lst ys)) (h : PlaceAt H x p) : PlaceAt (upd H D (.lst zs)) x p := by
  obtain ⟨t, rfl, ht⟩ := h
  exact ⟨t, rfl, by rw [upd_ne (ne_of ht hD (by intro z; cases z))]; exact ht⟩
abbrev Places (H : Hp) (xs : List V) (ps : List (Int × Int)) : Prop := Paired (PlaceAt H) xs ps
theorem Places.ex {H H' : Hp} {xs : List V} {ps : List (Int × Int)} (e : Ex H H') (h : Places H xs ps) : Places H' xs ps := paired_imp (fun _ _ q => PlaceAt.ex e q) h
theorem Places.updL {H : Hp} {xs : List V} {ps : List (Int × Int)} {D : Addr} {ys zs : List V} (hD : H D = some (.lst ys)) (h : Places H xs ps) : Places (upd H D (.lst zs)) xs ps := paired_imp (fun _ _ q => PlaceAt.updL hD q) h
/-- what the rings of a chain are, by number -/
theorem rings_nth {H : Hp} {most : Int} {xs : List V} {rs : List (Int × Int)} (h : RingsAt H most xs rs) {j : Nat} (hj : j < rs.length) : ∃ x, xs[j]? = some x ∧ RingAt H most x (nAt rs j : Int) (sAt rs j) := by
  have hl := paired_len h
  have hx : xs[j]? = some (xs[j]'(by omega)) := List.getElem?_eq_getElem _
  obtain ⟨r, hr, q⟩ := paired_get h hx
  have e : rs.getD j (0, 0) = r := by rw [List.getD_eq_getElem?_getD, hr]; rfl
  obtain ⟨t, e1, e2, e3, e4, e5, e6⟩ := id q
  refine ⟨_, hx, ?_⟩
  unfold nAt sAt
  rw [e, show ((r.1.toNat : Nat) : Int) = r.1 by omega]
  exact q
theorem rings_ok {H : Hp} {most : Int} {xs : List V} {rs : List (Int × Int)} (h : RingsAt H most xs rs) (j : Nat) (hj : j < rs.length) : 1 ≤ sAt rs j ∧ sAt rs j < (nAt rs j : Int) := by
  obtain ⟨x, _, t, _, _, _, _, e5, e6⟩ := rings_nth h hj
  exact ⟨e5, e6⟩
theorem rings_n {H : Hp} {xs : List V} {rs : List (Int × Int)} (h : RingsAt H 60 xs rs) (j : Nat) : nAt rs j ≤ 60 := by
  by_cases hj : j < rs.length
  · obtain ⟨x, _, t, _, _, _, e4, _⟩ := rings_nth h hj
    omega
  · unfold nAt
    rw [List.getD_eq_getElem?_getD, List.getElem?_eq_none (by omega)]
    decide
theorem rings_chain {K : PySem.W.Frag} {H : Hp} {a : Addr} {xs : List V} {rs : List (Int × Int)} (h : RingsAt H 60 xs rs) (ha : H a = some (.tup xs)) (h1 : 1 ≤ xs.length) (h2 : xs.length ≤ 12) : ChainB K H (.ref a) true := by
  have p : ∀ {xs : List V} {rs : List (Int × Int)}, RingsAt H 60 xs rs → Paired (RingB K H) xs (List.replicate xs.length true) := by
    intro xs rs h
    induction h with
    | nil => exact .nil
    | cons r _ ih => exact .cons (RingAt.ring r (Int.le_refl _)) ih
  have q := ChainB.tup (K := K) ha ⟨h1, h2⟩ (p h)
  have e : (List.replicate xs.length true).all id = true := by simp
  rw [e] at q
  exact q
theorem pre_in (rs : List (Int × Int)) : ∀ (i : Nat) {p : Int × Int}, p ∈ pre rs i → 0 ≤ p.1 ∧ p.1 < (i : Int)
  | 0, p, h => by cases h
  | i + 1, p, h => by
    rcases List.mem_append.mp h with h | h
    · have := pre_in rs i h
      omega
    · unfold row at h
      obtain ⟨q, _, rfl⟩ := List.mem_map.mp h
      show 0 ≤ (i : Int) ∧ (i : Int) < ((i + 1 : Nat) : Int)
      omega
/-- the written name of a place -/
def wn (rs : List (Int × Int)) (p : Int × Int) : Int × Int := if own rs p then p else (p.1 - 1, 0)
section
variable {P : Program} {w : World} {K : PySem.W.Frag} {mg : Str → Option Value} {base : Heap}
def spWrittenName : Sp := fun vs H Q _ => ∃ (c : Addr) (xs : List V) (rs : List (Int × Int)) (x : V) (p : Int × Int), vs = [.ref c, x] ∧ H c = some (.tup xs) ∧ RingsAt H 60 xs rs ∧ PlaceAt H x p ∧ 0 ≤ p.1 ∧ p.1 < (rs.length : Int) ∧
  ∀ y H', Ex H H' → PlaceAt H' y (wn rs p) → Q y H'
theorem ok_written_name (T : Txt K mg) {f : Addr} {fd : FuncData} (D : DefAt K mg "written_name" sWrittenName ["chain", "place"] f fd) : FnOk P w K mg base CX0 1 f fd ["chain", "place"] spWrittenName := by
  refine D.F.ok scWrittenName (fun vs H Q E h => ?_) (fun cdv A outer s H vs Q E hr h => ?_)
  · obtain ⟨c, xs, rs, x, p, rfl, _⟩ := h
    rfl
  · obtain ⟨c, xs, rs, x, ⟨j, q⟩, rfl, hc, hR, hp, p0, p1, k⟩ := h
    obtain ⟨t, rfl, ht⟩ := id hp
    have hj : j.toNat < rs.length := by
      have : (0 : Int) ≤ j := p0
      have : j < (rs.length : Int) := p1
      omega
    obtain ⟨y, hy, t2, rfl, ht2, n1, n2, n3, n4⟩ := rings_nth hR hj
    refine ⟨_, pss_cons (ps_asg (pv 1) (pg_tup (by rfl) (pgs_cons (pg_name (i := 2) scWrittenName.nd rfl (.inl rfl)) (pgs_cons (pg_name (i := 3) scWrittenName.nd rfl (.inl rfl)) pgs_nil))))
      (pss_cons (ps_if (PW.pt (pw_and (pt_cmpR op_gt (pv 2) pe_int (nomark _)) (pw_and1 (pt_cmpR op_eq (pv 3) (pe_ix ix_tup (pe_ix ix_tup (pv 0) (pv 2) (fun _ _ => rfl)) pe_int (fun _ _ => rfl)) (nomark _)))))
        (pss_one (ps_ret (pe_tup (pa_cons (pe_op op_sub (pv 2) pe_int) (pa_cons pe_int pa_nil))))) pss_nil)
      (pss_one (ps_ret (pv 1)))), ?_⟩
    refine ⟨_, rfl, t, _, rfl, SqT.of ht, rfl, _, _, rfl, _, _, rfl, rfl, ?_⟩
    refine ⟨_, rfl, _, _, rfl, rfl, _, rfl, ite2 (fun c1 => ?_) (fun c1 => ?_)⟩
    · have c2 : 0 < j := of_decide_eq_true c1
      refine ⟨_, rfl, _, rfl, _, rfl, c, xs, j, .ref t2, rfl, rfl, SqT.of hc, at_of (show j = ((j.toNat : Nat) : Int) by omega) hy, t2, _, 1, _, rfl, rfl, SqT.of ht2, rfl, rfl, _, rfl, ite2 (fun c3 => ?_) (fun c3 => ?_)⟩
      · have c4 : q = sAt rs j.toNat := V.int.inj (of_decide_eq_true c3)
        have ow : own rs (j, q) = false := by
          unfold own
          rw [decide_eq_true (show 0 < (j, q).1 from c2), decide_eq_true (show (j, q).2 = sAt rs (j, q).1.toNat from c4)]
          rfl
        refine ⟨_, rfl, _, _, rfl, rfl, by show 2 ≤ sizeLine; decide, fun p hp => k _ _ (Ex.new hp) ⟨p, rfl, ?_⟩⟩
        unfold wn
        rw [ow, if_neg (by decide)]
        exact upd_same
      · have c4 : ¬ q = sAt rs j.toNat := fun z => c3 (decide_eq_true (by rw [z]))
        have ow : own rs (j, q) = true := by
          unfold own
          rw [decide_eq_false (show ¬ (j, q).2 = sAt rs (j, q).1.toNat from c4), Bool.and_false]
          rfl
        refine ⟨_, rfl, k _ _ (Ex.refl _) ?_⟩
        unfold wn
        rw [if_pos ow]
        exact hp
    · have c2 : ¬ 0 < j := fun z => c1 (decide_eq_true z)
      have ow : own rs (j, q) = true := by
        unfold own
        rw [decide_eq_false (show ¬ 0 < (j, q).1 from c2), Bool.false_and]
        rfl
      refine iteF ?_
      refine ⟨_, rfl, k _ _ (Ex.refl _) ?_⟩
      unfold wn
      rw [if_pos ow]
      exact hp
def spNamesOf : Sp := fun vs H Q _ => ∃ (c : Addr) (xs : List V) (rs : List (Int × Int)), vs = [.ref c] ∧ H c = some (.tup xs) ∧ RingsAt H 60 xs rs ∧ xs.length ≤ 12 ∧ ∀ p ys H', Ex H H' → H p = none → H' p = some (.lst ys) → Places H' ys (names rs) → Q (.ref p) H'
def spPlacesOf : Sp := fun vs H Q _ => ∃ (c : Addr) (xs : List V) (rs : List (Int × Int)), vs = [.ref c] ∧ H c = some (.tup xs) ∧ RingsAt H 60 xs rs ∧ 1 ≤ xs.length ∧ xs.length ≤ 12 ∧ ∀ p ys H', Ex H H' → H' p = some (.tup ys) → Places H' ys (names rs) → Q (.ref p) H'
end
end K1

/-! own walks: comprehensions and loops over zip and enumerate of tuples, zip of lists of any lengths -/
namespace ZW
open PySem PySem.Spec PyProof.Rows L2
theorem lc_zipT {K : PySem.W.Frag} {a b : Addr} {xs ys : List V} {n : Nat} {g : TG} {tt : TT} {te : TE} {vs : List Nat} {σ : L2.St} {H1 : Hp} {D : Addr} {Qd : Hp → Prop} (hx : n ≤ xs.length) (hy : n ≤ ys.length) (hn : xs.length ≤ n ∨ ys.length ≤ n)
    (Pv : Nat → Hp → Prop) (h0 : Pv 0 (upd H1 D (.lst []))) (hq : ∀ i H, Pv i H → SqT K H a xs ∧ SqT K H b ys)
    (hs : ∀ i x y T H, i < n → xs[i]? = some x → ys[i]? = some y → Pv i H → H T = none → g (.ref T) (wipe σ vs) (upd H T (.tup [x, y])) fun σ2 H2 => wipe σ2 vs = wipe σ vs ∧ tt σ2 H2 fun c H3 =>
      if c = true then te σ2 H3 fun z H4 => ∃ acc, H4 D = some (.lst acc) ∧ acc.length < sizeLine ∧ Pv (i + 1) (upd H4 D (.lst (acc ++ [z]))) else Pv (i + 1) H3) (hd : ∀ H, Pv n H → Qd H) :
    ∃ W : Nat → Nat → Hp → Prop, (∃ m, W 0 m (upd H1 D (.lst []))) ∧ ∀ i m H, W i m H →
      ((RZ.ItzT K a b).stop i H ∧ Qd H) ∨ ((RZ.ItzT K a b).go i H ∧ ∃ Nx : Hp → Prop, (∀ H', Nx H' → ∃ m', m' < m ∧ W (i + 1) m' H') ∧ ∀ v H', (RZ.ItzT K a b).yld i H v H' → g v (wipe σ vs) H' fun σ2 H2 => wipe σ2 vs = wipe σ vs ∧ tt σ2 H2 fun c H3 =>
        if c = true then te σ2 H3 fun z H4 => ∃ acc, H4 D = some (.lst acc) ∧ acc.length < sizeLine ∧ Nx (upd H4 D (.lst (acc ++ [z]))) else Nx H3) := by
  refine ⟨fun i m H => m = n - i ∧ i ≤ n ∧ Pv i H, ⟨n, (Nat.sub_zero n).symm, Nat.zero_le _, h0⟩, ?_⟩
  rintro i m H ⟨rfl, hi, p⟩
  obtain ⟨qa, qb⟩ := hq i H p
  by_cases hlt : i < n
  · have e1 : xs[i]? = some (xs[i]'(by omega)) := List.getElem?_eq_getElem _
    have e2 : ys[i]? = some (ys[i]'(by omega)) := List.getElem?_eq_getElem _
    refine .inr ⟨⟨xs, ys, _, _, qa, qb, e1, e2⟩, Pv (i + 1), fun H' p' => ⟨n - (i + 1), by omega, rfl, hlt, p'⟩, fun v H' hy' => ?_⟩
    obtain ⟨T, x, y, rfl, nT, rfl, fx, fy⟩ := hy'
    exact hs i x y T H hlt (fx _ qa) (fy _ qb) p nT
  · have e : i = n := by omega
    subst e
    exact .inl ⟨⟨xs, ys, qa, qb, by omega⟩, hd H p⟩
theorem for_zipT {K : PySem.W.Frag} {a b : Addr} {xs ys : List V} {n : Nat} {g : TG} {tb : TS} {D : Ends} {σ : L2.St} {H : Hp} (hx : n ≤ xs.length) (hy : n ≤ ys.length) (hn : xs.length ≤ n ∨ ys.length ≤ n)
    (Pv : Nat → L2.St → Hp → Prop) (h0 : Pv 0 σ H) (hq : ∀ i σ H, Pv i σ H → SqT K H a xs ∧ SqT K H b ys)
    (hs : ∀ i x y T σ H, i < n → xs[i]? = some x → ys[i]? = some y → Pv i σ H → H T = none → g (.ref T) σ (upd H T (.tup [x, y])) fun σ2 H2 => tb { D with nx := Pv (i + 1), ct := Pv (i + 1), bk := D.nx } σ2 H2) (hd : ∀ σ H, Pv n σ H → D.nx σ H) :
    ∃ W : Nat → Nat → L2.St → Hp → Prop, (∃ m, W 0 m σ H) ∧ ∀ i m σ H, W i m σ H →
      ((RZ.ItzT K a b).stop i H ∧ D.nx σ H) ∨ ((RZ.ItzT K a b).go i H ∧ ∃ N : L2.St → Hp → Prop, (∀ σ' H', N σ' H' → ∃ m', m' < m ∧ W (i + 1) m' σ' H') ∧ ∀ v H', (RZ.ItzT K a b).yld i H v H' → g v σ H' fun σ2 H2 => tb { D with nx := N, ct := N, bk := D.nx } σ2 H2) := by
  refine ⟨fun i m σ H => m = n - i ∧ i ≤ n ∧ Pv i σ H, ⟨n, (Nat.sub_zero n).symm, Nat.zero_le _, h0⟩, ?_⟩
  rintro i m σ H ⟨rfl, hi, p⟩
  obtain ⟨qa, qb⟩ := hq i σ H p
  by_cases hlt : i < n
  · have e1 : xs[i]? = some (xs[i]'(by omega)) := List.getElem?_eq_getElem _
    have e2 : ys[i]? = some (ys[i]'(by omega)) := List.getElem?_eq_getElem _
    refine .inr ⟨⟨xs, ys, _, _, qa, qb, e1, e2⟩, Pv (i + 1), fun σ' H' p' => ⟨n - (i + 1), by omega, rfl, hlt, p'⟩, fun v H' hy' => ?_⟩
    obtain ⟨T, x, y, rfl, nT, rfl, fx, fy⟩ := hy'
    exact hs i x y T σ H hlt (fx _ qa) (fy _ qb) p nT
  · have e : i = n := by omega
    subst e
    exact .inl ⟨⟨xs, ys, qa, qb, by omega⟩, hd σ H p⟩
theorem lc_zipL {K : PySem.W.Frag} {a b : Addr} {xs ys : List V} {n : Nat} {g : TG} {tt : TT} {te : TE} {vs : List Nat} {σ : L2.St} {H1 : Hp} {D : Addr} {Qd : Hp → Prop} (hx : n ≤ xs.length) (hy : n ≤ ys.length) (hn : xs.length ≤ n ∨ ys.length ≤ n)
    (Pv : Nat → Hp → Prop) (h0 : Pv 0 (upd H1 D (.lst []))) (hq : ∀ i H, Pv i H → SqL K H a xs ∧ SqL K H b ys)
    (hs : ∀ i x y T H, i < n → xs[i]? = some x → ys[i]? = some y → Pv i H → H T = none → g (.ref T) (wipe σ vs) (upd H T (.tup [x, y])) fun σ2 H2 => wipe σ2 vs = wipe σ vs ∧ tt σ2 H2 fun c H3 =>
      if c = true then te σ2 H3 fun z H4 => ∃ acc, H4 D = some (.lst acc) ∧ acc.length < sizeLine ∧ Pv (i + 1) (upd H4 D (.lst (acc ++ [z]))) else Pv (i + 1) H3) (hd : ∀ H, Pv n H → Qd H) :
    ∃ W : Nat → Nat → Hp → Prop, (∃ m, W 0 m (upd H1 D (.lst []))) ∧ ∀ i m H, W i m H →
      ((Itz K a b).stop i H ∧ Qd H) ∨ ((Itz K a b).go i H ∧ ∃ Nx : Hp → Prop, (∀ H', Nx H' → ∃ m', m' < m ∧ W (i + 1) m' H') ∧ ∀ v H', (Itz K a b).yld i H v H' → g v (wipe σ vs) H' fun σ2 H2 => wipe σ2 vs = wipe σ vs ∧ tt σ2 H2 fun c H3 =>
        if c = true then te σ2 H3 fun z H4 => ∃ acc, H4 D = some (.lst acc) ∧ acc.length < sizeLine ∧ Nx (upd H4 D (.lst (acc ++ [z]))) else Nx H3) := by
  refine ⟨fun i m H => m = n - i ∧ i ≤ n ∧ Pv i H, ⟨n, (Nat.sub_zero n).symm, Nat.zero_le _, h0⟩, ?_⟩
  rintro i m H ⟨rfl, hi, p⟩
  obtain ⟨qa, qb⟩ := hq i H p
  by_cases hlt : i < n
  · have e1 : xs[i]? = some (xs[i]'(by omega)) := List.getElem?_eq_getElem _
    have e2 : ys[i]? = some (ys[i]'(by omega)) := List.getElem?_eq_getElem _
    refine .inr ⟨⟨xs, ys, _, _, qa, qb, e1, e2⟩, Pv (i + 1), fun H' p' => ⟨n - (i + 1), by omega, rfl, hlt, p'⟩, fun v H' hy' => ?_⟩
    obtain ⟨T, x, y, rfl, nT, rfl, fx, fy⟩ := hy'
    exact hs i x y T H hlt (fx _ qa) (fy _ qb) p nT
  · have e : i = n := by omega
    subst e
    exact .inl ⟨⟨xs, ys, qa, qb, by omega⟩, hd H p⟩
theorem for_zipL {K : PySem.W.Frag} {a b : Addr} {xs ys : List V} {n : Nat} {g : TG} {tb : TS} {D : Ends} {σ : L2.St} {H : Hp} (hx : n ≤ xs.length) (hy : n ≤ ys.length) (hn : xs.length ≤ n ∨ ys.length ≤ n)
    (Pv : Nat → L2.St → Hp → Prop) (h0 : Pv 0 σ H) (hq : ∀ i σ H, Pv i σ H → SqL K H a xs ∧ SqL K H b ys)
    (hs : ∀ i x y T σ H, i < n → xs[i]? = some x → ys[i]? = some y → Pv i σ H → H T = none → g (.ref T) σ (upd H T (.tup [x, y])) fun σ2 H2 => tb { D with nx := Pv (i + 1), ct := Pv (i + 1), bk := D.nx } σ2 H2) (hd : ∀ σ H, Pv n σ H → D.nx σ H) :
    ∃ W : Nat → Nat → L2.St → Hp → Prop, (∃ m, W 0 m σ H) ∧ ∀ i m σ H, W i m σ H →
      ((Itz K a b).stop i H ∧ D.nx σ H) ∨ ((Itz K a b).go i H ∧ ∃ N : L2.St → Hp → Prop, (∀ σ' H', N σ' H' → ∃ m', m' < m ∧ W (i + 1) m' σ' H') ∧ ∀ v H', (Itz K a b).yld i H v H' → g v σ H' fun σ2 H2 => tb { D with nx := N, ct := N, bk := D.nx } σ2 H2) := by
  refine ⟨fun i m σ H => m = n - i ∧ i ≤ n ∧ Pv i σ H, ⟨n, (Nat.sub_zero n).symm, Nat.zero_le _, h0⟩, ?_⟩
  rintro i m σ H ⟨rfl, hi, p⟩
  obtain ⟨qa, qb⟩ := hq i σ H p
  by_cases hlt : i < n
  · have e1 : xs[i]? = some (xs[i]'(by omega)) := List.getElem?_eq_getElem _
    have e2 : ys[i]? = some (ys[i]'(by omega)) := List.getElem?_eq_getElem _
    refine .inr ⟨⟨xs, ys, _, _, qa, qb, e1, e2⟩, Pv (i + 1), fun σ' H' p' => ⟨n - (i + 1), by omega, rfl, hlt, p'⟩, fun v H' hy' => ?_⟩
    obtain ⟨T, x, y, rfl, nT, rfl, fx, fy⟩ := hy'
    exact hs i x y T σ H hlt (fx _ qa) (fy _ qb) p nT
  · have e : i = n := by omega
    subst e
    exact .inl ⟨⟨xs, ys, qa, qb, by omega⟩, hd σ H p⟩
theorem for_enumT {K : PySem.W.Frag} {a : Addr} {xs : List V} {g : TG} {tb : TS} {D : Ends} {σ : L2.St} {H : Hp} (Pv : Nat → L2.St → Hp → Prop) (h0 : Pv 0 σ H) (hq : ∀ i σ H, Pv i σ H → SqT K H a xs)
    (hs : ∀ i x T σ H, xs[i]? = some x → Pv i σ H → H T = none → g (.ref T) σ (upd H T (.tup [.int (i : Nat), x])) fun σ2 H2 => tb { D with nx := Pv (i + 1), ct := Pv (i + 1), bk := D.nx } σ2 H2) (hd : ∀ σ H, Pv xs.length σ H → D.nx σ H) :
    ∃ W : Nat → Nat → L2.St → Hp → Prop, (∃ m, W 0 m σ H) ∧ ∀ i m σ H, W i m σ H →
      ((EnT.IteT K a).stop i H ∧ D.nx σ H) ∨ ((EnT.IteT K a).go i H ∧ ∃ N : L2.St → Hp → Prop, (∀ σ' H', N σ' H' → ∃ m', m' < m ∧ W (i + 1) m' σ' H') ∧ ∀ v H', (EnT.IteT K a).yld i H v H' → g v σ H' fun σ2 H2 => tb { D with nx := N, ct := N, bk := D.nx } σ2 H2) := by
  refine ⟨fun i m σ H => m = xs.length - i ∧ i ≤ xs.length ∧ Pv i σ H, ⟨xs.length, (Nat.sub_zero _).symm, Nat.zero_le _, h0⟩, ?_⟩
  rintro i m σ H ⟨rfl, hi, p⟩
  have qa := hq i σ H p
  by_cases hlt : i < xs.length
  · have e1 : xs[i]? = some (xs[i]'hlt) := List.getElem?_eq_getElem _
    refine .inr ⟨⟨xs, _, qa, e1⟩, Pv (i + 1), fun σ' H' p' => ⟨xs.length - (i + 1), by omega, rfl, hlt, p'⟩, fun v H' hy' => ?_⟩
    obtain ⟨T, x, rfl, nT, rfl, fx⟩ := hy'
    exact hs i x T σ H (fx _ qa) p nT
  · have e : i = xs.length := by omega
    subst e
    exact .inl ⟨⟨xs, qa, rfl⟩, hd σ H p⟩
theorem lc_enumT {K : PySem.W.Frag} {a : Addr} {xs : List V} {g : TG} {tt : TT} {te : TE} {vs : List Nat} {σ : L2.St} {H1 : Hp} {D : Addr} {Qd : Hp → Prop} (Pv : Nat → Hp → Prop) (h0 : Pv 0 (upd H1 D (.lst []))) (hq : ∀ i H, Pv i H → SqT K H a xs)
    (hs : ∀ i x T H, xs[i]? = some x → Pv i H → H T = none → g (.ref T) (wipe σ vs) (upd H T (.tup [.int (i : Nat), x])) fun σ2 H2 => wipe σ2 vs = wipe σ vs ∧ tt σ2 H2 fun c H3 =>
      if c = true then te σ2 H3 fun z H4 => ∃ acc, H4 D = some (.lst acc) ∧ acc.length < sizeLine ∧ Pv (i + 1) (upd H4 D (.lst (acc ++ [z]))) else Pv (i + 1) H3) (hd : ∀ H, Pv xs.length H → Qd H) :
    ∃ W : Nat → Nat → Hp → Prop, (∃ m, W 0 m (upd H1 D (.lst []))) ∧ ∀ i m H, W i m H →
      ((EnT.IteT K a).stop i H ∧ Qd H) ∨ ((EnT.IteT K a).go i H ∧ ∃ Nx : Hp → Prop, (∀ H', Nx H' → ∃ m', m' < m ∧ W (i + 1) m' H') ∧ ∀ v H', (EnT.IteT K a).yld i H v H' → g v (wipe σ vs) H' fun σ2 H2 => wipe σ2 vs = wipe σ vs ∧ tt σ2 H2 fun c H3 =>
        if c = true then te σ2 H3 fun z H4 => ∃ acc, H4 D = some (.lst acc) ∧ acc.length < sizeLine ∧ Nx (upd H4 D (.lst (acc ++ [z]))) else Nx H3) := by
  refine ⟨fun i m H => m = xs.length - i ∧ i ≤ xs.length ∧ Pv i H, ⟨xs.length, (Nat.sub_zero _).symm, Nat.zero_le _, h0⟩, ?_⟩
  rintro i m H ⟨rfl, hi, p⟩
  have qa := hq i H p
  by_cases hlt : i < xs.length
  · have e1 : xs[i]? = some (xs[i]'hlt) := List.getElem?_eq_getElem _
    refine .inr ⟨⟨xs, _, qa, e1⟩, Pv (i + 1), fun H' p' => ⟨xs.length - (i + 1), by omega, rfl, hlt, p'⟩, fun v H' hy' => ?_⟩
    obtain ⟨T, x, rfl, nT, rfl, fx⟩ := hy'
    exact hs i x T H (fx _ qa) p nT
  · have e : i = xs.length := by omega
    subst e
    exact .inl ⟨⟨xs, qa, rfl⟩, hd H p⟩
end ZW

/-! own walk: zip of a list and a tuple -/
namespace ZM
open PySem PySem.Spec PyProof.Rows L2
/-- a list and a tuple, their items in new pairs -/
def ItM (K : PySem.W.Frag) (a b : Addr) : It :=
  ⟨fun i H => ∃ (xs ys : List V) (x y : V), SqL K H a xs ∧ SqT K H b ys ∧ xs[i]? = some x ∧ ys[i]? = some y,
    fun i H v H' => ∃ T x y, v = .ref T ∧ H T = none ∧ H' = upd H T (.tup [x, y]) ∧ (∀ xs, SqL K H a xs → xs[i]? = some x) ∧ ∀ ys, SqT K H b ys → ys[i]? = some y,
    fun i H => ∃ xs ys : List V, SqL K H a xs ∧ SqT K H b ys ∧ xs.length = i ∧ ys.length = i⟩
theorem turnM {P : Program} {w : World} {K : PySem.W.Frag} {elts : List Expr} {kk : Nat} {tpos : Pos} {a b z TI TO i1 i2 : Addr} (S : ZipSep2 z TI TO i1 i2 [i1, a] [i2, b]) (na : a ≠ i1) (nb : b ≠ i2) (w1 : z ≠ i1 ∧ z ≠ i2) :
    Turn P w K (.Tuple elts kk tpos) (ItM K a b) [z, TI, TO, i1, i2] z (fun i h => IsZip h z TI TO .none ∧ IsTupOf2 h TI (.ref i1) (.ref i2) ∧ (∃ x y, IsTupOf2 h TO x y) ∧ h.IsListIter i1 a i ∧ h.IsTupleIter i2 b i) where
  mem := by simp
  obj := fun i h st t ht => by
    obtain ⟨hz, hTI, ⟨x, y, hTO⟩, ⟨o1, e1, _, d1⟩, ⟨o2, e2, _, d2⟩⟩ := st
    rcases (show t = z ∨ t = TI ∨ t = TO ∨ t = i1 ∨ t = i2 by simpa using ht) with q | q | q | q | q
    · rw [q]
      exact ⟨_, hz, fun v q => nomatch q⟩
    · rw [q]
      exact ⟨_, hTI, fun v q => nomatch q⟩
    · rw [q]
      exact ⟨_, hTO, fun v q => nomatch q⟩
    · exact ⟨o1, q ▸ e1, fun v q => by rw [d1] at q; cases q⟩
    · exact ⟨o2, q ▸ e2, fun v q => by rw [d2] at q; cases q⟩
  keep := fun i h h' st k => by
    obtain ⟨hz, hTI, ⟨x, y, hTO⟩, h1, h2⟩ := st
    exact ⟨k z (by simp) _ hz, k TI (by simp) _ hTI, ⟨x, y, k TO (by simp) _ hTO⟩, h1.at fun o q => k i1 (by simp) o q, h2.at fun o q => k i2 (by simp) o q⟩
  item := by
    intro X eP eW eK hc i pins s σ H E I hf st hg
    subst eP eW eK
    obtain ⟨hz, hTI, ⟨x0, y0, hTO⟩, h1, h2⟩ := st
    obtain ⟨xs, ys, x, y, qx, qy, gx, gy⟩ := hg
    obtain ⟨t1, r1, p1, _⟩ := I.list qx
    obtain ⟨t2, r2, p2, _⟩ := I.tuple qy
    obtain ⟨v1, m1, rv1⟩ := r1.get gx
    obtain ⟨v2, m2, rv2⟩ := r2.get gy
    have l1 : i < t1.toArray.size := by simpa using (List.getElem?_eq_some_iff.mp m1).1
    have l2 : i < t2.toArray.size := by simpa using (List.getElem?_eq_some_iff.mp m2).1
    have hzl : z < s.heap.objs.size := Heap.lt_size hz
    have hh : X.A.in1.handled = none := I.ok.hd hc
    refine wpAny_pyNext_zipD2_item S (Draws.list hh i1 a na t1.toArray) (Draws.tuple hh i2 b nb t2.toArray) hz hTI hTO ⟨h1, p1.isList⟩ ⟨h2, p2⟩ l1 l2 fun w1' w2' h' tk g1 g2 zz tt s1 s2 hT hsz hk => ?_
    have a1 : w1' = v1 := Option.some.inj (g1.symm.trans (by simpa using m1))
    have a2 : w2' = v2 := Option.some.inj (g2.symm.trans (by simpa using m2))
    subst a1 a2
    refine ⟨_, rfl, wpAny_letOwnedTupleGo_zip (s := { s with heap := h', toks := tk }) zz fun h2' z2 sb => ?_⟩
    have hT2 : h2'.get? s.heap.objs.size = some { cls := .type "tuple", data := .seq #[w1', w2'] } := (sb.2 _ (Nat.ne_of_gt hzl)).trans hT
    have made : ObjOk X.prog X.w (upd H s.heap.objs.size (.tup [x, y])) h2' s.heap.objs.size (.tup [x, y]) :=
      ⟨by show 2 ≤ sizeLine; decide, [w1', w2'], .cons rv1 (.cons rv2 .nil), ⟨_, hT2, rfl, _, rfl⟩⟩
    have I2 : Inv X pins σ (upd H s.heap.objs.size (.tup [x, y])) { s with heap := h2', toks := tk } :=
      I.turnedNew (ch := [z, TI, TO, i1, i2]) (fun t o ht q => (sb.2 t (fun e => ht (by simp [e]))).trans (hk t o (fun e => ht (by simp [e])) (fun e => ht (by simp [e])) (fun e => ht (by simp [e])) (fun e => ht (by simp [e])) q)) hf (Nat.le_refl _) made
    refine ⟨.ref s.heap.objs.size, _, I2, rfl, ⟨_, x, y, rfl, I.hok.fresh (Nat.le_refl _), rfl, fun l hl => by rw [I.list_inj hl qx]; exact gx, fun l hl => by rw [I.tuple_inj hl qy]; exact gy⟩,
      ⟨z2, (sb.2 _ S.TIz).trans (hk _ _ S.TIz S.TITO S.TIi1 S.TIi2 hTI), ⟨w1', w2', (sb.2 _ S.TOz).trans tt⟩, s1.1.at fun o q => (sb.2 _ w1.1.symm).trans q, s2.1.at fun o q => (sb.2 _ w1.2.symm).trans q⟩, fun t ht => ?_⟩
    have lt : t < s.heap.objs.size := by
      rcases (show t = z ∨ t = TI ∨ t = TO ∨ t = i1 ∨ t = i2 by simpa using ht) with q | q | q | q | q
      · exact q ▸ hzl
      · exact q ▸ Heap.lt_size hTI
      · exact q ▸ Heap.lt_size hTO
      · obtain ⟨_, e, _⟩ := h1
        exact q ▸ Heap.lt_size e
      · obtain ⟨_, e, _⟩ := h2
        exact q ▸ Heap.lt_size e
    rw [upd_ne (Nat.ne_of_lt lt)]
    exact (hf t ht).1
  done := by
    intro X eP eW eK hc i pins s σ H E I hf st hg
    subst eP eW eK
    obtain ⟨hz, hTI, ⟨x0, y0, hTO⟩, h1, h2⟩ := st
    obtain ⟨xs, ys, qx, qy, gx, gy⟩ := hg
    obtain ⟨t1, r1, p1, _⟩ := I.list qx
    obtain ⟨t2, r2, p2, _⟩ := I.tuple qy
    have k1 := r1.length
    have k2 := r2.length
    have hh : X.A.in1.handled = none := I.ok.hd hc
    exact wpAny_pyNext_zipD2_end S (Draws.list hh i1 a na t1.toArray) (Draws.tuple hh i2 b nb t2.toArray) hz hTI hTO ⟨h1, p1.isList⟩ ⟨h2, p2⟩ (by rw [List.size_toArray]; omega) (by rw [List.size_toArray]; omega) (.inl (by rw [List.size_toArray]; omega))
      fun h' tk hk => ⟨rfl, I.turnedL (ch := [z, TI, TO, i1, i2]) (fun t o ht q => hk t o (fun e => ht (by simp [e])) (fun e => ht (by simp [e])) (fun e => ht (by simp [e])) (fun e => ht (by simp [e])) q) hf⟩
  self := fun A i s Q E st h => wpAny_pyIter_zip st.1 h
def iZipM (K : PySem.W.Frag) (ta : TA) : TI := fun σ H R => ta σ H fun vs H1 => ∃ a b xs ys, vs = [.ref a, .ref b] ∧ SqL K H1 a xs ∧ SqT K H1 b ys ∧ R (ItM K a b) H1
theorem pi_zipM {X : Cx} {e e2 : Expr} {ta : TA} {p pos tpos : Pos} {elts : List Expr} {kk : Nat} (hg : Gl X "zip") (hm : X.mg "zip" = none) (ha : PA X [e, e2] ta)
    (hs : starEach [e, e2] X.env = (false, eval e X.env) :: starEach [e2] X.env := by rfl) (hpl : (backTo pos (starEach [e2] X.env)).any (·.1) = false := by rfl) :
    PI X (.Tuple elts kk tpos) (.Call (.Name "zip" p) [e, e2] [] pos) (iZipM X.K ta) := by
  refine ⟨fun pins s σ H R I h => ?_⟩
  refine Call_ (ld_blt I hg hm PyProof.Rows.boot_zip (PyProof.Rows.callWith_type1 (thn (ha.run pos pins s σ H _ I h) fun vs' s1 ⟨vs, H1, I1, r1, q1⟩ => ?_) hs hpl))
  obtain ⟨a, b, xs, ys, ex, qx, qy, q⟩ := q1
  subst ex
  obtain ⟨t1, r1', p1, _⟩ := I1.list qx
  obtain ⟨t2, r2', p2, _⟩ := I1.tuple qy
  cases r1 with
  | cons ra rr =>
    cases rr with
    | cons rb rr =>
      cases rr
      cases ra
      cases rb
      have la : a < s1.heap.objs.size := by
        obtain ⟨_, e, _⟩ := p1.isList
        exact Heap.lt_size e
      have lb : b < s1.heap.objs.size := by
        obtain ⟨_, e, _⟩ := p2
        exact Heap.lt_size e
      refine zip_begins2 (begins_list a t1.toArray) (begins_tuple b t2.toArray) p1.isList p2 fun h' hz hTI hTO g1 g2 _ hk => wpAny_pyIter_zip hz ?_
      have I2 : Inv X pins σ H1 { s1 with heap := h' } := I1.kept (t' := s1.toks) hk
      have S : ZipSep2 (s1.heap.objs.size + 4) (s1.heap.objs.size + 2) (s1.heap.objs.size + 3) s1.heap.objs.size (s1.heap.objs.size + 1) [s1.heap.objs.size, a] [s1.heap.objs.size + 1, b] :=
        zip_sep2 (fun t ht => by rw [List.mem_singleton.mp ht]; exact la) (fun t ht => by rw [List.mem_singleton.mp ht]; exact lb)
      have add : ∀ {m k : Nat}, m ≠ k → s1.heap.objs.size + m ≠ s1.heap.objs.size + k := fun n e => n (Nat.add_left_cancel e)
      refine ⟨s1.heap.objs.size + 4, [s1.heap.objs.size + 4, s1.heap.objs.size + 2, s1.heap.objs.size + 3, s1.heap.objs.size, s1.heap.objs.size + 1], _, _, H1, rfl, I2,
        turnM S (Nat.ne_of_lt la) (Nat.ne_of_lt (Nat.lt_succ_of_lt lb)) ⟨add (m := 4) (k := 0) (by decide), add (by decide)⟩,
        ⟨hz, hTI, ⟨_, _, hTO⟩, ⟨_, g1, rfl, rfl⟩, ⟨_, g2, rfl, rfl⟩⟩, fun t ht => ?_, q⟩
      have le : s1.heap.objs.size ≤ t := by
        rcases (show t = s1.heap.objs.size + 4 ∨ t = s1.heap.objs.size + 2 ∨ t = s1.heap.objs.size + 3 ∨ t = s1.heap.objs.size ∨ t = s1.heap.objs.size + 1 by simpa using ht) with q | q | q | q | q
        · exact q ▸ Nat.le_add_right _ _
        · exact q ▸ Nat.le_add_right _ _
        · exact q ▸ Nat.le_add_right _ _
        · exact q ▸ Nat.le_refl _
        · exact q ▸ Nat.le_add_right _ _
      exact I1.fpOk le (I1.hok.fresh le)
theorem lc_zipM {K : PySem.W.Frag} {a b : Addr} {xs ys : List V} {n : Nat} {g : TG} {tt : TT} {te : TE} {vs : List Nat} {σ : L2.St} {H1 : Hp} {D : Addr} {Qd : Hp → Prop} (hx : xs.length = n) (hy : ys.length = n)
    (Pv : Nat → Hp → Prop) (h0 : Pv 0 (upd H1 D (.lst []))) (hq : ∀ i H, Pv i H → SqL K H a xs ∧ SqT K H b ys)
    (hs : ∀ i x y T H, i < n → xs[i]? = some x → ys[i]? = some y → Pv i H → H T = none → g (.ref T) (wipe σ vs) (upd H T (.tup [x, y])) fun σ2 H2 => wipe σ2 vs = wipe σ vs ∧ tt σ2 H2 fun c H3 =>
      if c = true then te σ2 H3 fun z H4 => ∃ acc, H4 D = some (.lst acc) ∧ acc.length < sizeLine ∧ Pv (i + 1) (upd H4 D (.lst (acc ++ [z]))) else Pv (i + 1) H3) (hd : ∀ H, Pv n H → Qd H) :
    ∃ W : Nat → Nat → Hp → Prop, (∃ m, W 0 m (upd H1 D (.lst []))) ∧ ∀ i m H, W i m H →
      ((ItM K a b).stop i H ∧ Qd H) ∨ ((ItM K a b).go i H ∧ ∃ Nx : Hp → Prop, (∀ H', Nx H' → ∃ m', m' < m ∧ W (i + 1) m' H') ∧ ∀ v H', (ItM K a b).yld i H v H' → g v (wipe σ vs) H' fun σ2 H2 => wipe σ2 vs = wipe σ vs ∧ tt σ2 H2 fun c H3 =>
        if c = true then te σ2 H3 fun z H4 => ∃ acc, H4 D = some (.lst acc) ∧ acc.length < sizeLine ∧ Nx (upd H4 D (.lst (acc ++ [z]))) else Nx H3) := by
  refine ⟨fun i m H => m = n - i ∧ i ≤ n ∧ Pv i H, ⟨n, (Nat.sub_zero n).symm, Nat.zero_le _, h0⟩, ?_⟩
  rintro i m H ⟨rfl, hi, p⟩
  obtain ⟨qa, qb⟩ := hq i H p
  by_cases hlt : i < n
  · have e1 : xs[i]? = some (xs[i]'(by omega)) := List.getElem?_eq_getElem _
    have e2 : ys[i]? = some (ys[i]'(by omega)) := List.getElem?_eq_getElem _
    refine .inr ⟨⟨xs, ys, _, _, qa, qb, e1, e2⟩, Pv (i + 1), fun H' p' => ⟨n - (i + 1), by omega, rfl, hlt, p'⟩, fun v H' hy' => ?_⟩
    obtain ⟨T, x, y, rfl, nT, rfl, fx, fy⟩ := hy'
    exact hs i x y T H hlt (fx _ qa) (fy _ qb) p nT
  · have e : i = n := by omega
    subst e
    exact .inl ⟨⟨xs, ys, qa, qb, hx, hy⟩, hd H p⟩
end ZM

/-! own rules: xs[i] op= e of a list; range(n) as a value, walked later -/
namespace LX
open PySem PySem.Spec PyProof.Rows L2
section
variable {X : Cx}
/-- xs[i] by values, 0 ≤ i -/
def rGetL (K : PySem.W.Frag) : V → V → Hp → VK → Prop := fun o i H Q => ∃ (a : Addr) (ys : List V) (j : Nat) (v : V), o = .ref a ∧ i = .int (j : Int) ∧ SqL K H a ys ∧ ys[j]? = some v ∧ Q v H
theorem get_list : PGet X (rGetL X.K) := by
  intro pins s σ H o i ov iv Q I ro ri h
  obtain ⟨a, ys, j, v, rfl, rfl, hq, hv, q⟩ := h
  cases ro
  obtain ⟨t, rfl⟩ := ri
  obtain ⟨its, r, pl, hz⟩ := I.list hq
  obtain ⟨u, hu, ru⟩ := r.get hv
  have hn := line63
  have hj := (List.getElem?_eq_some_iff.mp hu).1
  have hl := r.length
  exact wpAny_getItem_list pl.isList (by omega) (by omega) (by simpa using hu) ⟨v, H, I, ru, q⟩
/-- range(n), a new range object -/
theorem cr_range1 : CallR X (.type "range") (fun vs H Q => ∃ j, vs = [V.int j] ∧ ∀ p, H p = none → Q (.ref p) (upd H p (.rng 0 j))) := by
  intro pins s σ H vs us Q I r h
  obtain ⟨j, rfl, q⟩ := h
  obtain ⟨u1, rfl, rj⟩ := vals1 r
  obtain ⟨t, rfl⟩ := rj
  have nw : ObjOk X.prog X.w (upd H s.heap.objs.size (.rng 0 j)) (s.heap.push { cls := .type "range", data := .fields #[.int 0 s.toks, .int j t, .int 1 (s.toks + 1)] }) s.heap.objs.size (.rng 0 j) := ⟨s.toks, t, s.toks + 1, Heap.get?_push_size _ rfl⟩
  exact call_range_1 ⟨.ref s.heap.objs.size, _, I.laid (t' := s.toks + 1 + 1) (fun b o e => Heap.get?_push_of_some _ e) (Nat.le_refl _) nw, rfl, q _ (I.hok.fresh (Nat.le_refl _))⟩
/-- a range object that stands, walked -/
def iRngV (te : TE) : TI := fun σ H R => te σ H fun x H1 => ∃ (p : Addr) (lo hi : Int), x = .ref p ∧ H1 p = some (.rng lo hi) ∧ (-(2 ^ 62) ≤ lo ∧ lo < 2 ^ 62 ∧ -(2 ^ 62) ≤ hi ∧ hi < 2 ^ 62) ∧ R (Itr lo (hi - lo).toNat) H1
theorem pi_rngV {tg e : Expr} {te : TE} (he : PE X e te) : PI X tg e (iRngV te) := by
  refine ⟨fun pins s σ H R I h => ?_⟩
  refine thn (he.run pins s σ H _ I h) fun u s1 ⟨x, H1, I1, r1, p, lo, hi, ex, hp, ⟨b1, b2, b3, b4⟩, q⟩ => ?_
  subst ex
  obtain rfl : u = Value.ref p := r1
  obtain ⟨t, u, v, g⟩ := (show ObjOk X.prog X.w H1 s1.heap p (.rng lo hi) from I1.hok p _ hp)
  refine wpAny_pyIter_range (s := s1) g (small_one b1 b2 b3 b4) ?_
  refine ⟨s1.heap.objs.size, [s1.heap.objs.size], _, _, H1, rfl, I1.kept (t' := s1.toks) fun b o e => Heap.get?_push_of_some _ e, turn_range _ lo (hi - lo).toNat, ?_, fun b hb => ?_, q⟩
  · have e1 : lo + ((0 : Nat) : Int) * 1 = lo := by simp
    have e2 : (((hi - lo).toNat : Nat) : Int) - ((0 : Nat) : Int) = Builtin.Range.rangeSize lo hi 1 := by
      rw [rangeSize_one]
      split <;> omega
    show IsRangeIter _ _ (lo + ((0 : Nat) : Int) * 1) ((((hi - lo).toNat : Nat) : Int) - ((0 : Nat) : Int)) 1
    rw [e1, e2]
    exact Heap.get?_push_size _ rfl
  · obtain rfl : b = s1.heap.objs.size := by simpa using hb
    exact I1.fpOk (Nat.le_refl _) (I1.hok.fresh (Nat.le_refl _))
end
end LX

namespace K1
open PySem PySem.Spec PyProof.Rows L2 Evl LX ZW ZM
/-- ints of a tuple of places -/
def PlacesT (H : Hp) (a : Addr) (ps : List Int) : Prop := H a = some (.tup (ps.map V.int))
theorem rings_nth4 {H : Hp} {most : Int} {xs : List V} {rs : List (Int × Int)} (h : RingsAt H most xs rs) {j : Nat} {x : V} (hx : xs[j]? = some x) : RingAt H most x (K1N.nAt rs j : Int) (K1N.sAt rs j) := by
  obtain ⟨r, hr, q⟩ := paired_get h hx
  have e : rs.getD j (0, 0) = r := by
    rw [List.getD_eq_getElem?_getD, hr]
    rfl
  obtain ⟨t, e1, e2, e3, e4, e5, e6⟩ := id q
  unfold K1N.nAt K1N.sAt
  rw [e, show ((r.1.toNat : Nat) : Int) = r.1 by omega]
  exact q
theorem rings_ex4 {H H' : Hp} {most : Int} {xs : List V} {rs : List (Int × Int)} (e : Ex H H') (h : RingsAt H most xs rs) : RingsAt H' most xs rs := paired_imp (fun _ _ z => RingAt.ex e z) h
theorem rings_chain4 {K : PySem.W.Frag} {H : Hp} {a : Addr} {xs : List V} {rs : List (Int × Int)} (h : RingsAt H 60 xs rs) (ha : H a = some (.tup xs)) (h1 : 1 ≤ xs.length) (h2 : xs.length ≤ 12) : ChainB K H (.ref a) true := by
  have p : ∀ {xs : List V} {rs : List (Int × Int)}, RingsAt H 60 xs rs → Paired (RingB K H) xs (List.replicate xs.length true) := by
    intro xs rs h
    induction h with
    | nil => exact .nil
    | cons r _ ih => exact .cons (RingAt.ring r (Int.le_refl _)) ih
  have q := ChainB.tup (K := K) ha ⟨h1, h2⟩ (p h)
  rw [show (List.replicate xs.length true).all id = true by simp] at q
  exact q
theorem int_get5 {ns : List Int} {i : Nat} (h : i < ns.length) : (ns.map V.int)[i]? = some (V.int (ns.getD i 0)) := by
  rw [List.getElem?_map, List.getD_eq_getElem?_getD, List.getElem?_eq_getElem h]
  rfl
theorem pl_get {ps : List Int} {i : Nat} {x : V} (hx : (ps.map V.int)[i]? = some x) : x = .int (ps.getD i 0) := by
  rw [List.getElem?_map] at hx
  rw [List.getD_eq_getElem?_getD]
  cases e : ps[i]? with
  | none =>
    rw [e] at hx
    cases hx
  | some p =>
    rw [e] at hx
    exact (Option.some.inj hx).symm
theorem getD_snoc_lt {l : List Int} {x : Int} {j : Nat} (h : j < l.length) : (l ++ [x]).getD j 0 = l.getD j 0 := by
  rw [List.getD_eq_getElem?_getD, List.getD_eq_getElem?_getD, List.getElem?_append_left h]
theorem getD_snoc_eq {l : List Int} {x : Int} : (l ++ [x]).getD l.length 0 = x := by
  rw [List.getD_eq_getElem?_getD, List.getElem?_append_right (Nat.le_refl _), Nat.sub_self]
  rfl
def PlOk (rs : List (Int × Int)) (ps : List Int) : Prop := ∀ j : Nat, j < ps.length → 0 ≤ ps.getD j 0 ∧ ps.getD j 0 < (K1N.nAt rs j : Int)
theorem PlOk.snoc {rs : List (Int × Int)} {ps : List Int} {x : Int} (h : PlOk rs ps) (h0 : 0 ≤ x) (h1 : x < (K1N.nAt rs ps.length : Int)) : PlOk rs (ps ++ [x]) := by
  intro j hj
  by_cases c : j < ps.length
  · rw [getD_snoc_lt c]
    exact h j c
  · have e : j = ps.length := by
      rw [List.length_append] at hj
      have : ([x] : List Int).length = 1 := rfl
      omega
    subst e
    rw [getD_snoc_eq]
    exact ⟨h0, h1⟩
theorem mapr_get {n i : Nat} (f : Nat → Int) (h : i < n) : ((List.range n).map f).getD i 0 = f i := by
  rw [List.getD_eq_getElem?_getD, List.getElem?_map, List.getElem?_range h]
  rfl
section
variable {P : Program} {w : World} {K : PySem.W.Frag} {mg : Str → Option Value} {base : Heap}
def spCheckPlaces (K : PySem.W.Frag) : Sp := fun vs H Q _ => ∃ c a xs rs ps, vs = [.ref c, .ref a] ∧ H c = some (.tup xs) ∧ RingsAt H 60 xs rs ∧ xs.length ≤ 12 ∧ PlacesT H a ps ∧ ps.length = xs.length ∧ (∀ j : Nat, j < ps.length → 0 ≤ ps.getD j 0 ∧ ps.getD j 0 < (K1N.nAt rs j : Int)) ∧ ∀ H', Ex H H' → Q .non H'
def spLiesTold (K : PySem.W.Frag) : Sp := fun vs H Q E => spCheckPlaces K vs H (fun _ H' => Q (.bl true) H') E
theorem ok_lies_told (T : Txt K mg) {f : Addr} {fd : FuncData} (D : DefAt K mg "lies_told" sLiesTold ["chain", "value"] f fd) : FnOk P w K mg base CX0 3 f fd ["chain", "value"] (spLiesTold K) := by
  refine D.F.ok scLiesTold (fun vs H Q E h => ?_) (fun cdv A outer s₀ H vs Q E hr h => ?_)
  · obtain ⟨c, a, xs, rs, ps, rfl, _⟩ := h
    rfl
  · obtain ⟨c, a, xs, rs, ps, rfl, hc, hR, hl, ha, hlen, hb, q⟩ := h
    obtain ⟨f1, fd1, D1⟩ := T.d_is_between
    refine ⟨_, pss_cons (ps_if (PW.pt (pw_or (pt_not (pt_val (pe_callB call_isi (by rfl) T.z_isinstance (by decide +kernel) (pa_cons (pv 1) (pa_cons (pe_bltn (v := .ty "tuple") (by rfl) T.z_tuple (by decide +kernel) rfl) pa_nil)))))
        (pw_or1 (pt_cmpR op_ne (pe_callB call_len_seq (by rfl) T.z_len PySem.boot_len (pa_cons (pv 1) pa_nil)) (pe_callB call_len_seq (by rfl) T.z_len PySem.boot_len (pa_cons (pv 0) pa_nil)) (nomark _))))) (pss_one (ps_ret pe_bl)) pss_nil)
      (pss_one (ps_ret (pe_callB (cr_all rfl) (by rfl) T.z_all (by decide +kernel) (pa_cons (pe_lc (own := [("place", 2), ("ring", 3)]) (g := gTup K 2 (gCons (gName 2) (gCons (gName 3) gNil))) (tt := tYes) rfl scLiesTold.nd (RZ.pi_zipA (by rfl) T.z_zip (pa_cons (pv 1) (pa_cons (pv 0) pa_nil)))
          (blkOk_by (N := nLiesTold) (sc := defScope sLiesTold) (by decide +kernel)) (fun _ _ _ _ _ => pg_tup (by rfl) (pgs_cons (pg_name (i := 2) scLiesTold.nd rfl (.inl rfl)) (pgs_cons (pg_name (i := 3) scLiesTold.nd rfl (.inl rfl)) pgs_nil))) (fun _ _ _ _ _ => pts_nil)
          (fun _ _ _ _ _ => pe_call (ok_is_between T D1) hr (by rfl) D1.g D1.F.kp D1.b .nil pass0 (pa_cons (pv 2) (pa_cons pe_int (pa_cons (pe_op op_sub (pe_ix (show IxR _ (rIxT K) from ix_tup) (pv 3) pe_int (fun _ _ => rfl)) pe_int) pa_nil))))) pa_nil)))), ?_⟩
    refine ⟨_, rfl, .ref a, .ty "tuple", .type "tuple", .type "tuple", true, rfl, .ty _, .base (.tup ha), kit_ty (by decide +kernel), true, rfl, iteF ?_⟩
    refine ⟨_, rfl, a, _, rfl, .inr (SqT.of ha), _, rfl, c, _, rfl, .inr (SqT.of hc), rfl, _, rfl, ?_⟩
    rw [List.length_map, hlen, decide_eq_true (rfl : V.int (xs.length : Int) = V.int (xs.length : Int))]
    refine iteF ?_
    refine ⟨_, rfl, _, rfl, a, c, _, _, rfl, .inr ⟨SqT.of ha, SqT.of hc, fun Dl hD => ?_⟩⟩
    refine lc_zipT (K := K) (a := a) (b := c) (xs := ps.map V.int) (ys := xs) (n := xs.length) (by rw [List.length_map]; omega) (Nat.le_refl _) (.inr (Nat.le_refl _)) (fun i H' => H' Dl = some (.lst ((List.replicate i true).map V.bl)) ∧ Ex H H') ⟨upd_same, Ex.new hD⟩ (fun i H' hp => ⟨SqT.of (hp.2 _ _ ha), SqT.of (hp.2 _ _ hc)⟩) (fun i x y Tp H' hi hx hy hp nT => ?_) (fun H' hp => ?_)
    · have ex : ∃ p : Int, x = .int p ∧ ps.getD i 0 = p := by
        rw [List.getElem?_map] at hx
        cases e : ps[i]? with
        | none =>
          rw [e] at hx
          cases hx
        | some p =>
          rw [e] at hx
          refine ⟨p, (Option.some.inj hx).symm, ?_⟩
          rw [List.getD_eq_getElem?_getD, e]
          rfl
      obtain ⟨p, rfl, hpv⟩ := ex
      have eT := Ex.new (o := .tup [.int p, y]) nT
      have hy1 := rings_nth4 (rings_ex4 (hp.2.trans eT) hR) hy
      obtain ⟨t, rfl, ht, b1, b2, b3, b4⟩ := hy1
      obtain ⟨c0, c1⟩ := hb i (by omega)
      rw [hpv] at c0 c1
      refine ⟨Tp, _, rfl, SqT.of upd_same, rfl, .int p, [.ref t], rfl, .ref t, [], rfl, rfl, rfl, ?_⟩
      dsimp only [tYes]
      rw [if_pos rfl]
      refine ⟨_, rfl, _, rfl, t, _, 0, _, rfl, rfl, SqT.of ht, rfl, _, _, rfl, rfl, .int p, 0, _, true, rfl, .yes c0 (by omega) (by omega) (by omega), fun H3 e3 => ?_⟩
      refine ⟨_, e3 _ _ (eT _ _ hp.1), ?_, ?_, Ex.mut ((hp.2.trans eT).trans e3) hD⟩
      · rw [List.length_map, List.length_replicate]
        exact small1000 (by omega)
      · rw [upd_same, List.replicate_succ', List.map_append]
        rfl
    · refine ⟨Dl, List.replicate xs.length true, rfl, SqL.of hp.1, ?_⟩
      rw [show (List.replicate xs.length true).all id = true by simp]
      exact q _ hp.2
def spCheckDigits (K : PySem.W.Frag) : Sp := fun vs H Q _ => ∃ (l : Addr) (ns : List Int), vs = [.ref l] ∧ H l = some (.lst (ns.map V.int)) ∧ ns.length ≤ 1000 ∧ (∀ z ∈ ns, -(10 ^ 60) < z ∧ z < 10 ^ 60) ∧ ∀ H', Ex H H' → Q .non H'
theorem ok_check_digits (T : Txt K mg) {f : Addr} {fd : FuncData} (D : DefAt K mg "check_digits" sCheckDigits ["numbers"] f fd) : FnOk P w K mg base CX0 2 f fd ["numbers"] (spCheckDigits K) := by
  refine D.F.ok scCheckDigits (fun vs H Q E h => ?_) (fun cdv A outer s H vs Q E hr h => ?_)
  · obtain ⟨l, ns, rfl, _⟩ := h
    rfl
  · obtain ⟨l, ns, rfl, hl, h1000, hb, k⟩ := h
    obtain ⟨f1, fd1, D1⟩ := T.d_is_integer
    refine ⟨_, pss_one (ps_if (pt_not (pt_val (pe_callB (cr_all rfl) (by rfl) T.z_all (by decide +kernel) (pa_cons (pe_lc (own := [("number", 1)]) (g := gName 1) (tt := tYes) rfl scCheckDigits.nd (pi_list (pv 0))
        (blkOk_by (N := nCheckDigits) (sc := defScope sCheckDigits) (by decide +kernel)) (fun _ _ _ _ _ => pg_name (i := 1) scCheckDigits.nd rfl (Or.inl rfl)) (fun _ _ _ _ _ => pts_nil)
        (fun _ _ _ _ _ => pe_call (ok_is_integer T D1) hr (by rfl) D1.g D1.F.kp D1.b .nil pass0 (pa_cons (pv 1) pa_nil))) pa_nil)))) pss_never pss_nil), ?_⟩
    refine ⟨_, rfl, l, rfl, ⟨_, SqL.of hl⟩, fun Dl hD => ?_⟩
    refine lc_list (K := K) (a := l) (xs := ns.map V.int) (fun i H' => H' Dl = some (.lst ((List.replicate i true).map V.bl)) ∧ Ex H H') ⟨upd_same, Ex.new hD⟩ (fun i H' _ hp => SqL.of (hp.2 _ _ hl)) (fun i x H' hx hp => ?_) (fun H' hp => ?_)
    · obtain ⟨w1, w2⟩ := hp
      have hi : i < ns.length := by
        have := (List.getElem?_eq_some_iff.mp hx).1
        rw [List.length_map] at this
        exact this
      rw [int_get5 hi] at hx
      obtain rfl := Option.some.inj hx
      obtain ⟨b1, b2⟩ := hb (ns.getD i 0) (by rw [List.getD_eq_getElem?_getD, List.getElem?_eq_getElem hi]; exact List.getElem_mem hi)
      refine ⟨rfl, ?_⟩
      dsimp only [tYes]
      rw [if_pos rfl]
      refine ⟨_, rfl, _, true, rfl, ?_, fun H3 e3 => ⟨_, e3 _ _ w1, ?_, ?_, Ex.mut (w2.trans e3) hD⟩⟩
      · have := IntB.int (K := K) (H := H') (ns.getD i 0)
        rw [decide_eq_true b1, decide_eq_true b2] at this
        exact this
      · rw [List.length_map, List.length_replicate]
        exact small1000 (by omega)
      · rw [upd_same, List.replicate_succ', List.map_append]
        rfl
    · refine ⟨Dl, List.replicate (ns.map V.int).length true, rfl, SqL.of hp.1, ?_⟩
      rw [show (List.replicate (ns.map V.int).length true).all id = true by simp]
      exact ⟨_, rfl, iteF (k _ hp.2)⟩
end
end K1

/-! plain mathematics of deals: numbers by places, linear readings of them -/
namespace DM
abbrev Pl := Int × Int
abbrev Dl := List (Pl × Int)
def getE (ds : Dl) (p : Pl) : Option Int := (ds.find? fun e => decide (e.1 = p)).map (·.2)
def g0 (ds : Dl) (p : Pl) : Int := (getE ds p).getD 0
def putE (ds : Dl) (p : Pl) (v : Int) : Dl := if (ds.any fun e => decide (e.1 = p)) = true then ds.map (fun e => if e.1 = p then (e.1, v) else e) else ds ++ [(p, v)]
def NK (ds : Dl) : Prop := (ds.map (·.1)).Nodup
/-- a linear reading -/
def Sf (f : Pl → Int) : Dl → Int
  | [] => 0
  | e :: r => f e.1 * e.2 + Sf f r
/-- all absolute numbers -/
def Ab : Dl → Int
  | [] => 0
  | e :: r => (e.2.natAbs : Int) + Ab r
theorem getE_pos {e : Pl × Int} {r : Dl} {p : Pl} (h : e.1 = p) : getE (e :: r) p = some e.2 := by simp [getE, List.find?_cons, h]
theorem getE_neg {e : Pl × Int} {r : Dl} {p : Pl} (h : ¬ e.1 = p) : getE (e :: r) p = getE r p := by simp [getE, List.find?_cons, h]
theorem getE_any (p : Pl) : ∀ ds : Dl, (ds.any fun e => decide (e.1 = p)) = (getE ds p).isSome
  | [] => rfl
  | e :: r => by
    rw [List.any_cons]
    by_cases h : e.1 = p
    · rw [getE_pos h, decide_eq_true h]
      rfl
    · rw [getE_neg h, decide_eq_false h, getE_any p r]
      rfl
theorem getE_mem {p : Pl} {v : Int} : ∀ {ds : Dl}, getE ds p = some v → (p, v) ∈ ds
  | [], h => by cases h
  | e :: r, h => by
    by_cases q : e.1 = p
    · rw [getE_pos q] at h
      obtain rfl := Option.some.inj h
      rw [← q]
      exact List.mem_cons_self
    · rw [getE_neg q] at h
      exact List.mem_cons_of_mem _ (getE_mem h)
theorem getE_none {p : Pl} {ds : Dl} (h : getE ds p = none) : ∀ e ∈ ds, e.1 ≠ p := fun e he z => by
  have := getE_any p ds
  rw [h] at this
  have t : (ds.any fun e => decide (e.1 = p)) = true := List.any_eq_true.mpr ⟨e, he, decide_eq_true z⟩
  rw [t] at this
  cases this
theorem getE_of {p : Pl} {v : Int} : ∀ {ds : Dl}, NK ds → (p, v) ∈ ds → getE ds p = some v
  | [], _, h => by cases h
  | e :: r, n, h => by
    obtain ⟨n1, n2⟩ := List.nodup_cons.mp n
    rcases List.mem_cons.mp h with q | q
    · subst q
      exact getE_pos rfl
    · have : ¬ e.1 = p := fun z => n1 (List.mem_map.mpr ⟨(p, v), q, z.symm⟩)
      rw [getE_neg this]
      exact getE_of n2 q
theorem Sf_append (f : Pl → Int) : ∀ a b : Dl, Sf f (a ++ b) = Sf f a + Sf f b
  | [], b => (Int.zero_add _).symm
  | e :: a, b => by
    show f e.1 * e.2 + Sf f (a ++ b) = f e.1 * e.2 + Sf f a + Sf f b
    rw [Sf_append f a b, Int.add_assoc]
theorem Ab_append : ∀ a b : Dl, Ab (a ++ b) = Ab a + Ab b
  | [], b => (Int.zero_add _).symm
  | e :: a, b => by
    show (e.2.natAbs : Int) + Ab (a ++ b) = (e.2.natAbs : Int) + Ab a + Ab b
    rw [Ab_append a b, Int.add_assoc]
theorem Ab_nonneg : ∀ a : Dl, 0 ≤ Ab a
  | [] => Int.le_refl 0
  | e :: a => by
    have := Ab_nonneg a
    show 0 ≤ (e.2.natAbs : Int) + Ab a
    omega
theorem Ab_mem : ∀ {ds : Dl} {e : Pl × Int}, e ∈ ds → (e.2.natAbs : Int) ≤ Ab ds
  | [], e, h => by cases h
  | d :: r, e, h => by
    show _ ≤ (d.2.natAbs : Int) + Ab r
    have := Ab_nonneg r
    rcases List.mem_cons.mp h with q | q
    · rw [q]
      omega
    · have := Ab_mem q
      omega
theorem map_no {p : Pl} {v : Int} : ∀ {ds : Dl}, (∀ e ∈ ds, e.1 ≠ p) → ds.map (fun e => if e.1 = p then (e.1, v) else e) = ds
  | [], _ => rfl
  | e :: r, h => by
    rw [List.map_cons, if_neg (h e List.mem_cons_self), map_no fun x hx => h x (List.mem_cons_of_mem _ hx)]
theorem put_map {f : Pl → Int} {p : Pl} {v o : Int} : ∀ {ds : Dl}, NK ds → getE ds p = some o → Sf f (ds.map fun e => if e.1 = p then (e.1, v) else e) = Sf f ds + f p * (v - o) ∧ Ab (ds.map fun e => if e.1 = p then (e.1, v) else e) + (o.natAbs : Int) = Ab ds + (v.natAbs : Int)
  | [], _, h => by cases h
  | e :: r, n, h => by
    obtain ⟨n1, n2⟩ := List.nodup_cons.mp n
    by_cases q : e.1 = p
    · rw [getE_pos q] at h
      obtain rfl := Option.some.inj h
      have no : ∀ x ∈ r, x.1 ≠ p := fun x hx z => n1 (List.mem_map.mpr ⟨x, hx, z.trans q.symm⟩)
      rw [List.map_cons, if_pos q, map_no no]
      constructor
      · show f e.1 * v + Sf f r = f e.1 * e.2 + Sf f r + f p * (v - e.2)
        rw [q, Int.mul_sub]
        omega
      · show (v.natAbs : Int) + Ab r + _ = (e.2.natAbs : Int) + Ab r + _
        omega
    · rw [getE_neg q] at h
      obtain ⟨a, b⟩ := put_map (f := f) (v := v) n2 h
      rw [List.map_cons, if_neg q]
      constructor
      · show f e.1 * e.2 + Sf f _ = f e.1 * e.2 + Sf f r + f p * (v - o)
        rw [a]
        omega
      · show (e.2.natAbs : Int) + Ab _ + _ = (e.2.natAbs : Int) + Ab r + _
        omega
/-- what a number put at a place changes -/
theorem put_sum {f : Pl → Int} {p : Pl} {x : Int} {ds : Dl} (n : NK ds) : Sf f (putE ds p (g0 ds p + x)) = Sf f ds + f p * x ∧ Ab (putE ds p (g0 ds p + x)) ≤ Ab ds + (x.natAbs : Int) := by
  unfold putE
  have a := getE_any p ds
  cases h : getE ds p with
  | none =>
    rw [h] at a
    have z : g0 ds p = 0 := by
      unfold g0
      rw [h]
      rfl
    rw [if_neg (by rw [a]; decide), Sf_append, Ab_append, z, Int.zero_add]
    constructor
    · show Sf f ds + (f p * x + 0) = _
      omega
    · show Ab ds + ((x.natAbs : Int) + 0) ≤ _
      omega
  | some o =>
    rw [h] at a
    have z : g0 ds p = o := by
      unfold g0
      rw [h]
      rfl
    rw [if_pos (by rw [a]; rfl), z]
    obtain ⟨b, c⟩ := put_map (f := f) (v := o + x) n h
    constructor
    · rw [b, show o + x - o = x by omega]
    · omega
theorem put_keys {p : Pl} {v : Int} {ds : Dl} : ∀ e ∈ putE ds p v, e.1 = p ∨ ∃ d ∈ ds, d.1 = e.1 := fun e he => by
  unfold putE at he
  split at he
  · obtain ⟨d, hd, rfl⟩ := List.mem_map.mp he
    refine .inr ⟨d, hd, ?_⟩
    split <;> rfl
  · rcases List.mem_append.mp he with h | h
    · exact .inr ⟨e, h, rfl⟩
    · rw [List.mem_singleton.mp h]
      exact .inl rfl
theorem put_nk {p : Pl} {v : Int} {ds : Dl} (n : NK ds) : NK (putE ds p v) := by
  unfold NK putE
  have a := getE_any p ds
  cases h : getE ds p with
  | none =>
    rw [h] at a
    rw [if_neg (by rw [a]; decide), List.map_append]
    refine List.nodup_append.mpr ⟨n, by simp, fun x hx y hy => ?_⟩
    rw [List.mem_singleton.mp hy]
    obtain ⟨e, he, rfl⟩ := List.mem_map.mp hx
    exact getE_none h e he
  | some o =>
    rw [h] at a
    rw [if_pos (by rw [a]; rfl), List.map_map]
    have : ds.map ((fun e => e.1) ∘ fun e => if e.1 = p then (e.1, v) else e) = ds.map (·.1) := List.map_congr_left fun e _ => by
      show (if e.1 = p then (e.1, v) else e).1 = e.1
      split <;> rfl
    rw [this]
    exact n
theorem put_len (ds : Dl) (p : Pl) (v : Int) : (putE ds p v).length ≤ ds.length + 1 := by
  unfold putE
  split
  · rw [List.length_map]
    omega
  · rw [List.length_append]
    exact Nat.le_refl _
theorem put_get {ds : Dl} (n : NK ds) {p q : Pl} {v : Int} (h : ¬ q = p) : getE (putE ds p v) q = getE ds q := by
  unfold putE
  split
  · clear n
    induction ds with
    | nil => rfl
    | cons e r ih =>
      rename_i hh
      by_cases z : e.1 = p
      · rw [List.map_cons, if_pos z, getE_neg (by show ¬ e.1 = q; rw [z]; exact fun y => h y.symm), getE_neg (by rw [z]; exact fun y => h y.symm)]
        by_cases any : (r.any fun e => decide (e.1 = p)) = true
        · exact ih any
        · have no : ∀ x ∈ r, x.1 ≠ p := fun x hx y => any (List.any_eq_true.mpr ⟨x, hx, decide_eq_true y⟩)
          rw [map_no no]
      · have any : (r.any fun e => decide (e.1 = p)) = true := by
          rw [List.any_cons, decide_eq_false z, Bool.false_or] at hh
          exact hh
        rw [List.map_cons, if_neg z]
        by_cases y : e.1 = q
        · rw [getE_pos y, getE_pos y]
        · rw [getE_neg y, getE_neg y, ih any]
  · clear n
    induction ds with
    | nil =>
      show getE [(p, v)] q = none
      rw [getE_neg (by exact fun y => h y.symm)]
      rfl
    | cons e r ih =>
      rename_i hh
      have any : ¬ (r.any fun e => decide (e.1 = p)) = true := fun y => hh (by rw [List.any_cons, y, Bool.or_true])
      rw [List.cons_append]
      by_cases y : e.1 = q
      · rw [getE_pos y, getE_pos y]
      · rw [getE_neg y, getE_neg y, ih any]
/-! ### the told sum: keys in any order, zeros left out -/
def told (ds : Dl) (ks : List Pl) : Dl := (ks.map fun k => (k, g0 ds k)).filter fun e => !decide (e.2 = 0)
theorem keys_back {ds : Dl} (n : NK ds) : ds = (ds.map (·.1)).map fun k => (k, g0 ds k) := by
  rw [List.map_map]
  conv => lhs; rw [← List.map_id ds]
  refine List.map_congr_left fun e he => ?_
  show e = (e.1, g0 ds e.1)
  unfold g0
  rw [getE_of n (p := e.1) (v := e.2) he]
  rfl
theorem Sf_perm {f : Pl → Int} {a b : Dl} (p : a.Perm b) : Sf f a = Sf f b := by
  induction p with
  | nil => rfl
  | cons x _ ih =>
    show f x.1 * x.2 + Sf f _ = f x.1 * x.2 + Sf f _
    rw [ih]
  | swap x y l =>
    show f y.1 * y.2 + (f x.1 * x.2 + Sf f l) = f x.1 * x.2 + (f y.1 * y.2 + Sf f l)
    omega
  | trans _ _ h1 h2 => exact h1.trans h2
theorem Ab_perm {a b : Dl} (p : a.Perm b) : Ab a = Ab b := by
  induction p with
  | nil => rfl
  | cons x _ ih =>
    show (x.2.natAbs : Int) + Ab _ = (x.2.natAbs : Int) + Ab _
    rw [ih]
  | swap x y l =>
    show (y.2.natAbs : Int) + ((x.2.natAbs : Int) + Ab l) = (x.2.natAbs : Int) + ((y.2.natAbs : Int) + Ab l)
    omega
  | trans _ _ h1 h2 => exact h1.trans h2
theorem Sf_zero {f : Pl → Int} : ∀ ds : Dl, Sf f (ds.filter fun e => !decide (e.2 = 0)) = Sf f ds
  | [] => rfl
  | e :: r => by
    by_cases h : e.2 = 0
    · rw [List.filter_cons, if_neg (by rw [decide_eq_true h]; decide), Sf_zero r]
      show _ = f e.1 * e.2 + Sf f r
      rw [h, Int.mul_zero, Int.zero_add]
    · rw [List.filter_cons, if_pos (by rw [decide_eq_false h]; rfl)]
      show f e.1 * e.2 + Sf f _ = f e.1 * e.2 + Sf f r
      rw [Sf_zero r]
theorem Ab_zero : ∀ ds : Dl, Ab (ds.filter fun e => !decide (e.2 = 0)) ≤ Ab ds
  | [] => Int.le_refl _
  | e :: r => by
    have := Ab_zero r
    rw [List.filter_cons]
    split
    · show (e.2.natAbs : Int) + Ab _ ≤ (e.2.natAbs : Int) + Ab r
      omega
    · show _ ≤ (e.2.natAbs : Int) + Ab r
      omega
theorem told_perm {ds : Dl} (n : NK ds) {ks : List Pl} (p : ks.Perm (ds.map (·.1))) : (ks.map fun k => (k, g0 ds k)).Perm ds := by
  have := p.map fun k => (k, g0 ds k)
  rw [← keys_back n] at this
  exact this
theorem told_sum {f : Pl → Int} {ds : Dl} (n : NK ds) {ks : List Pl} (p : ks.Perm (ds.map (·.1))) : Sf f (told ds ks) = Sf f ds := (Sf_zero _).trans (Sf_perm (told_perm n p))
theorem told_abs {ds : Dl} (n : NK ds) {ks : List Pl} (p : ks.Perm (ds.map (·.1))) : Ab (told ds ks) ≤ Ab ds := by
  have := Ab_zero (ks.map fun k => (k, g0 ds k))
  rw [Ab_perm (told_perm n p)] at this
  exact this
theorem told_keys {ds : Dl} {ks : List Pl} : ∀ e ∈ told ds ks, e.1 ∈ ks := fun e he => by
  obtain ⟨k, hk, rfl⟩ := List.mem_map.mp (List.mem_filter.mp he).1
  exact hk
theorem told_nk {ds : Dl} {ks : List Pl} (n : ks.Nodup) : NK (told ds ks) := by
  unfold NK told
  have s : ((ks.map fun k => (k, g0 ds k)).filter fun e => !decide (e.2 = 0)).Sublist (ks.map fun k => (k, g0 ds k)) := List.filter_sublist
  have s2 := s.map (·.1)
  rw [List.map_map] at s2
  have : ks.map ((fun e : Pl × Int => e.1) ∘ fun k => (k, g0 ds k)) = ks := by
    conv => rhs; rw [← List.map_id ks]
    rfl
  rw [this] at s2
  exact n.sublist s2
theorem told_snoc {ds : Dl} {ks : List Pl} {k : Pl} : told ds (ks ++ [k]) = told ds ks ++ (if g0 ds k = 0 then [] else [(k, g0 ds k)]) := by
  unfold told
  rw [List.map_append, List.filter_append]
  congr 1
  show [(k, g0 ds k)].filter _ = _
  rw [List.filter_cons]
  by_cases h : g0 ds k = 0
  · rw [if_neg (show ¬ (!decide ((k, g0 ds k).2 = 0)) = true by rw [decide_eq_true h]; decide), if_pos h]
    rfl
  · rw [if_pos (show (!decide ((k, g0 ds k).2 = 0)) = true by rw [decide_eq_false h]; rfl), if_neg h]
    rfl
end DM

/-! plain mathematics of classes: a class as a degree and a reading of each ring -/
namespace DM
open K1N
theorem Sf_congr {f g : Pl → Int} : ∀ {ds : Dl}, (∀ e ∈ ds, f e.1 = g e.1) → Sf f ds = Sf g ds
  | [], _ => rfl
  | e :: r, h => by
    show f e.1 * e.2 + Sf f r = g e.1 * e.2 + Sf g r
    rw [h e List.mem_cons_self, Sf_congr fun x hx => h x (List.mem_cons_of_mem _ hx)]
theorem Sf_lin (f g : Pl → Int) (c : Int) : ∀ ds : Dl, Sf (fun p => f p + c * g p) ds = Sf f ds + c * Sf g ds
  | [] => by
    show (0 : Int) = 0 + c * 0
    rw [Int.mul_zero, Int.add_zero]
  | e :: r => by
    show (f e.1 + c * g e.1) * e.2 + Sf _ r = f e.1 * e.2 + Sf f r + c * (g e.1 * e.2 + Sf g r)
    rw [Sf_lin f g c r, Int.add_mul, Int.mul_add, Int.mul_assoc]
    omega
theorem Sf_le {f : Pl → Int} (h : ∀ p, f p = 1 ∨ f p = 0) : ∀ ds : Dl, (Sf f ds).natAbs ≤ (Ab ds).natAbs
  | [] => Nat.le_refl _
  | e :: r => by
    have a := Sf_le h r
    have b := Ab_nonneg r
    have t : Ab (e :: r) = (e.2.natAbs : Int) + Ab r := rfl
    have u : Sf f (e :: r) = f e.1 * e.2 + Sf f r := rfl
    rcases h e.1 with q | q
    · rw [t, u, q, Int.one_mul]
      omega
    · rw [t, u, q, Int.zero_mul, Int.zero_add]
      omega
def one : Pl → Int := fun _ => 1
/-- what a chip at a place counts for a ring: its place, or a step of the ring for a chip ahead -/
def tau (rs : List (Int × Int)) (i : Nat) : Pl → Int := fun p => if p.1 = (i : Int) then p.2 else if p.1 < (i : Int) then sAt rs i else 0
def wname (rs : List (Int × Int)) (p : Pl) : Pl := if own rs p then p else (p.1 - 1, 0)
theorem tau_wname {rs : List (Int × Int)} {p : Pl} (h : 0 ≤ p.1) (i : Nat) : tau rs i (wname rs p) = tau rs i p := by
  unfold wname
  by_cases o : own rs p = true
  · rw [if_pos o]
  · rw [if_neg o]
    have o2 : 0 < p.1 ∧ p.2 = sAt rs p.1.toNat := by
      unfold own at o
      simpa using o
    unfold tau
    show (if p.1 - 1 = (i : Int) then 0 else if p.1 - 1 < (i : Int) then sAt rs i else 0) = _
    by_cases e1 : p.1 = (i : Int)
    · rw [if_neg (by omega), if_pos (by omega), if_pos e1, o2.2, show p.1.toNat = i by omega]
    · rw [if_neg e1]
      by_cases e2 : p.1 < (i : Int)
      · rw [if_neg (by omega), if_pos (by omega), if_pos e2]
      · rw [if_neg e2]
        by_cases e3 : p.1 - 1 = (i : Int)
        · rw [if_pos e3]
        · rw [if_neg e3, if_neg (by omega)]
/-- valid places -/
def PlIn (rs : List (Int × Int)) (p : Pl) : Prop := (0 ≤ p.1 ∧ p.1 < (rs.length : Int)) ∧ 0 ≤ p.2 ∧ p.2 < (nAt rs p.1.toNat : Int)
def KIn (rs : List (Int × Int)) (ds : Dl) : Prop := ∀ e ∈ ds, PlIn rs e.1
/-- the tuple of a class by its readings -/
def cx (rs : List (Int × Int)) (t : Nat → Int) : List Int := (List.range rs.length).map fun i => (t i - (i : Int) * sAt rs i) % (nAt rs i : Int)
theorem cx_congr {rs : List (Int × Int)} {t u : Nat → Int} (h : ∀ i, i < rs.length → t i = u i) : cx rs t = cx rs u := by
  unfold cx
  refine List.map_congr_left fun i hi => ?_
  rw [h i (List.mem_range.mp hi)]
theorem cx_len (rs : List (Int × Int)) (t : Nat → Int) : (cx rs t).length = rs.length := by
  unfold cx
  rw [List.length_map, List.length_range]
theorem cx_get {rs : List (Int × Int)} {t : Nat → Int} {i : Nat} (h : i < rs.length) : (cx rs t).getD i 0 = (t i - (i : Int) * sAt rs i) % (nAt rs i : Int) := by
  unfold cx
  rw [List.getD_eq_getElem?_getD, List.getElem?_map, List.getElem?_range h]
  rfl
def td (rs : List (Int × Int)) (ds : Dl) : Nat → Int := fun i => Sf (tau rs i) ds
theorem mod_add3 (a b c n : Int) : (a % n + b % n + c) % n = (a + b + c) % n := by
  have ea := Int.mul_ediv_add_emod a n
  have eb := Int.mul_ediv_add_emod b n
  have : a + b + c = a % n + b % n + c + n * (a / n + b / n) := by
    rw [Int.mul_add]
    omega
  rw [this, Int.add_mul_emod_self_left]
theorem mod_sub3 (a b c n : Int) : (a % n - b % n - c) % n = (a - b - c) % n := by
  have ea := Int.mul_ediv_add_emod a n
  have eb := Int.mul_ediv_add_emod b n
  have : a - b - c = a % n - b % n - c + n * (a / n - b / n) := by
    rw [Int.mul_sub]
    omega
  rw [this, Int.add_mul_emod_self_left]
theorem mod_add2 (a c n : Int) : (a % n + c) % n = (a + c) % n := by
  have ea := Int.mul_ediv_add_emod a n
  have : a + c = a % n + c + n * (a / n) := by omega
  rw [this, Int.add_mul_emod_self_left]
/-- rests of a sum, a difference, chips at the ends -/
theorem sum_rest (t u s n i : Int) : ((t - i * s) % n + (u - i * s) % n + i * s) % n = (t + u - i * s) % n := by
  rw [mod_add3]
  congr 1
  omega
theorem less_rest (t u s n i : Int) : ((t - i * s) % n - (u - i * s) % n - i * s) % n = (t - u - i * s) % n := by
  rw [mod_sub3]
  congr 1
  omega
theorem ends_rest (t a s n i : Int) : ((t - i * s) % n + a * s) % n = (t + a * s - i * s) % n := by
  rw [mod_add2]
  congr 1
  omega
/-! ### the readings ring by ring -/
def ind (i : Nat) : Pl → Int := fun p => if p.1 = (i : Int) then 1 else 0
def spt (i : Nat) : Pl → Int := fun p => if p.1 = (i : Int) then p.2 else 0
def bef (i : Nat) : Pl → Int := fun p => if p.1 < (i : Int) then 1 else 0
theorem bef_zero {rs : List (Int × Int)} {ds : Dl} (h : KIn rs ds) : Sf (bef 0) ds = 0 := by
  have : Sf (bef 0) ds = Sf (fun _ => 0) ds := Sf_congr fun e he => by
    have := (h e he).1.1
    unfold bef
    rw [if_neg (by omega)]
  rw [this]
  clear this h
  induction ds with
  | nil => rfl
  | cons e r ih =>
    show 0 * e.2 + Sf (fun _ => 0) r = 0
    rw [ih, Int.zero_mul]
    rfl
theorem bef_succ (ds : Dl) (i : Nat) : Sf (bef (i + 1)) ds = Sf (bef i) ds + Sf (ind i) ds := by
  have a := Sf_lin (bef i) (ind i) 1 ds
  rw [Int.one_mul] at a
  rw [← a]
  refine Sf_congr fun e _ => ?_
  unfold bef ind
  by_cases q : e.1.1 < (i : Int)
  · rw [if_pos (by omega), if_pos q, if_neg (by omega)]
    rfl
  · by_cases z : e.1.1 = (i : Int)
    · rw [if_pos (by omega), if_neg q, if_pos z]
      rfl
    · rw [if_neg (by omega), if_neg q, if_neg z]
      rfl
theorem tau_parts (rs : List (Int × Int)) (ds : Dl) (i : Nat) : Sf (spt i) ds + sAt rs i * Sf (bef i) ds = Sf (tau rs i) ds := by
  rw [← Sf_lin (spt i) (bef i) (sAt rs i) ds]
  refine Sf_congr fun e _ => ?_
  unfold spt bef tau
  by_cases z : e.1.1 = (i : Int)
  · rw [if_pos z, if_neg (by omega), if_pos z, Int.mul_zero, Int.add_zero]
  · rw [if_neg z, if_neg z]
    by_cases q : e.1.1 < (i : Int)
    · rw [if_pos q, if_pos q, Int.mul_one, Int.zero_add]
    · rw [if_neg q, if_neg q, Int.mul_zero]
      rfl
theorem bef_all {rs : List (Int × Int)} {ds : Dl} (h : KIn rs ds) : Sf (bef rs.length) ds = Sf one ds := Sf_congr fun e he => by
  unfold bef one
  rw [if_pos (h e he).1.2]
end DM

/-! own rule: a dict comprehension whose keys are tuples -/
namespace DR
open PySem PySem.Spec PyProof.Rows L2
/-- the block's own store, the key a tuple of ints and texts -/
theorem put_tup {X : Cx} {pins : List (Addr × Obj)} {σ : L2.St} {H : Hp} {s : Shared} {E : Value → Shared → Prop} {D b : Addr} {kvs : List (List Key × V)} {k : List Key} {v : V} {r : Value} {Q : Unit → Shared → Prop} (hu : X.A.units < cLine) (I : Inv X pins σ H s) (hD : H D = some (.dT kvs)) (hz : kvs.length < sizeLine)
    (hb : H b = some (.tup (k.map kV))) (rv : RelV v r) (h : ∀ s', Inv X pins σ (upd H D (.dT (putK kvs k v))) s' → Q () s') : wpAny (model X.prog X.w) X.A (dictSet D (.ref b) r) Q E s := by
  obtain ⟨z, lo, xs, rel, dd⟩ := dt_of I.hok hD
  have hx : xs.length ≤ sizeLine := by rw [← Paired.length rel]; exact z
  have hl : (putK kvs k v).length ≤ sizeLine := by have := length_putK kvs k v; omega
  refine wpAny_dictSet_heap (hsz := hx) (show (tupleKind (mixKind X.prog X.w)).room X.A from hu) (key_of I.hok hb) dd fun h' dd' hs => h _ ?_
  obtain ⟨q, es, ep, hq, h2, h3, h4, _, h5⟩ := dd'
  refine d_write I (by rw [hD]; exact True.intro) hs ⟨q, hq⟩ ⟨hl, lo, _, (rel.put k hb rv).keeps fun c ys ec => ?_, q, es, ep, hq, h2, h3, h4, h5⟩
  rw [upd_ne (ne_of ec hD (fun z => nomatch z))]
  exact ec
/-- {k: v for target in iter if ..}, the keys tuples of ints and texts; D the new dict -/
def tDcT (wi : TI) (g : TG) (tt : TT) (tk tv : TE) (vs : List Nat) : TE := fun σ H Q => wi σ H fun J H1 => ∀ D, H1 D = none → ∃ W : Nat → Nat → Hp → Prop, (∃ m, W 0 m (upd H1 D (.dT []))) ∧ ∀ i m H, W i m H →
  (J.stop i H ∧ Q (.ref D) H) ∨ (J.go i H ∧ ∃ Nx : Hp → Prop, (∀ H', Nx H' → ∃ m', m' < m ∧ W (i + 1) m' H') ∧ ∀ x H', J.yld i H x H' → g x (wipe σ vs) H' fun σ2 H2 => wipe σ2 vs = wipe σ vs ∧ tt σ2 H2 fun b H3 =>
    if b = true then tk σ2 H3 fun y H4 => tv σ2 H4 fun z H5 => ∃ kvs k c, y = .ref c ∧ H5 c = some (.tup (k.map kV)) ∧ H5 D = some (.dT kvs) ∧ kvs.length < sizeLine ∧ Nx (upd H5 D (.dT (putK kvs k z))) else Nx H3)
theorem pe_dcT {X : Cx} {kx vx tg iter : Expr} {ifs : List Expr} {scope : Scope} {own : List (Str × Nat)} {pos : Pos} {wi : TI} {g : TG} {tt : TT} {tk tv : TE} (hc : X.calm = true) (hu : X.A.units < cLine) (hN : X.N.Nodup) (hi : PI X tg iter wi) (ok : BlkOk X.N X.env.scope scope own)
    (hg : ∀ (s : Shared) (H : Hp) (C : Addr) (cl : List (Str × Addr)) (fp : List Addr), PG (X.blk s H scope (compEnvC scope cl C X.env) fp) tg g) (ht : ∀ (s : Shared) (H : Hp) (C : Addr) (cl : List (Str × Addr)) (fp : List Addr), PTs (X.blk s H scope (compEnvC scope cl C X.env) fp) ifs tt)
    (hk : ∀ (s : Shared) (H : Hp) (C : Addr) (cl : List (Str × Addr)) (fp : List Addr), PE (X.blk s H scope (compEnvC scope cl C X.env) fp) kx tk)
    (he : ∀ (s : Shared) (H : Hp) (C : Addr) (cl : List (Str × Addr)) (fp : List Addr), PE (X.blk s H scope (compEnvC scope cl C X.env) fp) vx tv) (hs : ∀ x, foldedSetIterable iter X.env x = pure x := by intro _; rfl) :
    PE X (.DictComp kx vx [⟨tg, iter, ifs, 0⟩] scope pos) (tDcT wi g tt tk tv (own.map (·.2))) := by
  refine ⟨fun pins s σ H Q I h => ?_⟩
  rw [arm_eval_DictComp]
  have cap : ∀ y ∈ scope.names, y.2 = .free → ∃ c, X.env.cells.lookup y.1 = some c := fun y hy e => (ok.free y hy e).elim (fun k => I.ok.has _ (.inl k)) fun k => I.ok.has _ (.inr k)
  refine wpAny_comprehension_free (use := none) rfl hs (closure_ok cap) ok.kind (fun y hy e => by rw [ok.uniq y hy, e])
    (thn (hi.run pins s σ H _ I h) fun xv s1 hx => thn hx fun itv s2 h2 => ?_)
  obtain ⟨it, fp, tn, J, H2, e, I2, T, st2, f2, q⟩ := h2
  subst e
  refine wpAny_newObj_type (newEnv_comp ?_)
  generalize hD : s2.heap.objs.size = D
  have nD : H2 D = none := I2.hok.fresh (Nat.le_of_eq hD)
  obtain ⟨W, ⟨m0, w0⟩, turn⟩ := q D nD
  have J3 : ∃ s3 : Shared, s3 = { s2 with heap := s2.heap.push { cls := .type "dict", data := .dict #[] } } := ⟨_, rfl⟩
  obtain ⟨s3, hs3⟩ := J3
  have h3 : s3.heap = s2.heap.push { cls := .type "dict", data := .dict #[] } := by rw [hs3]
  have I3 : Inv X pins σ (upd H2 D (.dT [])) s3 := by
    rw [hs3]
    refine I2.laid (t' := s2.toks) (fun b o e => Heap.get?_push_of_some _ e) (Nat.le_of_eq hD) ?_
    rw [← hD]
    exact dt_empty s2.heap I2.big
  have low : ∀ b ∈ fp, b < s2.heap.objs.size := fun b hb => by
    obtain ⟨o, e, _⟩ := T.obj _ _ st2 b hb
    exact Heap.lt_size e
  have f3 : ∀ b ∈ fp, FpOk X pins (upd H2 D (.dT [])) b ∧ b < s3.heap.objs.size := fun b hb => by
    have lt := low b hb
    refine ⟨⟨?_, (f2 b hb).2⟩, by rw [h3, Heap.size_push]; exact Nat.lt_succ_of_lt lt⟩
    rw [upd_ne (by rw [← hD]; exact Nat.ne_of_lt lt)]
    exact (f2 b hb).1
  have st3 : tn 0 s3.heap := T.keep _ _ _ st2 fun b _ o e => by rw [h3]; exact Heap.get?_push_of_some _ e
  have I4 := block_start I3 ok hN f3
  have pg := hg s3 (upd H2 D (.dT [])) s3.heap.objs.size (cellsFrom (s3.heap.objs.size + 1) scope.names (cloFrom X.env.cells scope.names [])) fp
  have pt := ht s3 (upd H2 D (.dT [])) s3.heap.objs.size (cellsFrom (s3.heap.objs.size + 1) scope.names (cloFrom X.env.cells scope.names [])) fp
  have pk := hk s3 (upd H2 D (.dT [])) s3.heap.objs.size (cellsFrom (s3.heap.objs.size + 1) scope.names (cloFrom X.env.cells scope.names [])) fp
  have pe := he s3 (upd H2 D (.dT [])) s3.heap.objs.size (cellsFrom (s3.heap.objs.size + 1) scope.names (cloFrom X.env.cells scope.names [])) fp
  rw [← hs3]
  show codeAny _ _ (.compStart (.DictComp kx vx [⟨tg, iter, ifs, 0⟩] scope pos) 0 (.ref it) (.ref D) (compEnvC scope (cellsFrom (s3.heap.objs.size + 1) scope.names (cloFrom X.env.cells scope.names [])) s3.heap.objs.size X.env)) (compPost (model X.prog X.w) X.A X.xe none (EP X pins σ Q) (.ref D) s3.heap.objs.size) { s3 with heap := pushCells (s3.heap.push { cls := .type "dict", data := .dict #[] }) scope.names }
  have clear : ∀ b ∈ fp, (upd H2 D (.dT [])) b = none := fun b hb => (f3 b hb).1.1
  generalize hce : compEnvC scope (cellsFrom (s3.heap.objs.size + 1) scope.names (cloFrom X.env.cells scope.names [])) s3.heap.objs.size X.env = ce at I4 pg pt pk pe ⊢
  have cL : ce.locals = s3.heap.objs.size := by subst hce; rfl
  generalize upd H2 D (.dT []) = H3 at I3 I4 pg pt pk pe w0 clear f3
  generalize hs4 : ({ s3 with heap := pushCells (s3.heap.push { cls := .type "dict", data := .dict #[] }) scope.names } : Shared) = s4 at I4 ⊢
  have st4 : tn 0 s4.heap := T.keep _ _ _ st3 fun b _ o e => by rw [← hs4]; exact pushCells_keeps _ _ _ _ (Heap.get?_push_of_some _ e)
  have stat : ∀ {σ' : L2.St} {H' : Hp} {s' : Shared}, Inv (X.blk s3 H3 scope ce fp) [] σ' H' s' → (∀ b ∈ fp, H' b = none) → ∀ b ∈ fp, FpOk (X.blk s3 H3 scope ce fp) [] H' b := fun {σ' H' s'} I' hn b hb =>
    ⟨hn b hb, (I'.ok.exf b hb).1, I'.ok.exfs b hb, .inl hb, fun x c e => (I'.ok.exf b hb).2 x c e, fun p hp => absurd (show p ∈ ([] : List (Addr × Obj)) ++ [] from hp) (by simp)⟩
  have loop : codeAny (model X.prog X.w) X.A (.compLoop (.DictComp kx vx [⟨tg, iter, ifs, 0⟩] scope pos) 0 (.ref it) (.ref D) ce) (compPost (model X.prog X.w) X.A X.xe none (EP X pins σ Q) (.ref D) s3.heap.objs.size) s4 := by
    refine compLoop_anyD (fun n s' => ∃ i H', Inv (X.blk s3 H3 scope ce fp) [] (wipe σ (own.map (·.2))) H' s' ∧ tn i s'.heap ∧ (∀ b ∈ fp, H' b = none) ∧ W i n H') ?_ m0 ⟨0, H3, I4, st4, clear, w0⟩
    rintro n s5 ⟨i, H5, I5, st5, n5, w5⟩
    rcases turn i n H5 w5 with ⟨stop, qq⟩ | ⟨go, Nx, hNx, step⟩
    · refine thnF (T.done (X.blk s3 H3 scope ce fp) rfl rfl rfl hc i [] s5 _ H5 (fun _ _ => False) I5 (stat I5 n5) st5 stop) fun r s6 ⟨hr, I6⟩ => ?_
      subst hr
      have I7 : Inv X pins σ H5 s6 := I3.call' (ch := fp) I6.os I6.base I6.hok I6.bare fun b hb => ⟨(f3 b hb).1.2.2.2.1, (f3 b hb).1.2.1, (f3 b hb).1.2.2.2.2.1, (f3 b hb).1.2.2.2.2.2⟩
      have nC : H5 s3.heap.objs.size = none := cL ▸ (show H5 ce.locals = none from I6.free)
      obtain ⟨m, hn, _⟩ := I6.loc
      have hn' : s6.heap.Ns s3.heap.objs.size m := cL ▸ (show s6.heap.Ns ce.locals m from hn)
      obtain ⟨f0, f1, f3', f4, f5, f6⟩ := I3.fpOk (Nat.le_refl _) nC
      exact ⟨m, hn', fun h'' sb => ⟨.ref D, H5, I7.turned (t' := s6.toks) (fun b o hb e => (sb.2 b hb).trans e) f0 f1 f4 f5 f6, rfl, qq⟩⟩
    · refine thnF (T.item (X.blk s3 H3 scope ce fp) rfl rfl rfl hc i [] s5 _ H5 (fun _ _ => False) I5 (stat I5 n5) st5 go) fun r s6 ⟨u, hr, h6⟩ => ?_
      subst hr
      refine thnF h6 fun _ s7 ⟨x, H7, I7, r7, y7, st7, n7⟩ => ?_
      have P7 := I7.pinned (stat I7 n7) (T.obj _ _ st7)
      refine thnF (pg.run _ s7 _ H7 x u _ P7 r7 (step x H7 y7)) fun _ s8 ⟨σ8, H8, I8, hw8, q8⟩ => ?_
      refine thnF (pt.run _ s8 σ8 H8 _ I8 q8) fun b s9 ⟨H9, I9, q9⟩ => ?_
      have over : ∀ {s' : Shared} {H' : Hp}, Inv (X.blk s3 H3 scope ce fp) ([] ++ pinsAt fp s7.heap) σ8 H' s' → Nx H' → ∃ m, m < n ∧ ∃ i H', Inv (X.blk s3 H3 scope ce fp) [] (wipe σ (own.map (·.2))) H' s' ∧ tn i s'.heap ∧ (∀ b ∈ fp, H' b = none) ∧ W i m H' := fun {s' H'} I' nx => by
        obtain ⟨m', hm, w'⟩ := hNx H' nx
        have pin' : ∀ b ∈ fp, ∀ o, s7.heap.get? b = some o → s'.heap.get? b = some o ∧ H' b = none := fun b hb o e =>
          let z := I'.pin (b, o) (List.mem_append_right _ (List.mem_append_right _ (mem_pinsAt hb e)))
          ⟨z.1, z.2.1⟩
        refine ⟨m', hm, i + 1, H', (I'.unpinned (pins := [])).weak (by rw [← hw8, wipe_length]) (fun j v e => ?_), T.keep _ _ _ st7 fun b hb o e => (pin' b hb o e).1, fun b hb => ?_, w'⟩
        · rw [← hw8] at e
          exact (wipe_some e).1
        · obtain ⟨o, e, _⟩ := T.obj _ _ st7 b hb
          exact (pin' b hb o e).2
      cases b with
      | false => exact over I9 (by simpa using q9)
      | true =>
        simp only [if_true] at q9 ⊢
        refine thnF (pk.run _ s9 σ8 H9 _ I9 q9) fun z s10 ⟨yk, H10, I10, r10, q10⟩ => ?_
        refine thnF (pe.run _ s10 σ8 H10 _ I10 q10) fun z2 s11 ⟨yv, H11, I11, r11, kvs, k, c, ek, hc11, hD11, hz11, nx⟩ => ?_
        subst ek
        cases (show z = Value.ref c from r10)
        exact put_tup (X := X.blk s3 H3 scope ce fp) hu I11 hD11 hz11 hc11 r11 fun s12 I12 => over I12 nx
  exact codeAny_compStart_dict loop (T.self X.A 0 _ _ _ st4 loop)
end DR

/-! own rules: sorted(d) of a dict whose keys are pairs of ints -/
namespace DR
open PySem PySem.Spec PyProof.Rows L2 PySem.W
/-- the pair that a reference names -/
def keyP (H : Hp) : V → Int × Int
  | .ref t => match H t with
    | some (.tup [.int i, .int j]) => (i, j)
    | _ => (0, 0)
  | _ => (0, 0)
theorem keyP_of {H : Hp} {t : Addr} {i j : Int} (h : H t = some (.tup [.int i, .int j])) : keyP H (.ref t) = (i, j) := by
  show (match H t with | some (.tup [.int i, .int j]) => (i, j) | _ => ((0 : Int), (0 : Int))) = (i, j)
  rw [h]
def rSortedDT : List V → Hp → VK → Prop := fun vs H Q => ∃ (d : Addr) (kvs : List (List Key × V)), vs = [V.ref d] ∧ Rd H d (.dT kvs) ∧ (∀ p ∈ kvs, ∃ i j : Int, p.1 = [.inl i, .inl j]) ∧
  ∀ (bs : List Addr) (ys : List V) (p : Addr), IsKeys H kvs bs → ys.Perm (bs.map V.ref) → ys.Pairwise (fun x y => SrtO.lexB (keyP H y) (keyP H x) = false) → H p = none → Q (.ref p) (upd H p (.lst ys))
theorem isKeys_mem {H : Hp} : ∀ {kvs : List (List Key × V)} {bs : List Addr}, IsKeys H kvs bs → ∀ b ∈ bs, ∃ p ∈ kvs, H b = some (.tup (p.1.map kV))
  | _, _, .nil, b, hb => absurd hb (by simp)
  | p :: kvs, c :: bs, .cons r t, b, hb => by
    rcases List.mem_cons.mp hb with e | hb
    · exact ⟨p, List.mem_cons_self, e ▸ r⟩
    · obtain ⟨q, h1, h2⟩ := isKeys_mem (kvs := kvs) (bs := bs) t b hb
      exact ⟨q, List.mem_cons_of_mem _ h1, h2⟩
theorem cr_sortedDT {X : Cx} (hc : X.calm = true) : CallR X (.builtin "sorted") rSortedDT := by
  intro pins s σ H vs us Q I r h
  obtain ⟨d, kvs, rfl, hd, hkv, q⟩ := h
  obtain ⟨u, rfl, rx⟩ := r.one
  cases rx
  obtain ⟨z, hs, ks, pr, o, es, ep, ho, hx, hdt, he, hn⟩ := (show ObjOk X.prog X.w H s.heap d (.dT kvs) from hd.ok I.hok)
  have l1 : es.size = ks.length := size_of_entries he
  have l2 : kvs.length = ks.length := Paired.length pr
  refine Calls.call_function_entry kind_sorted plain_sorted entry_sorted (args_sorted1 _) ?_
  unfold Builtin.«sorted»
  refine wpAny_bind (m := checkCount "sorted" 1 1 _) (wpAny_pure ?_)
  refine wpAny_bind (kdu_collect (A := X.A.in1) (kdl_raw hs hx hdt) (I.ok.hd hc) ho (by omega) fun h' tk acc hk it => ?_)
  have ea : acc.toList = (ks.map fun x => x.2.1).map Value.ref := by
    rw [List.map_map]
    refine List.ext_getElem? fun j => ?_
    have hl : acc.toList.length = ks.length := by rw [Array.length_toList, it.1]; exact l1
    by_cases hj : j < ks.length
    · have gj : acc[j]? = some (acc[j]'(by rw [← Array.length_toList]; omega)) := Array.getElem?_eq_getElem _
      obtain ⟨en, hen, hv⟩ := it.2 j _ gj
      have qe := entry_at he j
      rw [hen, List.getElem?_eq_getElem hj] at qe
      have e2 : en = entryOfKey (tupleKind (mixKind X.prog X.w)) ks[j] := Option.some.inj qe
      rw [Array.getElem?_toList, gj, hv, e2, List.getElem?_map, List.getElem?_eq_getElem hj]
      rfl
    · rw [List.getElem?_eq_none (by omega), List.getElem?_eq_none (by rw [List.length_map]; omega)]
  have hik := isKeys_of pr
  generalize ks.map (fun x => x.2.1) = bs at ea hik
  have lb : bs.length = ks.length := by
    have := Paired.length hik
    omega
  rw [ea]
  refine wpAny_bind (wpAny_newList ?_ (by rw [List.length_map]; omega))
  have I1 : Inv X pins σ H { s with heap := h', toks := tk } := I.kept hk
  have I2 := I1.laid (t' := tk) (o := .lst (bs.map V.ref)) (h' := h'.push { cls := .type "list", data := .seq (bs.map Value.ref).toArray }) (a := h'.objs.size) (fun b u e => Heap.get?_push_of_some _ e) (Nat.le_refl _)
    ⟨by rw [List.length_map]; omega, bs.map Value.ref, 0, vals_refs bs, Heap.get?_push_size _ rfl⟩
  have nD : H h'.objs.size = none := I1.hok.fresh (Nat.le_refl _)
  have hob : (h'.push { cls := .type "list", data := .seq (bs.map Value.ref).toArray }).get? h'.objs.size = some (seqObj "list" (bs.map Value.ref).toArray 0) := Heap.get?_push_size _ rfl
  have isp : ∀ v ∈ bs.map Value.ref, Srt.IsPair (h'.push { cls := .type "list", data := .seq (bs.map Value.ref).toArray }) v (keyP H (backV v)).1 (keyP H (backV v)).2 := fun v hv => by
    obtain ⟨b, hb, rfl⟩ := List.mem_map.mp hv
    obtain ⟨p, hp, e⟩ := isKeys_mem hik b hb
    obtain ⟨i, j, e2⟩ := hkv p hp
    rw [e2] at e
    have e3 : H b = some (.tup [.int i, .int j]) := e
    have kp : keyP H (backV (Value.ref b)) = (i, j) := keyP_of e3
    rw [kp]
    obtain ⟨_, its2, r2, o2, ho2, hc2, n2, hd2⟩ := I2.hok b _ (by rw [upd_ne (ne_of_none e3 nD)]; exact e3)
    obtain ⟨u1, u2, rfl, ri, rj⟩ := vals2 r2
    obtain ⟨t1, rfl⟩ := ri
    obtain ⟨t2, rfl⟩ := rj
    exact ⟨b, o2, t1, t2, n2, rfl, ho2, hc2, hd2⟩
  have srt : wpAny (model X.prog X.w) X.A.in1 (call (.builtin "list.sort") [.ref h'.objs.size]) (fun _ s' => EP X pins σ Q (.ref h'.objs.size) s') X.xe { s with heap := h'.push { cls := .type "list", data := .seq (bs.map Value.ref).toArray }, toks := tk } := by
    refine wpAny_call_entry PyProof.Rows.slot_list_sort ⟨_, hob, rfl⟩ PyProof.Rows.entry_list_sort
      (SrtO.list_sort_ord (SrtO.swo_lex fun u => keyP H (backV u)) hob (by rw [List.length_map]; omega) (fun h2 => SrtO.pairs_sortableO (by omega) isp fun o' e => ?_) fun out h1 h2 => ⟨.none, rfl, ?_⟩) (PyProof.Rows.args_list_sort _)
    · have e' : some o' = some (seqObj "list" (bs.map Value.ref).toArray 0) := e.symm.trans hob
      cases e'
      intro c
      exact absurd (Value.type.inj c) (by decide)
    · have h3 : ∀ u ∈ out, ∃ a, u = Value.ref a := fun u hu => by
        obtain ⟨b, _, e⟩ := List.mem_map.mp (h2.perm.mem_iff.mp hu)
        exact ⟨b, e.symm⟩
      obtain ⟨ep', he'⟩ := PyProof.Rows.sortedHeap_at (vs := bs.map Value.ref) (out := out.toArray) hob
      have hp : (out.map backV).Perm (bs.map V.ref) := by
        have := h2.perm.map backV
        rw [List.map_map] at this
        exact this
      have I3 : Inv X pins σ (upd (upd H h'.objs.size (.lst (bs.map V.ref))) h'.objs.size (.lst (out.map backV))) { s with heap := PyProof.Rows.sortedHeap (h'.push { cls := .type "list", data := .seq (bs.map Value.ref).toArray }) h'.objs.size (bs.map Value.ref) out.toArray, toks := tk } := by
        refine I2.write (e := h'.objs.size) (t' := tk) (by rw [upd_same]; trivial) (.inl rfl) (fun b u hb hu => ?_) ⟨_, he'⟩ ⟨?_, out, ep', vals_back h3, he'⟩
        · rw [PyProof.Rows.sortedHeap_old hb (Heap.lt_size hu)]
          exact hu
        · rw [hp.length_eq, List.length_map]
          omega
      rw [upd_upd] at I3
      exact ⟨.ref _, _, I3, rfl, q bs _ _ hik hp (List.pairwise_map.mpr (h1.imp fun {x y} e => e)) nD⟩
  exact wpAny_bind (wpAny_holding (wpAny_mono srt (fun _ s' x => wpAny_pure ⟨_, rfl, x⟩) fun _ _ e => e))
end DR

/-! own rules: d.values() and list(d.values()) of a dict whose keys are tuples -/
namespace DR
open PySem PySem.Spec PyProof.Rows L2 PySem.W
/-- the view of d's values at p -/
def valsO (p d : Addr) : HO := .ext fun h => h.IsValuesView p d
theorem valsO_ok {P : Program} {w : World} {H : Hp} {h : Heap} {p d : Addr} (e : h.get? p = some { cls := .type "dict_values", data := .fields #[.ref d] }) : ObjOk P w H h p (valsO p d) :=
  ⟨⟨_, e, rfl, rfl⟩, ⟨_, e⟩, fun h1 h2 x k => let ⟨o, ho, r⟩ := x; ⟨o, k o ho, r⟩⟩
def rValsT : V → List V → Hp → VK → Prop := fun x xs H Q => ∃ (a : Addr) (kvs : List (List Key × V)), x = .ref a ∧ xs = [] ∧ H a = some (.dT kvs) ∧ ∀ p, H p = none → Q (.ref p) (upd H p (valsO p a))
theorem mt_valsT {X : Cx} : MtR X "dict.values" rValsT := by
  intro pins s σ H x xs v us Q I rx rxs h
  obtain ⟨a, kvs, rfl, rfl, ha, q⟩ := h
  cases rx
  cases rxs
  obtain ⟨z, lo, xs', rel, o, es, ep, ho, hx, hdat, _⟩ := dt_of I.hok ha
  have raw : s.heap.DictRaw a es ep := ⟨o, ho, hx, hdat⟩
  refine call_meetsIn PySem.F.slot_dict_values raw.typeIs PySem.F.entry_dict_values (PySem.F.args_dict_values_1 _) (meets_dict_values_raw a lo) ⟨⟨es, ep, raw⟩, ?_⟩
  exact ⟨.ref s.heap.objs.size, upd H s.heap.objs.size (valsO s.heap.objs.size a), I.laid (t' := s.toks) (fun b u e => Heap.get?_push_of_some _ e) (Nat.le_refl _) (valsO_ok (Heap.get?_push_size _ rfl)), rfl, q _ (I.hok.fresh (Nat.le_refl _))⟩
/-- list(view) -/
def rListVals : List V → Hp → VK → Prop := fun xs H Q => ∃ (p a : Addr) (kvs : List (List Key × V)), xs = [.ref p] ∧ H p = some (valsO p a) ∧ H a = some (.dT kvs) ∧ ∀ l, H l = none → Q (.ref l) (upd H l (.lst (kvs.map (·.2))))
theorem vals_snd {H : Hp} : ∀ {kvs : List (List Key × V)} {xs : List (List Key × Addr × Value)}, KT H kvs xs → Vals (kvs.map (·.2)) (xs.map fun x => x.2.2)
  | _, _, .nil => .nil
  | _ :: _, _ :: _, .cons r t => .cons r.2.2 (vals_snd t)
theorem cr_listVals {X : Cx} (hc : X.calm = true) : CallR X (.type "list") rListVals := by
  intro pins s σ H xs us Q I r h
  obtain ⟨p, a, kvs, rfl, hp, ha, q⟩ := h
  obtain ⟨u, rfl, rx⟩ := r.one
  cases rx
  obtain ⟨z, lo, ks, pr, o, es, ep, ho, hx, hdt, he, hn⟩ := (show ObjOk X.prog X.w H s.heap a (.dT kvs) from I.hok a _ ha)
  have hv : s.heap.IsValuesView p a := (I.hok p _ hp).1
  have raw : s.heap.DictRaw a es ep := ⟨o, ho, hx, hdt⟩
  have l1 : es.size = ks.length := size_of_entries he
  have l2 : kvs.length = ks.length := Paired.length pr
  refine kdl_call KdlSrc.rawValues (I.ok.hd hc) ⟨hv, raw⟩ (by omega) fun h' tk acc' c' kp e it => ?_
  have ea : acc'.toList = ks.map fun x => x.2.2 := by
    refine List.ext_getElem? fun j => ?_
    have hl : acc'.toList.length = ks.length := by rw [Array.length_toList, it.1]; exact l1
    by_cases hj : j < ks.length
    · have gj : acc'[j]? = some (acc'[j]'(by rw [← Array.length_toList]; omega)) := Array.getElem?_eq_getElem _
      obtain ⟨hi, hv'⟩ := it.2 j _ gj
      have qe := entry_at he j
      rw [Array.getElem?_eq_getElem hi, List.getElem?_eq_getElem hj] at qe
      have e2 : es[j] = entryOfKey (tupleKind (mixKind X.prog X.w)) ks[j] := Option.some.inj qe
      rw [Array.getElem?_toList, gj, hv', e2, List.getElem?_map, List.getElem?_eq_getElem hj]
      rfl
    · rw [List.getElem?_eq_none (by omega), List.getElem?_eq_none (by rw [List.length_map]; omega)]
  have rv : Vals (kvs.map (·.2)) acc'.toList := by
    rw [ea]
    exact vals_snd pr
  refine ⟨.ref s.heap.objs.size, _, I.laid (t' := tk) (o := .lst (kvs.map (·.2))) kp (Nat.le_refl _) ?_, rfl, q _ (I.hok.fresh (Nat.le_refl _))⟩
  exact ⟨by rw [List.length_map]; omega, acc'.toList, c', rv, by rw [Array.toArray_toList]; exact e⟩
end DR

namespace K1
open PySem PySem.Spec PyProof.Rows L2 Evl LX ZW ZM DM DR
/-! ### deals as dicts -/
def dk (p : Pl) : List Key := [.inl p.1, .inl p.2]
def ent (e : Pl × Int) : List Key × V := (dk e.1, .int e.2)
theorem dk_inj {p q : Pl} (h : dk p = dk q) : p = q := by
  unfold dk at h
  simp only [List.cons.injEq, Sum.inl.injEq, and_true] at h
  exact Prod.ext h.1 h.2
theorem dk_tup (p : Pl) : (dk p).map kV = [V.int p.1, V.int p.2] := rfl
theorem any_ent (ds : Dl) (p : Pl) : ((ds.map ent).any fun kv => decide (kv.1 = dk p)) = ds.any fun e => decide (e.1 = p) := by
  rw [List.any_map]
  congr 1
  funext e
  exact decide_eq_decide.mpr ⟨fun h => dk_inj h, fun h => by show dk e.1 = dk p; rw [h]⟩
theorem putK_ent (ds : Dl) (p : Pl) (v : Int) : putK (ds.map ent) (dk p) (.int v) = (putE ds p v).map ent := by
  unfold putK putE
  rw [any_ent]
  split
  · rw [List.map_map, List.map_map]
    refine List.map_congr_left fun e _ => ?_
    show (if (ent e).1 = dk p then ((ent e).1, V.int v) else ent e) = ent (if e.1 = p then (e.1, v) else e)
    by_cases h : e.1 = p
    · rw [if_pos (show (ent e).1 = dk p by show dk e.1 = dk p; rw [h]), if_pos h]
      rfl
    · rw [if_neg (show ¬ (ent e).1 = dk p from fun z => h (dk_inj z)), if_neg h]
  · rw [List.map_append]
    rfl
theorem valV_ent (p : Pl) : ∀ ds : Dl, valV (ds.map ent) (dk p) = (getE ds p).map V.int
  | [] => rfl
  | e :: r => by
    rw [List.map_cons]
    by_cases h : e.1 = p
    · rw [valV_pos (show (ent e).1 = dk p by show dk e.1 = dk p; rw [h]), getE_pos h]
      rfl
    · rw [valV_neg (show ¬ (ent e).1 = dk p from fun z => h (dk_inj z)), getE_neg h]
      exact valV_ent p r
def DealAt (H : Hp) (a : Addr) (ds : Dl) : Prop := H a = some (.dT (ds.map ent))
/-- a deal that the package takes -/
structure DOk (rs : List (Int × Int)) (ds : Dl) (B : Int) : Prop where
  nk : NK ds
  keys : KIn rs ds
  abs : Ab ds ≤ B
  len : ds.length ≤ 1000
theorem Ex.unlock {H H' : Hp} {d : Addr} {od : Obj} {u : HO} (h : H d = some u) (e : Ex (upd H d (.frz od u)) H') : Ex H (upd H' d u) := fun b o hb => by
  by_cases z : b = d
  · rw [z, upd_same]
    rw [z, h] at hb
    exact hb
  · rw [upd_ne z]
    exact e b o (by rw [upd_ne z]; exact hb)
theorem keep_lock {H : Hp} {d : Addr} {o : HO} : Keep d H (upd H d o) := fun b u n h => by
  rw [upd_ne n]
  exact h
theorem Ex.of_keep {H H' : Hp} {d : Addr} {u : HO} (h : H d = some u) (k : Keep d H H') : Ex H (upd H' d u) := fun b o hb => by
  by_cases z : b = d
  · rw [z, upd_same]
    rw [z, h] at hb
    exact hb
  · rw [upd_ne z]
    exact k b o z hb
section
variable {P : Program} {w : World} {K : PySem.W.Frag} {mg : Str → Option Value} {base : Heap}
def spLiesOn (K : PySem.W.Frag) : Sp := fun vs H Q _ => ∃ c x xs rs p, vs = [.ref c, x] ∧ H c = some (.tup xs) ∧ RingsAt H 60 xs rs ∧ xs.length ≤ 12 ∧ PlaceAt H x p ∧ PlIn rs p ∧ ∀ H', Ex H H' → Q (.bl true) H'
theorem ok_lies_on (T : Txt K mg) {f : Addr} {fd : FuncData} (D : DefAt K mg "lies_on" sLiesOn ["chain", "value"] f fd) : FnOk P w K mg base CX0 3 f fd ["chain", "value"] (spLiesOn K) := by
  refine D.F.ok scLiesOn (fun vs H Q E h => ?_) (fun cdv A outer s₀ H vs Q E hr h => ?_)
  · obtain ⟨c, x, xs, rs, p, rfl, _⟩ := h
    rfl
  · obtain ⟨c, x, xs, rs, ⟨j, q⟩, rfl, hc, hR, hl, hp, hin, k⟩ := h
    obtain ⟨f1, fd1, D1⟩ := T.d_is_pair
    obtain ⟨f2, fd2, D2⟩ := T.d_is_between
    have hr1 : Room 1 _ := hr.mono (by decide)
    obtain ⟨t, rfl, ht⟩ := id hp
    obtain ⟨⟨j0, j1⟩, q0, q1⟩ := hin
    replace j0 : 0 ≤ j := j0
    replace j1 : j < (rs.length : Int) := j1
    replace q0 : 0 ≤ q := q0
    replace q1 : q < (K1N.nAt rs j.toNat : Int) := q1
    obtain ⟨y, hy, hyr⟩ := rings_nth hR (show j.toNat < rs.length by omega)
    have hl2 := paired_len hR
    refine ⟨_, pss_cons (ps_if (pt_not (pt_val (pe_call (ok_is_pair T D1) hr1 (by rfl) D1.g D1.F.kp D1.b .nil pass0 (pa_cons (pv 1) pa_nil)))) (pss_one (ps_ret pe_bl)) pss_nil)
      (pss_cons (ps_asg (pv 1) (pg_tup (by rfl) (pgs_cons (pg_name (i := 2) scLiesOn.nd rfl (.inl rfl)) (pgs_cons (pg_name (i := 3) scLiesOn.nd rfl (.inl rfl)) pgs_nil))))
      (pss_one (ps_ret (pe_and (pe_call (ok_is_between T D2) hr (by rfl) D2.g D2.F.kp D2.b .nil pass0 (pa_cons (pv 2) (pa_cons pe_int (pa_cons (pe_op op_sub (pe_callB call_len_seq (by rfl) T.z_len PySem.boot_len (pa_cons (pv 0) pa_nil)) pe_int) pa_nil))))
        (pe_one (pe_call (ok_is_between T D2) hr (by rfl) D2.g D2.F.kp D2.b .nil pass0 (pa_cons (pv 3) (pa_cons pe_int (pa_cons (pe_op op_sub (pe_ix ix_tup (pe_ix ix_tup (pv 0) (pv 2) (fun _ _ => rfl)) pe_int (fun _ _ => rfl)) pe_int) pa_nil))))))))), ?_⟩
    refine ⟨_, rfl, _, _, rfl, .tup ht, fun H1 e1 => ⟨true, rfl, iteF ?_⟩⟩
    refine ⟨_, rfl, t, _, rfl, SqT.of (e1 _ _ ht), rfl, .int j, [_], rfl, .int q, [], rfl, rfl, ?_⟩
    refine ⟨_, rfl, _, rfl, c, _, rfl, .inr (SqT.of (e1 _ _ hc)), _, _, rfl, rfl, .int j, 0, _, true, rfl, .yes j0 (by omega) (by omega) (by omega), fun H2 e2 => ⟨true, rfl, iteT ?_⟩⟩
    have e12 := e1.trans e2
    obtain ⟨t2, rfl, ht2, b1, b2, b3, b4⟩ := hyr.ex e12
    refine ⟨_, rfl, _, rfl, _, rfl, c, _, j, _, rfl, rfl, SqT.of (e12 _ _ hc), at_of (show j = ((j.toNat : Nat) : Int) by omega) hy, t2, _, 0, .int _, rfl, rfl, SqT.of ht2, rfl, _, _, rfl, rfl, .int q, 0, _, true, rfl, .yes q0 (by omega) (by omega) (by omega), fun H3 e3 => k _ (e12.trans e3)⟩
def spLiesDealt (K : PySem.W.Frag) : Sp := fun vs H Q _ => ∃ c a xs rs ds, vs = [.ref c, .ref a] ∧ H c = some (.tup xs) ∧ RingsAt H 60 xs rs ∧ xs.length ≤ 12 ∧ DealAt H a ds ∧ DOk rs ds (10 ^ 50) ∧ ∀ H', Ex H H' → Q (.bl true) H'
theorem ok_lies_dealt (T : Txt K mg) {f : Addr} {fd : FuncData} (D : DefAt K mg "lies_dealt" sLiesDealt ["chain", "value"] f fd) : FnOk P w K mg base CX0 4 f fd ["chain", "value"] (spLiesDealt K) := by
  refine D.F.ok scLiesDealt (fun vs H Q E h => ?_) (fun cdv A outer s₀ H vs Q E hr h => ?_)
  · obtain ⟨c, a, xs, rs, ds, rfl, _⟩ := h
    rfl
  · obtain ⟨c, a, xs, rs, ds, rfl, hc, hR, hl, ha, hd, k⟩ := h
    obtain ⟨f1, fd1, D1⟩ := T.d_lies_on
    obtain ⟨f2, fd2, D2⟩ := T.d_is_integer
    have hr1 : Room 1 _ := hr.mono (by decide)
    have hu1 := Nat.lt_of_le_of_lt (Nat.add_le_add_left (show 1 ≤ 64 by decide) _) hr.units
    refine ⟨_, pss_cons (ps_if (pt_not (pt_val (pe_callB call_isi (by rfl) T.z_isinstance (by decide +kernel) (pa_cons (pv 1) (pa_cons (pe_bltn (v := .ty "dict") (by rfl) T.z_dict (by decide +kernel) rfl) pa_nil))))) (pss_one (ps_ret pe_bl)) pss_nil)
      (pss_one (ps_ret (pe_lock (pe_callB (cr_all rfl) (by rfl) T.z_all (by decide +kernel) (pa_cons (pe_lc (own := [("place", 2)]) (g := gName 2) (tt := tYes) rfl scLiesDealt.nd (pi_keys (pv 1))
        (blkOk_by (N := nLiesDealt) (sc := defScope sLiesDealt) (by decide +kernel)) (fun _ _ _ _ _ => pg_name (i := 2) scLiesDealt.nd rfl (Or.inl rfl)) (fun _ _ _ _ _ => pts_nil)
        (fun _ _ _ _ _ => pe_and (pe_call (ok_lies_on T D1) hr (by rfl) D1.g D1.F.kp D1.b .nil pass0 (pa_cons (pv 0) (pa_cons (pv 2) pa_nil)))
          (pe_one (pe_call (ok_is_integer T D2) hr1 (by rfl) D2.g D2.F.kp D2.b .nil pass0 (pa_cons (pe_dget hu1 (pv 1) (pv 2) (fun _ _ => rfl)) pa_nil))))) pa_nil))))), ?_⟩
    refine ⟨_, rfl, .ref a, .ty "dict", .type "dict", .type "dict", true, rfl, .ty _, .base (.dT ha), kit_ty (by decide +kernel), true, rfl, iteF ?_⟩
    refine ⟨a, _, ha, trivial, fun od => ?_⟩
    have nca : c ≠ a := ne_of hc ha (by intro z; cases z)
    have hc1 : (upd H a (.frz od (.dT (ds.map ent)))) c = some (.tup xs) := by rw [upd_ne nca]; exact hc
    have kl : Keep a H (upd H a (.frz od (.dT (ds.map ent)))) := keep_lock
    have hR1 : RingsAt (upd H a (.frz od (.dT (ds.map ent)))) 60 xs rs := paired_imp (fun _ _ ⟨t, e, ht, z⟩ => ⟨t, e, by rw [upd_ne (ne_of ht ha (by intro z; cases z))]; exact ht, z⟩) hR
    have ha1 : (upd H a (.frz od (.dT (ds.map ent)))) a = some (.frz od (.dT (ds.map ent))) := upd_same
    refine ⟨_, rfl, a, od, rfl, .inr ⟨_, ha1, fun Dl hD => ?_⟩⟩
    have eun : ∀ H', Ex (upd H a (.frz od (.dT (ds.map ent)))) H' → Ex H (upd H' a (.dT (ds.map ent))) := fun H' e => Ex.unlock ha e
    generalize upd H a (.frz od (.dT (ds.map ent))) = H1 at hc1 hR1 ha1 hD eun ⊢
    refine lc_it walk_keysT (fun i H' => H' Dl = some (.lst ((List.replicate i true).map V.bl)) ∧ Ex H1 H') ⟨upd_same, Ex.new hD⟩ (fun i H' _ hp => hp.2 _ _ ha1) (fun i x H' H2 hi hp hy => ?_) (fun H' hp => ?_)
    · obtain ⟨w1, w2⟩ := hp
      obtain ⟨rfl, ky, v, q, hkv, rfl, hq⟩ := hy
      rw [List.getElem?_map] at hkv
      obtain ⟨e, he, hek⟩ := Option.map_eq_some_iff.mp hkv
      cases hek
      have hem := List.mem_of_getElem? he
      have hpl : PlaceAt H2 (.ref q) e.1 := ⟨q, rfl, hq⟩
      refine ⟨rfl, ?_⟩
      dsimp only [tYes]
      rw [if_pos rfl]
      refine ⟨_, rfl, _, rfl, c, _, xs, rs, e.1, rfl, w2 _ _ hc1, rings_ex4 w2 hR1, hl, hpl, hd.keys e hem, fun H3 e3 => ⟨true, rfl, iteT ?_⟩⟩
      have gv : getE ds e.1 = some e.2 := getE_of hd.nk hem
      have ab := Ab_mem hem
      have ab2 := hd.abs
      refine ⟨_, rfl, _, rfl, a, .int e.2, rfl, .inr ⟨_, dk e.1, q, .inr ⟨od, (w2.trans e3) _ _ ha1⟩, rfl, e3 _ _ hq, ?_⟩, _, true, rfl, ?_, fun H4 e4 => ⟨_, e4 _ _ (e3 _ _ w1), ?_, ?_, Ex.mut ((w2.trans e3).trans e4) hD⟩⟩
      · rw [valV_ent, gv]
        rfl
      · have := IntB.int (K := K) (H := H3) e.2
        rw [decide_eq_true (show -(10 ^ 60) < e.2 by omega), decide_eq_true (show e.2 < 10 ^ 60 by omega)] at this
        exact this
      · rw [List.length_map, List.length_replicate]
        rw [List.length_map] at hi
        have := hd.len
        exact small1000 (by omega)
      · rw [upd_same, List.replicate_succ', List.map_append]
        rfl
    · obtain ⟨w1, w2⟩ := hp
      refine ⟨Dl, List.replicate (ds.map ent).length true, rfl, SqL.of w1, w2 _ _ ha1, ?_⟩
      rw [show (List.replicate (ds.map ent).length true).all id = true by simp]
      exact k _ (eun _ w2)
def spCheckDeal (K : PySem.W.Frag) : Sp := fun vs H Q _ => ∃ c a xs rs ds, vs = [.ref c, .ref a] ∧ H c = some (.tup xs) ∧ RingsAt H 60 xs rs ∧ xs.length ≤ 12 ∧ DealAt H a ds ∧ DOk rs ds (10 ^ 50) ∧ ∀ H', Ex H H' → Q .non H'
theorem ok_check_deal (T : Txt K mg) {f : Addr} {fd : FuncData} (D : DefAt K mg "check_deal" sCheckDeal ["chain", "deal"] f fd) : FnOk P w K mg base CX0 5 f fd ["chain", "deal"] (spCheckDeal K) := by
  refine D.F.ok scCheckDeal (fun vs H Q E h => ?_) (fun cdv A outer s₀ H vs Q E hr h => ?_)
  · obtain ⟨c, a, xs, rs, ds, rfl, _⟩ := h
    rfl
  · obtain ⟨c, a, xs, rs, ds, rfl, hc, hR, hl, ha, hd, k⟩ := h
    obtain ⟨f1, fd1, D1⟩ := T.d_lies_dealt
    refine ⟨_, pss_one (ps_if (pt_not (pt_val (pe_call (ok_lies_dealt T D1) hr (by rfl) D1.g D1.F.kp D1.b .nil pass0 (pa_cons (pv 0) (pa_cons (pv 1) pa_nil))))) pss_never pss_nil), ?_⟩
    exact ⟨_, rfl, _, rfl, c, a, xs, rs, ds, rfl, hc, hR, hl, ha, hd, fun H1 e1 => ⟨true, rfl, iteF (k _ e1)⟩⟩
end
end K1

/-! own walk: a dict comprehension with tuple keys over anything that is walked -/
namespace DR
open PySem PySem.Spec PyProof.Rows L2
theorem dcT_it {J : It} {n : Nat} {G : Hp → Prop} {Y : Nat → Hp → V → Hp → Prop} (w : Walk J n G Y) {g : TG} {tt : TT} {tk tv : TE} {vs : List Nat} {σ : L2.St} {H1 : Hp} {D : Addr} {Qd : Hp → Prop} (Pv : Nat → Hp → Prop) (h0 : Pv 0 (upd H1 D (.dT []))) (hG : ∀ i H, i ≤ n → Pv i H → G H)
    (hs : ∀ i x H H', i < n → Pv i H → Y i H x H' → g x (wipe σ vs) H' fun σ2 H2 => wipe σ2 vs = wipe σ vs ∧ tt σ2 H2 fun b H3 =>
      if b = true then tk σ2 H3 fun y H4 => tv σ2 H4 fun z H5 => ∃ kvs k c, y = .ref c ∧ H5 c = some (.tup (k.map kV)) ∧ H5 D = some (.dT kvs) ∧ kvs.length < sizeLine ∧ Pv (i + 1) (upd H5 D (.dT (putK kvs k z))) else Pv (i + 1) H3) (hd : ∀ H, Pv n H → Qd H) :
    ∃ W : Nat → Nat → Hp → Prop, (∃ m, W 0 m (upd H1 D (.dT []))) ∧ ∀ i m H, W i m H →
      (J.stop i H ∧ Qd H) ∨ (J.go i H ∧ ∃ Nx : Hp → Prop, (∀ H', Nx H' → ∃ m', m' < m ∧ W (i + 1) m' H') ∧ ∀ x H', J.yld i H x H' → g x (wipe σ vs) H' fun σ2 H2 => wipe σ2 vs = wipe σ vs ∧ tt σ2 H2 fun b H3 =>
        if b = true then tk σ2 H3 fun y H4 => tv σ2 H4 fun z H5 => ∃ kvs k c, y = .ref c ∧ H5 c = some (.tup (k.map kV)) ∧ H5 D = some (.dT kvs) ∧ kvs.length < sizeLine ∧ Nx (upd H5 D (.dT (putK kvs k z))) else Nx H3) := by
  refine ⟨fun i m H => m = n - i ∧ i ≤ n ∧ Pv i H, ⟨n, (Nat.sub_zero n).symm, Nat.zero_le _, h0⟩, ?_⟩
  rintro i m H ⟨rfl, hi, p⟩
  by_cases c : i < n
  · exact .inr ⟨w.goes i H c (hG i H hi p), Pv (i + 1), fun H' p' => ⟨n - (i + 1), by omega, rfl, c, p'⟩, fun x H' y => hs i x H H' c p (w.yields i H x H' c (hG i H hi p) y)⟩
  · have e : i = n := by omega
    subst e
    exact .inl ⟨w.stops H (hG i H hi p), hd H p⟩
end DR

namespace K1
open PySem PySem.Spec PyProof.Rows L2 Evl LX ZW ZM DM DR
/-! ### sums of deals -/
abbrev Part := Int × Dl
def Ps (f : Pl → Int) : List Part → Int
  | [] => 0
  | p :: r => p.1 * Sf f p.2 + Ps f r
def Pb : List Part → Int
  | [] => 0
  | p :: r => (p.1.natAbs : Int) * Ab p.2 + Pb r
def Pn : List Part → Nat
  | [] => 0
  | p :: r => p.2.length + Pn r
theorem Ps_snoc (f : Pl → Int) (p : Part) : ∀ l : List Part, Ps f (l ++ [p]) = Ps f l + p.1 * Sf f p.2
  | [] => by
    show p.1 * Sf f p.2 + 0 = 0 + p.1 * Sf f p.2
    omega
  | q :: l => by
    show q.1 * Sf f q.2 + Ps f (l ++ [p]) = q.1 * Sf f q.2 + Ps f l + _
    rw [Ps_snoc f p l]
    omega
theorem Pb_snoc (p : Part) : ∀ l : List Part, Pb (l ++ [p]) = Pb l + (p.1.natAbs : Int) * Ab p.2
  | [] => by
    show (p.1.natAbs : Int) * Ab p.2 + 0 = 0 + (p.1.natAbs : Int) * Ab p.2
    omega
  | q :: l => by
    show (q.1.natAbs : Int) * Ab q.2 + Pb (l ++ [p]) = (q.1.natAbs : Int) * Ab q.2 + Pb l + _
    rw [Pb_snoc p l]
    omega
theorem Pn_snoc (p : Part) : ∀ l : List Part, Pn (l ++ [p]) = Pn l + p.2.length
  | [] => by
    show p.2.length + 0 = 0 + p.2.length
    omega
  | q :: l => by
    show q.2.length + Pn (l ++ [p]) = q.2.length + Pn l + _
    rw [Pn_snoc p l]
    omega
theorem Pn_take (l : List Part) : ∀ i, Pn (l.take i) ≤ Pn l := fun i => by
  induction l generalizing i with
  | nil => simp
  | cons p l ih =>
    cases i with
    | zero => exact Nat.zero_le _
    | succ i =>
      have := ih i
      show p.2.length + Pn (l.take i) ≤ p.2.length + Pn l
      omega
theorem mulb_nonneg (p : Part) : 0 ≤ (p.1.natAbs : Int) * Ab p.2 := Int.mul_nonneg (Int.natCast_nonneg _) (Ab_nonneg _)
theorem Pb_nonneg : ∀ l : List Part, 0 ≤ Pb l
  | [] => Int.le_refl 0
  | p :: l => by
    have := Pb_nonneg l
    have := mulb_nonneg p
    show 0 ≤ (p.1.natAbs : Int) * Ab p.2 + Pb l
    omega
/-- a pair of a count and a deal -/
def PartAt (H : Hp) (x : V) (p : Part) : Prop := ∃ t a, x = .ref t ∧ H t = some (.tup [.int p.1, .ref a]) ∧ DealAt H a p.2
theorem PartAt.ex {H H' : Hp} {x : V} {p : Part} (e : Ex H H') (h : PartAt H x p) : PartAt H' x p := by
  obtain ⟨t, a, rfl, h1, h2⟩ := h
  exact ⟨t, a, rfl, e _ _ h1, e _ _ h2⟩
/-- a reading that does not look at the names -/
def Nl (rs : List (Int × Int)) (f : Pl → Int) : Prop := ∀ p, 0 ≤ p.1 → f (wname rs p) = f p
theorem wn_in {rs : List (Int × Int)} (hn : ∀ j, j < rs.length → 0 < K1N.nAt rs j) {p : Pl} (h : PlIn rs p) : PlIn rs (wname rs p) := by
  unfold wname
  by_cases o : K1N.own rs p = true
  · rw [if_pos o]
    exact h
  · rw [if_neg o]
    have o2 : 0 < p.1 := by
      unfold K1N.own at o
      have : 0 < p.1 ∧ p.2 = K1N.sAt rs p.1.toNat := by simpa using o
      exact this.1
    obtain ⟨⟨a, b⟩, _⟩ := h
    have := hn (p.1 - 1).toNat (by omega)
    exact ⟨⟨by show 0 ≤ p.1 - 1; omega, by show p.1 - 1 < _; omega⟩, Int.le_refl 0, by show (0 : Int) < (K1N.nAt rs (p.1 - 1).toNat : Int); omega⟩
theorem rings_pos {H : Hp} {xs : List V} {rs : List (Int × Int)} (h : RingsAt H 60 xs rs) (j : Nat) (hj : j < rs.length) : 0 < K1N.nAt rs j := by
  obtain ⟨x, _, t, _, _, b1, _⟩ := rings_nth h hj
  omega
theorem take_snoc {α : Type} {l : List α} {i : Nat} {x : α} (h : l[i]? = some x) : l.take (i + 1) = l.take i ++ [x] := by
  rw [List.take_add_one, h]
  rfl
theorem abs_mul (c v : Int) : ((c * v).natAbs : Int) = (c.natAbs : Int) * (v.natAbs : Int) := by
  rw [Int.natAbs_mul]
  omega
theorem getD_g0 (ds : Dl) (p : Pl) : ((getE ds p).map V.int).getD (.int 0) = .int (g0 ds p) := by
  unfold g0
  cases getE ds p <;> rfl
theorem put_new {ds : Dl} {p : Pl} {v : Int} (h : ∀ e ∈ ds, e.1 ≠ p) : putE ds p v = ds ++ [(p, v)] := by
  unfold putE
  rw [if_neg]
  intro t
  obtain ⟨e, he, z⟩ := List.any_eq_true.mp t
  exact h e he (of_decide_eq_true z)
theorem keys_ent {H : Hp} : ∀ {ds : Dl} {bs : List Addr}, IsKeys H (ds.map ent) bs → bs.map (fun b => keyP H (.ref b)) = ds.map (·.1) ∧ ∀ b ∈ bs, ∃ p ∈ ds.map (·.1), H b = some (.tup [.int p.1, .int p.2]) ∧ keyP H (.ref b) = p
  | [], _, .nil => ⟨rfl, fun b hb => absurd hb (by simp)⟩
  | e :: ds, b :: bs, .cons r t => by
    obtain ⟨h1, h2⟩ := keys_ent (ds := ds) (bs := bs) t
    have hb : H b = some (.tup [.int e.1.1, .int e.1.2]) := r
    have kb : keyP H (.ref b) = e.1 := keyP_of hb
    refine ⟨by rw [List.map_cons, List.map_cons, kb, h1], fun c hc => ?_⟩
    rcases List.mem_cons.mp hc with q | q
    · subst q
      exact ⟨e.1, List.mem_cons_self, hb, kb⟩
    · obtain ⟨p, hp, z⟩ := h2 c q
      exact ⟨p, List.mem_cons_of_mem _ hp, z⟩
theorem rings_keepD {H H' : Hp} {a : Addr} {kvs : List (List Key × V)} {xs : List V} {rs : List (Int × Int)} (ha : H a = some (.dT kvs)) (k : Keep a H H') (h : RingsAt H 60 xs rs) : RingsAt H' 60 xs rs :=
  paired_imp (fun _ _ ⟨t, e, ht, z⟩ => ⟨t, e, k _ _ (ne_of ht ha (by intro y; cases y)) ht, z⟩) h
section
variable {P : Program} {w : World} {K : PySem.W.Frag} {mg : Str → Option Value} {base : Heap}
def spCombined : Sp := fun vs H Q _ => ∃ c l xs rs zs, ∃ parts : List Part, vs = [.ref c, .ref l] ∧ H c = some (.tup xs) ∧ RingsAt H 60 xs rs ∧ H l = some (.lst zs) ∧ Paired (PartAt H) zs parts ∧ (∀ p ∈ parts, NK p.2 ∧ KIn rs p.2 ∧ p.1.natAbs < 2 ^ 300 ∧ Ab p.2 < 2 ^ 300) ∧ Pn parts ≤ 1000 ∧
  ∀ r H' res, Ex H H' → DealAt H' r res → NK res → KIn rs res → Ab res ≤ Pb parts → res.length ≤ Pn parts → (∀ f, Nl rs f → Sf f res = Ps f parts) → Q (.ref r) H'
theorem ok_combined (T : Txt K mg) {f : Addr} {fd : FuncData} (D : DefAt K mg "combined" sCombined ["chain", "parts"] f fd) : FnOk P w K mg base CX0 2 f fd ["chain", "parts"] spCombined := by
  refine D.F.ok scCombined (fun vs H Q E h => ?_) (fun cdv A outer s₀ H vs Q E hr h => ?_)
  · obtain ⟨c, l, xs, rs, zs, parts, rfl, _⟩ := h
    rfl
  · obtain ⟨c, l, xs, rs, zs, parts, rfl, hc, hR, hl, hP, hok, hpn, k⟩ := h
    obtain ⟨f1, fd1, D1⟩ := T.d_written_name
    have hu1 := Nat.lt_of_le_of_lt (Nat.add_le_add_left (show 1 ≤ 64 by decide) _) hr.units
    refine ⟨_, pss_cons (ps_set (i := 2) scCombined.nd rfl (.inr rfl) pe_dnewT)
      (pss_cons (ps_for PassesOwn.never rfl (pi_list (pv 1)) (pg_tup (by rfl) (pgs_cons (pg_name (i := 3) scCombined.nd rfl (.inl rfl)) (pgs_cons (pg_name (i := 4) scCombined.nd rfl (.inl rfl)) pgs_nil)))
        (pss_one (ps_lock (ps_for PassesOwn.never rfl (pi_keys (pv 4)) (pg_name (i := 5) scCombined.nd rfl (.inl rfl))
          (pss_cons (ps_set (i := 6) scCombined.nd rfl (.inl rfl) (pe_call (ok_written_name T D1) hr (by rfl) D1.g D1.F.kp D1.b .nil pass0 (pa_cons (pv 0) (pa_cons (pv 5) pa_nil))))
          (pss_one (ps_dput hu1 (pv 2) (pv 6) (pe_op op_add (pe_dget2 hu1 (pv 2) (pv 6) pe_int ⟨rfl, rfl, rfl, rfl⟩) (pe_op op_mulW (pv 3) (pe_dget hu1 (pv 4) (pv 5) (fun _ _ => rfl)))) rfl)))))))
      (pss_one (ps_ret (pe_dcT (own := [("name", 6)]) (g := gName 6) rfl hr.units0 scCombined.nd (pi_list (pe_callB (cr_sortedDT rfl) (by rfl) T.z_sorted (by decide +kernel) (pa_cons (pv 2) pa_nil)))
        (blkOk_by (N := nCombined) (sc := defScope sCombined) (by decide +kernel)) (fun _ _ _ _ _ => pg_name (i := 6) scCombined.nd rfl (Or.inl rfl))
        (fun _ _ _ _ _ => pts_one (pt_cmpR op_ne (pe_dget hu1 (pv 2) (pv 6) (fun _ _ => rfl)) pe_int (nomark _)))
        (fun _ _ _ _ _ => pv 6) (fun _ _ _ _ _ => pe_dget hu1 (pv 2) (pv 6) (fun _ _ => rfl)))))), ?_⟩
    intro sd hsd
    have e0 := Ex.new (o := .dT []) hsd
    refine ⟨_, rfl, l, rfl, ⟨_, SqL.of (e0 _ _ hl)⟩, for_list (K := K) (a := l) (xs := zs) (fun i σ' H' => ∃ (y3 y4 y5 y6 : Option V) (cur : Dl), σ' = [some (.ref c), some (.ref l), some (.ref sd), y3, y4, y5, y6] ∧ DealAt H' sd cur ∧ NK cur ∧ KIn rs cur ∧ Ab cur ≤ Pb (parts.take i) ∧ cur.length ≤ Pn (parts.take i) ∧ (∀ f, Nl rs f → Sf f cur = Ps f (parts.take i)) ∧ Ex H H')
      ⟨none, none, none, none, [], rfl, upd_same, List.nodup_nil, fun e he => absurd he (by simp), Int.le_refl 0, Nat.le_refl 0, fun f _ => rfl, e0⟩ (fun i σ' H' _ hW => ?_) (fun i x σ' H' hx hW => ?_) (fun σ' H' hW => ?_)⟩
    · obtain ⟨_, _, _, _, _, _, _, _, _, _, _, _, e⟩ := hW
      exact SqL.of (e _ _ hl)
    · obtain ⟨y3, y4, y5, y6, cur, rfl, w1, w2, w3, w4, w5, w6, w7⟩ := hW
      obtain ⟨⟨cnt, ds⟩, hpi, t, a, rfl, ht, ha⟩ := paired_get hP hx
      obtain ⟨nk, kin, cb, ab⟩ := hok _ (List.mem_of_getElem? hpi)
      replace ha : DealAt H a ds := ha
      replace nk : NK ds := nk
      replace kin : KIn rs ds := kin
      replace cb : cnt.natAbs < 2 ^ 300 := cb
      replace ab : Ab ds < 2 ^ 300 := ab
      have htk := take_snoc hpi
      have nsa : sd ≠ a := fun z => by
        rw [z, ha] at hsd
        cases hsd
      refine ⟨t, _, rfl, SqT.of (w7 _ _ ht), rfl, .int cnt, [_], rfl, .ref a, [], rfl, rfl, ?_⟩
      refine ⟨a, _, w7 _ _ ha, trivial, fun od => ?_⟩
      have k0 : Keep a H (upd H' a (.frz od (.dT (ds.map ent)))) := (Keep.ex w7).trans keep_lock
      have s0 : DealAt (upd H' a (.frz od (.dT (ds.map ent)))) sd cur := by
        show upd H' a _ sd = _
        rw [upd_ne nsa]
        exact w1
      refine ⟨_, rfl, a, od, rfl, .inr ⟨_, upd_same, for_it walk_keysT (fun k σ2 H2 => ∃ (z5 z6 : Option V) (cur2 : Dl), σ2 = [some (.ref c), some (.ref l), some (.ref sd), some (.int cnt), some (.ref a), z5, z6] ∧ DealAt H2 sd cur2 ∧ NK cur2 ∧ KIn rs cur2 ∧ Ab cur2 ≤ Ab cur + (cnt.natAbs : Int) * Ab (ds.take k) ∧ cur2.length ≤ cur.length + k ∧
          (∀ f, Nl rs f → Sf f cur2 = Sf f cur + cnt * Sf f (ds.take k)) ∧ H2 a = some (.frz od (.dT (ds.map ent))) ∧ Keep a H H2)
        ⟨y5, y6, cur, rfl, s0, w2, w3, by show Ab cur ≤ Ab cur + (cnt.natAbs : Int) * 0; omega, Nat.le_refl _, fun f _ => by show _ = Sf f cur + cnt * 0; omega, upd_same, k0⟩ (fun k σ2 H2 _ hW => ?_) (fun k x σ2 H2 H3 hk hW hy => ?_) (fun σ2 H2 hW => ?_)⟩⟩
      · obtain ⟨_, _, _, _, _, _, _, _, _, _, fz, _⟩ := hW
        exact fz
      · obtain ⟨z5, z6, cur2, rfl, v1, v2, v3, v4, v5, v6, v7, v8⟩ := hW
        obtain ⟨rfl, ky, v, q, hkv, rfl, hq⟩ := hy
        rw [List.getElem?_map] at hkv
        obtain ⟨e, he, hek⟩ := Option.map_eq_some_iff.mp hkv
        cases hek
        have hem := List.mem_of_getElem? he
        have hin := kin e hem
        have hpl : PlaceAt H3 (.ref q) e.1 := ⟨q, rfl, hq⟩
        have hc3 : H3 c = some (.tup xs) := v8 _ _ (ne_of hc ha (by intro y; cases y)) hc
        have hR3 := rings_keepD ha v8 hR
        have gv : getE ds e.1 = some e.2 := getE_of nk hem
        have hdk := take_snoc he
        refine ⟨_, rfl, _, rfl, c, xs, rs, .ref q, e.1, rfl, hc3, hR3, hpl, hin.1.1, hin.1.2, fun y H4 e4 hy4 => ?_⟩
        obtain ⟨t4, rfl, ht4⟩ := hy4
        replace ht4 : H4 t4 = some (.tup ((dk (wname rs e.1)).map kV)) := ht4
        have s4 : DealAt H4 sd cur2 := e4 _ _ v1
        have f4 := e4 _ _ v7
        have vb : e.2.natAbs < 2 ^ 300 := by
          have := Ab_mem hem
          have := Ab_nonneg ds
          omega
        have hl4 : (cur2.map ent).length < sizeLine := by
          rw [List.length_map]
          have hlen := Pn_take parts i
          have hlen2 := Pn_take parts (i + 1)
          rw [htk, Pn_snoc] at hlen2
          have : k < ds.length := by
            rw [List.length_map] at hk
            exact hk
          replace hlen2 : Pn (parts.take i) + ds.length ≤ Pn parts := hlen2
          exact small1000 (by omega)
        refine ⟨_, rfl, sd, rfl, .inr ⟨_, .inl s4⟩, _, rfl, _, DGet.t s4 ht4, _, rfl, _, rfl, _, rfl, a, .int e.2, rfl, .inr ⟨_, dk e.1, q, .inr ⟨od, f4⟩, rfl, e4 _ _ hq, by rw [valV_ent, gv]; rfl⟩, cnt, e.2, rfl, rfl, wide_mul (a := 300) (b := 300) cb vb (by decide) (by decide) (by decide), g0 cur2 (wname rs e.1), cnt * e.2, by rw [valV_ent]; exact getD_g0 _ _, rfl, _, rfl, _, rfl, sd, _, rfl, DPut.t (k := dk (wname rs e.1)) s4 ht4 hl4, ?_⟩
        obtain ⟨_, pa⟩ := put_sum (f := one) (p := wname rs e.1) (x := cnt * e.2) v2
        refine ⟨_, _, putE cur2 (wname rs e.1) (g0 cur2 (wname rs e.1) + cnt * e.2), rfl, ?_, put_nk v2, ?_, ?_, ?_, ?_, ?_, ?_⟩
        · show upd H4 sd _ sd = _
          rw [upd_same]
          dsimp only
          rw [putK_ent]
        · intro d hd
          rcases put_keys d hd with h1 | ⟨d2, h1, h2⟩
          · rw [h1]
            exact wn_in (fun j hj => rings_pos hR j hj) hin
          · rw [← h2]
            exact v3 d2 h1
        · rw [hdk, Ab_append, Int.mul_add]
          have a1 := abs_mul cnt e.2
          have a2 : Ab [e] = (e.2.natAbs : Int) + 0 := rfl
          rw [a2, Int.add_zero]
          omega
        · have := put_len cur2 (wname rs e.1) (g0 cur2 (wname rs e.1) + cnt * e.2)
          omega
        · intro f hf
          obtain ⟨ps, _⟩ := put_sum (f := f) (p := wname rs e.1) (x := cnt * e.2) v2
          rw [ps, v6 f hf, hf e.1 hin.1.1, hdk, Sf_append, Int.mul_add]
          have a2 : Sf f [e] = f e.1 * e.2 + 0 := rfl
          rw [a2, Int.add_zero, Int.mul_left_comm]
          omega
        · rw [upd_ne nsa.symm]
          exact f4
        · exact (v8.trans (Keep.ex e4)).mut hsd
      · obtain ⟨z5, z6, cur2, rfl, v1, v2, v3, v4, v5, v6, v7, v8⟩ := hW
        rw [List.length_map] at v4 v5 v6
        rw [List.take_length] at v4 v6
        refine ⟨v7, _, _, _, _, cur2, rfl, ?_, v2, v3, ?_, ?_, fun f hf => ?_, Ex.of_keep ha v8⟩
        · show upd H2 a _ sd = _
          rw [upd_ne nsa]
          exact v1
        · rw [htk, Pb_snoc]
          show _ ≤ _ + (cnt.natAbs : Int) * Ab ds
          omega
        · rw [htk, Pn_snoc]
          show _ ≤ _ + ds.length
          omega
        · rw [htk, Ps_snoc, v6 f hf, w6 f hf]
    · obtain ⟨y3, y4, y5, y6, cur, rfl, w1, w2, w3, w4, w5, w6, w7⟩ := hW
      have hzp := paired_len hP
      rw [hzp, List.take_length] at w4 w5 w6
      refine ⟨_, rfl, sd, cur.map ent, rfl, .inl w1, fun kv hkv => ?_, fun bs ys p hik hperm _ hp => ?_⟩
      · obtain ⟨e, _, rfl⟩ := List.mem_map.mp hkv
        exact ⟨e.1.1, e.1.2, rfl⟩
      · obtain ⟨kb, hbs⟩ := keys_ent hik
        have hks : (ys.map (keyP H')).Perm (cur.map (·.1)) := by
          have := hperm.map (keyP H')
          rw [List.map_map] at this
          rw [← kb]
          exact this
        have hnd : (ys.map (keyP H')).Nodup := hks.nodup_iff.mpr w2
        have e6 := Ex.new (o := .lst ys) hp
        have s6 := e6 _ _ w1
        have g6 : (upd H' p (.lst ys)) p = some (.lst ys) := upd_same
        have hyk : ∀ y ∈ ys, ∃ b, y = .ref b ∧ H' b = some (.tup ((dk (keyP H' y)).map kV)) ∧ keyP H' y ∈ cur.map (·.1) := fun y hy => by
          obtain ⟨b, hb, rfl⟩ := List.mem_map.mp (hperm.mem_iff.mp hy)
          obtain ⟨pp, h1, h2, h3⟩ := hbs b hb
          rw [h3]
          exact ⟨b, rfl, h2, h1⟩
        generalize upd H' p (.lst ys) = H6 at e6 s6 g6 ⊢
        refine ⟨p, rfl, ⟨_, SqL.of g6⟩, fun Dl hD => ?_⟩
        have nDs : sd ≠ Dl := ne_of_none s6 hD
        refine dcT_it (walk_list (K := K) (a := p) (xs := ys)) (fun i H2 => DealAt H2 Dl (told cur ((ys.map (keyP H')).take i)) ∧ Ex H6 H2) ⟨upd_same, Ex.new hD⟩ (fun i H2 _ hp2 => SqL.of (hp2.2 _ _ g6)) (fun i x H2 H3 hi hp2 hy => ?_) (fun H2 hp2 => ?_)
        · obtain ⟨v1, v2⟩ := hp2
          obtain ⟨rfl, hx⟩ := hy
          obtain ⟨b, rfl, hb, hin⟩ := hyk x (List.mem_of_getElem? hx)
          have hkx : (ys.map (keyP H'))[i]? = some (keyP H' (.ref b)) := by
            rw [List.getElem?_map, hx]
            rfl
          have htk := take_snoc hkx
          generalize keyP H' (.ref b) = kp at hb hin hkx htk
          have hb3 := (e6.trans v2) _ _ hb
          have s3 := v2 _ _ s6
          obtain ⟨e, hem, hek⟩ := List.mem_map.mp hin
          have gk : getE cur kp = some (g0 cur kp) := by
            rw [← hek]
            unfold g0
            rw [getE_of w2 (p := e.1) (v := e.2) hem]
            rfl
          have gv : valV (cur.map ent) (dk kp) = some (V.int (g0 cur kp)) := by
            rw [valV_ent, gk]
            rfl
          refine ⟨rfl, _, rfl, _, rfl, sd, .int (g0 cur kp), rfl, by have := DGet.t s3 hb3; rw [gv] at this; exact this, rfl, _, rfl, ite2 (fun cc => ?_) (fun cc => ?_)⟩
          · have nz : ¬ g0 cur kp = 0 := fun z => by
              rw [z] at cc
              exact absurd cc (by decide)
            have tl : (told cur ((ys.map (keyP H')).take i)).length ≤ 1000 := by
              unfold told
              have a1 := List.length_filter_le (fun e : Pl × Int => !decide (e.2 = 0)) ((((ys.map (keyP H')).take i)).map fun k => (k, g0 cur k))
              have a2 := hks.length_eq
              simp only [List.length_map, List.length_take] at a1 a2
              omega
            refine ⟨_, rfl, _, rfl, _, rfl, sd, .int (g0 cur kp), rfl, by have := DGet.t s3 hb3; rw [gv] at this; exact this, _, dk kp, b, rfl, hb3, v1, by rw [List.length_map]; exact small1000 tl, ?_, Ex.mut v2 hD⟩
            show upd H3 Dl _ Dl = _
            rw [upd_same, putK_ent, htk, told_snoc, if_neg nz, put_new]
            intro d hd z
            have h1 := told_keys d hd
            rw [z] at h1
            have h2 := hnd.sublist (List.take_sublist (i + 1) _)
            rw [htk] at h2
            exact (List.nodup_append.mp h2).2.2 _ h1 _ (List.mem_singleton.mpr rfl) rfl
          · have zz : g0 cur kp = 0 := by
              by_cases z : g0 cur kp = 0
              · exact z
              · exfalso
                apply cc
                rw [decide_eq_false (fun y => z (V.int.inj y))]
                rfl
            refine ⟨?_, v2⟩
            rw [htk, told_snoc, if_pos zz, List.append_nil]
            exact v1
        · obtain ⟨v1, v2⟩ := hp2
          rw [List.take_of_length_le (by rw [List.length_map]; exact Nat.le_refl _)] at v1
          refine k Dl H2 _ (w7.trans (e6.trans v2)) v1 (told_nk hnd) (fun e he => ?_) (Int.le_trans (told_abs w2 hks) w4) ?_ fun f hf => (told_sum w2 hks).trans (w6 f hf)
          · obtain ⟨d, hd, z⟩ := List.mem_map.mp (hks.mem_iff.mp (told_keys e he))
            rw [← z]
            exact w3 d hd
          · unfold told
            have a1 := List.length_filter_le (fun e : Pl × Int => !decide (e.2 = 0)) ((ys.map (keyP H')).map fun k => (k, g0 cur k))
            rw [List.length_map] at a1
            have a2 := hks.length_eq
            rw [List.length_map] at a2
            rw [List.length_map] at a1
            rw [List.length_map] at a2
            omega
end
end K1

/-! own rule: {k: v}, one pair, the key a tuple -/
namespace DR
open PySem PySem.Spec PyProof.Rows L2
def tDisp1T (tk tv : TE) : TE := fun σ H Q => ∀ p, H p = none → tk σ (upd H p (.dT [])) fun x H1 => tv σ H1 fun y H2 => ∃ b ky, x = .ref b ∧ H2 b = some (.tup (ky.map kV)) ∧ H2 p = some (.dT []) ∧ Q (.ref p) (upd H2 p (.dT [(ky, y)]))
theorem pe_disp1T {X : Cx} {pos : Pos} {k v : Expr} {tk tv : TE} (hu : X.A.units < cLine) (hk : PE X k tk) (hv : PE X v tv) : PE X (.Dict [some k] [v] pos) (tDisp1T tk tv) := by
  refine ⟨fun pins s σ H Q I q => ?_⟩
  have hn := I.hok.fresh (Nat.le_refl s.heap.objs.size)
  have I1 := I.laid (a := s.heap.objs.size) (o := .dT []) (h' := s.heap.push { cls := .type "dict", data := .dict #[] }) (t' := s.toks) (fun _ _ q => Heap.get?_push_of_some _ q) (Nat.le_refl _) (dt_empty s.heap I.big)
  have sh : (evalEachOpt [some k] X.env).zip ((evalEach [v] X.env).map fun u => do let x ← u; standAt pos; pure x) = [(eval k X.env, do let x ← eval v X.env; standAt pos; pure x)].map fun p => (some p.1, p.2) := rfl
  rw [arm_eval_Dict, sh, dictDisplay_pairs _ (by simp) (by show (1 : Nat) < 17; decide)]
  refine wpAny_bind (wpAny_standAt (wpAny_bind (wpAny_subDictH (knd := tupleKind (mixKind X.prog X.w)) (Q := fun d s' => wpAny (model X.prog X.w) X.A (pure (Value.ref d)) (EP X pins σ Q) X.xe s') hu (by show (1 : Nat) ≤ 15; decide) ?_)))
  have run := (pps_cons (pos := pos) hk hv pps_nil).run pins { s with heap := s.heap.push { cls := .type "dict", data := .dict #[] } } σ (upd H s.heap.objs.size (.dT [])) (fun ps H2 => match ps with
    | [(x, y)] => ∃ b ky, x = .ref b ∧ H2 b = some (.tup (ky.map kV)) ∧ H2 s.heap.objs.size = some (.dT []) ∧ Q (.ref s.heap.objs.size) (upd H2 s.heap.objs.size (.dT [(ky, y)]))
    | _ => False) I1 (q s.heap.objs.size hn)
  refine thn run fun ws s2 ⟨ps, H2, I2, rel, z⟩ => ?_
  cases rel with
  | nil => exact z.elim
  | @cons a w0 as ws' h t =>
    obtain ⟨x, y⟩ := a
    cases t with
    | cons h' t' => exact z.elim
    | nil =>
      obtain ⟨b, ky, ex, hb, hD, q2⟩ := z
      subst ex
      obtain ⟨w1, w2⟩ := w0
      obtain ⟨h1, h2⟩ := h
      cases (show w1 = Value.ref b from h1)
      obtain ⟨_, lo, xs, rel0, dd⟩ := dt_of I2.hok hD
      cases rel0
      refine ⟨[(ky, b, w2)], ⟨rfl, rfl, key_of I2.hok hb, trivial⟩, dd, fun h' tk dd' hs => wpAny_pure ?_⟩
      obtain ⟨qo, es, ep, hq, g2, g3, g4, _, g5⟩ := dd'
      have kt : KT (upd H2 s.heap.objs.size (.dT [(ky, y)])) [(ky, y)] (storedAllH [] [(ky, b, w2)]) := by
        refine .cons ⟨rfl, ?_, h2⟩ .nil
        rw [upd_ne (ne_of hb hD (fun z => nomatch z))]
        exact hb
      have ok : ObjOk X.prog X.w (upd H2 s.heap.objs.size (.dT [(ky, y)])) h' s.heap.objs.size (.dT [(ky, y)]) := ⟨by show 1 ≤ sizeLine; decide, lo, _, kt, qo, es, ep, hq, g2, g3, g4, g5⟩
      exact ⟨.ref s.heap.objs.size, _, d_write I2 (by rw [hD]; exact True.intro) hs ⟨qo, hq⟩ ok, rfl, q2⟩
end DR

set_option exponentiation.threshold 400
namespace K1
open PySem PySem.Spec PyProof.Rows L2 Evl LX ZW ZM DM DR
theorem DOk.mono {rs : List (Int × Int)} {ds : Dl} {B B' : Int} (h : DOk rs ds B) (hb : B ≤ B') : DOk rs ds B' := ⟨h.nk, h.keys, Int.le_trans h.abs hb, h.len⟩
section
variable {P : Program} {w : World} {K : PySem.W.Frag} {mg : Str → Option Value} {base : Heap}
def spToldSum : Sp := fun vs H Q _ => ∃ c l xs rs zs, ∃ parts : List Part, vs = [.ref c, .ref l] ∧ H c = some (.tup xs) ∧ RingsAt H 60 xs rs ∧ H l = some (.lst zs) ∧ Paired (PartAt H) zs parts ∧ (∀ p ∈ parts, NK p.2 ∧ KIn rs p.2 ∧ p.1.natAbs < 2 ^ 300 ∧ Ab p.2 < 2 ^ 300) ∧ Pn parts ≤ 1000 ∧ Pb parts ≤ 10 ^ 50 ∧
  ∀ r H' res, Ex H H' → DealAt H' r res → DOk rs res (Pb parts) → res.length ≤ Pn parts → (∀ f, Nl rs f → Sf f res = Ps f parts) → Q (.ref r) H'
theorem ok_told_sum (T : Txt K mg) {f : Addr} {fd : FuncData} (D : DefAt K mg "told_sum" sToldSum ["chain", "parts"] f fd) : FnOk P w K mg base CX0 3 f fd ["chain", "parts"] spToldSum := by
  refine D.F.ok scToldSum (fun vs H Q E h => ?_) (fun cdv A outer s₀ H vs Q E hr h => ?_)
  · obtain ⟨c, l, xs, rs, zs, parts, rfl, _⟩ := h
    rfl
  · obtain ⟨c, l, xs, rs, zs, parts, rfl, hc, hR, hl, hP, hok, hpn, hpb, k⟩ := h
    obtain ⟨f1, fd1, D1⟩ := T.d_combined
    obtain ⟨f2, fd2, D2⟩ := T.d_check_digits
    refine ⟨_, pss_cons (ps_set (i := 2) scToldSum.nd rfl (.inl rfl) (pe_call (ok_combined T D1) hr (by rfl) D1.g D1.F.kp D1.b .nil pass0 (pa_cons (pv 0) (pa_cons (pv 1) pa_nil))))
      (pss_cons (ps_expr (pe_call (ok_check_digits T D2) hr (by rfl) D2.g D2.F.kp D2.b .nil pass0 (pa_cons (pe_callTy (cr_listVals rfl) (by rfl) T.z_list (by decide +kernel) (pa_cons (pe_bm0 PySem.F.plainAttrs_dict PySem.F.slot_dict_values PySem.F.type_dict_values mt_valsT (pv 2)) pa_nil)) pa_nil)))
      (pss_one (ps_ret (pv 2)))), ?_⟩
    refine ⟨_, rfl, _, rfl, c, l, xs, rs, zs, parts, rfl, hc, hR, hl, hP, hok, hpn, fun r H1 res e1 hr1 nk kin hab hln hf => ?_⟩
    refine ⟨_, rfl, .inr (.inr (.inl ⟨rfl, .inr ⟨_, hr1⟩⟩)), r, _, rfl, rfl, hr1, fun p hp => ?_⟩
    have e2 := Ex.new (o := valsO p r) hp
    refine ⟨p, r, _, rfl, upd_same, e2 _ _ hr1, fun l2 hl2 => ?_⟩
    have e3 := e2.trans (Ex.new (o := .lst ((res.map ent).map (·.2))) hl2)
    have gv : (upd (upd H1 p (valsO p r)) l2 (.lst ((res.map ent).map (·.2)))) l2 = some (.lst ((res.map (·.2)).map V.int)) := by
      rw [upd_same, List.map_map, List.map_map]
      rfl
    refine ⟨l2, res.map (·.2), rfl, gv, by rw [List.length_map]; omega, fun z hz => ?_, fun H2 e4 => ?_⟩
    · obtain ⟨e, he, rfl⟩ := List.mem_map.mp hz
      have := Ab_mem he
      constructor <;> omega
    · exact ⟨_, rfl, k r H2 res ((e1.trans e3).trans e4) ((e3.trans e4) _ _ hr1) ⟨nk, kin, hab, by omega⟩ hln hf⟩
def spCheckDeals (K : PySem.W.Frag) : Sp := fun vs H Q _ => ∃ c a b xs rs ds es, vs = [.ref c, .ref a, .ref b] ∧ H c = some (.tup xs) ∧ RingsAt H 60 xs rs ∧ (1 ≤ xs.length ∧ xs.length ≤ 12) ∧ DealAt H a ds ∧ DealAt H b es ∧ DOk rs ds (10 ^ 50) ∧ DOk rs es (10 ^ 50) ∧ ∀ H', Ex H H' → Q .non H'
theorem ok_check_deals (T : Txt K mg) {f : Addr} {fd : FuncData} (D : DefAt K mg "check_deals" sCheckDeals ["chain", "one", "other"] f fd) : FnOk P w K mg base CX0 6 f fd ["chain", "one", "other"] (spCheckDeals K) := by
  refine D.F.ok scCheckDeals (fun vs H Q E h => ?_) (fun cdv A outer s₀ H vs Q E hr h => ?_)
  · obtain ⟨c, a, b, xs, rs, ds, es, rfl, _⟩ := h
    rfl
  · obtain ⟨c, a, b, xs, rs, ds, es, rfl, hc, hR, hl, ha, hb, hda, hdb, k⟩ := h
    obtain ⟨f1, fd1, D1⟩ := T.d_check_chain
    obtain ⟨f2, fd2, D2⟩ := T.d_check_deal
    refine ⟨_, pss_cons (ps_expr (pe_call (ok_check_chain T D1) hr (by rfl) D1.g D1.F.kp D1.b .nil pass0 (pa_cons (pv 0) pa_nil)))
      (pss_cons (ps_expr (pe_call (ok_check_deal T D2) hr (by rfl) D2.g D2.F.kp D2.b .nil pass0 (pa_cons (pv 0) (pa_cons (pv 1) pa_nil))))
      (pss_one (ps_expr (pe_call (ok_check_deal T D2) hr (by rfl) D2.g D2.F.kp D2.b .nil pass0 (pa_cons (pv 0) (pa_cons (pv 2) pa_nil)))))), ?_⟩
    refine ⟨_, rfl, .ref c, rfl, rings_chain4 hR hc hl.1 hl.2, fun H1 e1 => ?_⟩
    refine ⟨_, rfl, _, rfl, c, a, xs, rs, ds, rfl, e1 _ _ hc, rings_ex4 e1 hR, hl.2, e1 _ _ ha, hda, fun H2 e2 => ?_⟩
    have e12 := e1.trans e2
    exact ⟨_, rfl, _, rfl, c, b, xs, rs, es, rfl, e12 _ _ hc, rings_ex4 e12 hR, hl.2, e12 _ _ hb, hdb, fun H3 e3 => k _ (e12.trans e3)⟩
/-- two deals put together, the other one so many times -/
def spTwo (sg : Int) : Sp := fun vs H Q _ => ∃ c a b xs rs ds es B, vs = [.ref c, .ref a, .ref b] ∧ H c = some (.tup xs) ∧ RingsAt H 60 xs rs ∧ (1 ≤ xs.length ∧ xs.length ≤ 12) ∧ DealAt H a ds ∧ DealAt H b es ∧ DOk rs ds B ∧ DOk rs es B ∧ 2 * B ≤ 10 ^ 50 ∧ ds.length + es.length ≤ 1000 ∧
  ∀ r H' res, Ex H H' → DealAt H' r res → DOk rs res (2 * B) → res.length ≤ ds.length + es.length → (∀ f, Nl rs f → Sf f res = Sf f ds + sg * Sf f es) → Q (.ref r) H'
theorem DOk.raw {rs : List (Int × Int)} {ds : Dl} {B : Int} (h : DOk rs ds B) (hb : B ≤ 10 ^ 50) : NK ds ∧ KIn rs ds ∧ Ab ds < 2 ^ 300 := by
  refine ⟨h.nk, h.keys, ?_⟩
  have := h.abs
  have : (10 : Int) ^ 50 < 2 ^ 300 := by decide
  omega
theorem ok_added (T : Txt K mg) {f : Addr} {fd : FuncData} (D : DefAt K mg "added" sAdded ["chain", "one", "other"] f fd) : FnOk P w K mg base CX0 7 f fd ["chain", "one", "other"] (spTwo 1) := by
  refine D.F.ok scAdded (fun vs H Q E h => ?_) (fun cdv A outer s₀ H vs Q E hr h => ?_)
  · obtain ⟨c, a, b, xs, rs, ds, es, B, rfl, _⟩ := h
    rfl
  · obtain ⟨c, a, b, xs, rs, ds, es, B, rfl, hc, hR, hl, ha, hb, hda, hdb, h50, hln, k⟩ := h
    obtain ⟨f1, fd1, D1⟩ := T.d_check_deals
    obtain ⟨f2, fd2, D2⟩ := T.d_told_sum
    have hr3 : Room 3 _ := hr.mono (by decide)
    have B0 : 0 ≤ B := Int.le_trans (Ab_nonneg ds) hda.abs
    refine ⟨_, pss_cons (ps_expr (pe_call (ok_check_deals T D1) hr (by rfl) D1.g D1.F.kp D1.b .nil pass0 (pa_cons (pv 0) (pa_cons (pv 1) (pa_cons (pv 2) pa_nil)))))
      (pss_one (ps_ret (pe_call (ok_told_sum T D2) hr3 (by rfl) D2.g D2.F.kp D2.b .nil pass0 (pa_cons (pv 0) (pa_cons (pe_lst (pa_cons (pe_tup (pa_cons pe_int (pa_cons (pv 1) pa_nil))) (pa_cons (pe_tup (pa_cons pe_int (pa_cons (pv 2) pa_nil))) pa_nil))) pa_nil))))), ?_⟩
    refine ⟨_, rfl, _, rfl, _, rfl, c, a, b, xs, rs, ds, es, rfl, hc, hR, hl, ha, hb, hda.mono (by omega), hdb.mono (by omega), fun H1 e1 => ?_⟩
    refine ⟨_, rfl, _, rfl, by show 2 ≤ sizeLine; decide, fun p1 hp1 => ⟨_, rfl, by show 2 ≤ sizeLine; decide, fun p2 hp2 => ⟨by show 2 ≤ sizeLine; decide, fun l hl0 => ?_⟩⟩⟩
    have x1 := Ex.new (o := .tup [.int 1, .ref a]) hp1
    have x2 := Ex.new (o := .tup [.int 1, .ref b]) hp2
    have x3 := Ex.new (o := .lst [.ref p1, .ref p2]) hl0
    have e4 := ((e1.trans x1).trans x2).trans x3
    have g1 := (x2.trans x3) _ _ (show (upd H1 p1 (.tup [.int 1, .ref a])) p1 = _ from upd_same)
    have g2 := x3 _ _ (show (upd (upd H1 p1 (.tup [.int 1, .ref a])) p2 (.tup [.int 1, .ref b])) p2 = _ from upd_same)
    obtain ⟨n1, n2, n3⟩ := hda.raw (by omega)
    obtain ⟨m1, m2, m3⟩ := hdb.raw (by omega)
    refine ⟨c, l, xs, rs, [.ref p1, .ref p2], [(1, ds), (1, es)], rfl, e4 _ _ hc, rings_ex4 e4 hR, upd_same, .cons ⟨p1, a, rfl, g1, e4 _ _ ha⟩ (.cons ⟨p2, b, rfl, g2, e4 _ _ hb⟩ .nil), fun p hp => ?_, by show ds.length + (es.length + 0) ≤ 1000; omega, ?_, fun r H5 res e5 hr5 hd5 hln5 hf5 => ?_⟩
    · simp only [List.mem_cons, List.not_mem_nil, or_false] at hp
      rcases hp with rfl | rfl
      · exact ⟨n1, n2, by show (1 : Nat) < 2 ^ 300; decide, n3⟩
      · exact ⟨m1, m2, by show (1 : Nat) < 2 ^ 300; decide, m3⟩
    · have := hda.abs
      have := hdb.abs
      show ((1 : Nat) : Int) * Ab ds + (((1 : Nat) : Int) * Ab es + 0) ≤ _
      omega
    · refine k r H5 res (e4.trans e5) hr5 (hd5.mono ?_) ?_ fun f hf => ?_
      · have := hda.abs
        have := hdb.abs
        show ((1 : Nat) : Int) * Ab ds + (((1 : Nat) : Int) * Ab es + 0) ≤ _
        omega
      · replace hln5 : res.length ≤ ds.length + (es.length + 0) := hln5
        omega
      · rw [hf5 f hf]
        show 1 * Sf f ds + (1 * Sf f es + 0) = _
        omega
theorem ok_less (T : Txt K mg) {f : Addr} {fd : FuncData} (D : DefAt K mg "less" sLess ["chain", "one", "other"] f fd) : FnOk P w K mg base CX0 7 f fd ["chain", "one", "other"] (spTwo (-1)) := by
  refine D.F.ok scLess (fun vs H Q E h => ?_) (fun cdv A outer s₀ H vs Q E hr h => ?_)
  · obtain ⟨c, a, b, xs, rs, ds, es, B, rfl, _⟩ := h
    rfl
  · obtain ⟨c, a, b, xs, rs, ds, es, B, rfl, hc, hR, hl, ha, hb, hda, hdb, h50, hln, k⟩ := h
    obtain ⟨f1, fd1, D1⟩ := T.d_check_deals
    obtain ⟨f2, fd2, D2⟩ := T.d_told_sum
    have hr3 : Room 3 _ := hr.mono (by decide)
    have B0 : 0 ≤ B := Int.le_trans (Ab_nonneg ds) hda.abs
    refine ⟨_, pss_cons (ps_expr (pe_call (ok_check_deals T D1) hr (by rfl) D1.g D1.F.kp D1.b .nil pass0 (pa_cons (pv 0) (pa_cons (pv 1) (pa_cons (pv 2) pa_nil)))))
      (pss_one (ps_ret (pe_call (ok_told_sum T D2) hr3 (by rfl) D2.g D2.F.kp D2.b .nil pass0 (pa_cons (pv 0) (pa_cons (pe_lst (pa_cons (pe_tup (pa_cons pe_int (pa_cons (pv 1) pa_nil))) (pa_cons (pe_tup (pa_cons (pe_un un_neg pe_int) (pa_cons (pv 2) pa_nil))) pa_nil))) pa_nil))))), ?_⟩
    refine ⟨_, rfl, _, rfl, _, rfl, c, a, b, xs, rs, ds, es, rfl, hc, hR, hl, ha, hb, hda.mono (by omega), hdb.mono (by omega), fun H1 e1 => ?_⟩
    refine ⟨_, rfl, _, rfl, by show 2 ≤ sizeLine; decide, fun p1 hp1 => ⟨1, rfl, _, rfl, by show 2 ≤ sizeLine; decide, fun p2 hp2 => ⟨by show 2 ≤ sizeLine; decide, fun l hl0 => ?_⟩⟩⟩
    have x1 := Ex.new (o := .tup [.int 1, .ref a]) hp1
    have x2 := Ex.new (o := .tup [.int (-1), .ref b]) hp2
    have x3 := Ex.new (o := .lst [.ref p1, .ref p2]) hl0
    have e4 := ((e1.trans x1).trans x2).trans x3
    have g1 := (x2.trans x3) _ _ (show (upd H1 p1 (.tup [.int 1, .ref a])) p1 = _ from upd_same)
    have g2 := x3 _ _ (show (upd (upd H1 p1 (.tup [.int 1, .ref a])) p2 (.tup [.int (-1), .ref b])) p2 = _ from upd_same)
    obtain ⟨n1, n2, n3⟩ := hda.raw (by omega)
    obtain ⟨m1, m2, m3⟩ := hdb.raw (by omega)
    refine ⟨c, l, xs, rs, [.ref p1, .ref p2], [(1, ds), (-1, es)], rfl, e4 _ _ hc, rings_ex4 e4 hR, upd_same, .cons ⟨p1, a, rfl, g1, e4 _ _ ha⟩ (.cons ⟨p2, b, rfl, g2, e4 _ _ hb⟩ .nil), fun p hp => ?_, by show ds.length + (es.length + 0) ≤ 1000; omega, ?_, fun r H5 res e5 hr5 hd5 hln5 hf5 => ?_⟩
    · simp only [List.mem_cons, List.not_mem_nil, or_false] at hp
      rcases hp with rfl | rfl
      · exact ⟨n1, n2, by show (1 : Nat) < 2 ^ 300; decide, n3⟩
      · exact ⟨m1, m2, by show (1 : Nat) < 2 ^ 300; decide, m3⟩
    · have := hda.abs
      have := hdb.abs
      show ((1 : Nat) : Int) * Ab ds + (((1 : Nat) : Int) * Ab es + 0) ≤ _
      omega
    · refine k r H5 res (e4.trans e5) hr5 (hd5.mono ?_) ?_ fun f hf => ?_
      · have := hda.abs
        have := hdb.abs
        show ((1 : Nat) : Int) * Ab ds + (((1 : Nat) : Int) * Ab es + 0) ≤ _
        omega
      · replace hln5 : res.length ≤ ds.length + (es.length + 0) := hln5
        omega
      · rw [hf5 f hf]
        show 1 * Sf f ds + (-1 * Sf f es + 0) = _
        omega
def spMultiplied : Sp := fun vs H Q _ => ∃ c a xs rs ds B, ∃ n : Int, vs = [.ref c, .int n, .ref a] ∧ H c = some (.tup xs) ∧ RingsAt H 60 xs rs ∧ (1 ≤ xs.length ∧ xs.length ≤ 12) ∧ DealAt H a ds ∧ DOk rs ds B ∧ 0 ≤ n ∧ n ≤ 100 ∧ 100 * B ≤ 10 ^ 50 ∧
  ∀ r H' res, Ex H H' → DealAt H' r res → DOk rs res (100 * B) → res.length ≤ ds.length → (∀ f, Nl rs f → Sf f res = n * Sf f ds) → Q (.ref r) H'
theorem ok_multiplied (T : Txt K mg) {f : Addr} {fd : FuncData} (D : DefAt K mg "multiplied" sMultiplied ["chain", "count", "deal"] f fd) : FnOk P w K mg base CX0 6 f fd ["chain", "count", "deal"] spMultiplied := by
  refine D.F.ok scMultiplied (fun vs H Q E h => ?_) (fun cdv A outer s₀ H vs Q E hr h => ?_)
  · obtain ⟨c, a, xs, rs, ds, B, n, rfl, _⟩ := h
    rfl
  · obtain ⟨c, a, xs, rs, ds, B, n, rfl, hc, hR, hl, ha, hda, n0, n1, h50, k⟩ := h
    obtain ⟨f1, fd1, D1⟩ := T.d_check_chain
    obtain ⟨f2, fd2, D2⟩ := T.d_check_integer
    obtain ⟨f3, fd3, D3⟩ := T.d_check_deal
    obtain ⟨f4, fd4, D4⟩ := T.d_told_sum
    have hr2 : Room 2 _ := hr.mono (by decide)
    have hr3 : Room 3 _ := hr.mono (by decide)
    have B0 : 0 ≤ B := Int.le_trans (Ab_nonneg ds) hda.abs
    refine ⟨_, pss_cons (ps_expr (pe_call (ok_check_chain T D1) hr (by rfl) D1.g D1.F.kp D1.b .nil pass0 (pa_cons (pv 0) pa_nil)))
      (pss_cons (ps_expr (pe_call (ok_check_integer T D2) hr2 (by rfl) D2.g D2.F.kp D2.b .nil pass0 (pa_cons (pv 1) pa_nil)))
      (pss_cons (ps_expr (pe_call (ok_check_deal T D3) hr (by rfl) D3.g D3.F.kp D3.b .nil pass0 (pa_cons (pv 0) (pa_cons (pv 2) pa_nil))))
      (pss_one (ps_ret (pe_call (ok_told_sum T D4) hr3 (by rfl) D4.g D4.F.kp D4.b .nil pass0 (pa_cons (pv 0) (pa_cons (pe_lst (pa_cons (pe_tup (pa_cons (pv 1) (pa_cons (pv 2) pa_nil))) pa_nil)) pa_nil))))))), ?_⟩
    refine ⟨_, rfl, .ref c, rfl, rings_chain4 hR hc hl.1 hl.2, fun H1 e1 => ?_⟩
    refine ⟨_, rfl, n, rfl, by omega, by omega, fun H2 e2' => ?_⟩
    have e2 := e1.trans e2'
    refine ⟨_, rfl, _, rfl, c, a, xs, rs, ds, rfl, e2 _ _ hc, rings_ex4 e2 hR, hl.2, e2 _ _ ha, hda.mono (by omega), fun H3 e3' => ?_⟩
    have e3 := e2.trans e3'
    refine ⟨_, rfl, _, rfl, _, rfl, by show 2 ≤ sizeLine; decide, fun p1 hp1 => ⟨by show 1 ≤ sizeLine; decide, fun l hl0 => ?_⟩⟩
    have x1 := Ex.new (o := .tup [.int n, .ref a]) hp1
    have x3 := Ex.new (o := .lst [.ref p1]) hl0
    have e4 := (e3.trans x1).trans x3
    have g1 := x3 _ _ (show (upd H3 p1 (.tup [.int n, .ref a])) p1 = _ from upd_same)
    obtain ⟨m1, m2, m3⟩ := hda.raw (by omega)
    have nb : (n.natAbs : Int) * Ab ds ≤ 100 * B := by
      have h1 := hda.abs
      have h0 := Ab_nonneg ds
      exact Int.le_trans (Int.mul_le_mul_of_nonneg_right (show (n.natAbs : Int) ≤ 100 by omega) h0) (Int.mul_le_mul_of_nonneg_left h1 (by decide))
    refine ⟨c, l, xs, rs, [.ref p1], [(n, ds)], rfl, e4 _ _ hc, rings_ex4 e4 hR, upd_same, .cons ⟨p1, a, rfl, g1, e4 _ _ ha⟩ .nil, fun p hp => ?_, by have := hda.len; show ds.length + 0 ≤ 1000; omega, ?_, fun r H5 res e5 hr5 hd5 hln5 hf5 => ?_⟩
    · rw [List.mem_singleton.mp hp]
      refine ⟨m1, m2, ?_, m3⟩
      show n.natAbs < 2 ^ 300
      have : (100 : Nat) < 2 ^ 300 := by decide
      omega
    · show (n.natAbs : Int) * Ab ds + 0 ≤ _
      omega
    · refine k r H5 res (e4.trans e5) hr5 (hd5.mono ?_) hln5 fun f hf => ?_
      · show (n.natAbs : Int) * Ab ds + 0 ≤ _
        omega
      · rw [hf5 f hf]
        show n * Sf f ds + 0 = _
        omega
def spLeftName : Sp := fun vs H Q _ => ∃ c xs rs, vs = [.ref c] ∧ H c = some (.tup xs) ∧ RingsAt H 60 xs rs ∧ 1 ≤ xs.length ∧ ∀ y H', Ex H H' → PlaceAt H' y (0, K1N.sAt rs 0) → Q y H'
theorem ok_left_name (T : Txt K mg) {f : Addr} {fd : FuncData} (D : DefAt K mg "left_name" sLeftName ["chain"] f fd) : FnOk P w K mg base CX0 1 f fd ["chain"] spLeftName := by
  refine D.F.ok scLeftName (fun vs H Q E h => ?_) (fun cdv A outer s₀ H vs Q E hr h => ?_)
  · obtain ⟨c, xs, rs, rfl, _⟩ := h
    rfl
  · obtain ⟨c, xs, rs, rfl, hc, hR, hl, k⟩ := h
    have hl2 := paired_len hR
    obtain ⟨y, hy, t, rfl, ht, _⟩ := rings_nth hR (show 0 < rs.length by omega)
    refine ⟨_, pss_one (ps_ret (pe_tup (pa_cons pe_int (pa_cons (pe_ix ix_tup (pe_ix ix_tup (pv 0) pe_int (fun _ _ => rfl)) pe_int (fun _ _ => rfl)) pa_nil)))), ?_⟩
    exact ⟨_, rfl, c, _, 0, _, rfl, rfl, SqT.of hc, at_of (show (0 : Int) = ((0 : Nat) : Int) from rfl) hy, t, _, 1, _, rfl, rfl, SqT.of ht, rfl, by show 2 ≤ sizeLine; decide, fun p hp => k _ _ (Ex.new hp) ⟨p, rfl, upd_same⟩⟩
def spRightName : Sp := fun vs H Q _ => ∃ c xs, vs = [.ref c] ∧ H c = some (.tup xs) ∧ ∀ y H', Ex H H' → PlaceAt H' y ((xs.length : Int) - 1, 0) → Q y H'
theorem ok_right_name (T : Txt K mg) {f : Addr} {fd : FuncData} (D : DefAt K mg "right_name" sRightName ["chain"] f fd) : FnOk P w K mg base CX0 1 f fd ["chain"] spRightName := by
  refine D.F.ok scRightName (fun vs H Q E h => ?_) (fun cdv A outer s₀ H vs Q E hr h => ?_)
  · obtain ⟨c, xs, rfl, _⟩ := h
    rfl
  · obtain ⟨c, xs, rfl, hc, k⟩ := h
    refine ⟨_, pss_one (ps_ret (pe_tup (pa_cons (pe_op op_sub (pe_callB call_len_seq (by rfl) T.z_len PySem.boot_len (pa_cons (pv 0) pa_nil)) pe_int) (pa_cons pe_int pa_nil)))), ?_⟩
    exact ⟨_, rfl, c, _, rfl, .inr (SqT.of hc), _, _, rfl, rfl, by show 2 ≤ sizeLine; decide, fun p hp => k _ _ (Ex.new hp) ⟨p, rfl, upd_same⟩⟩
def spAtEnds : Sp := fun vs H Q _ => ∃ c xs rs, ∃ a b : Int, vs = [.ref c, .int a, .int b] ∧ H c = some (.tup xs) ∧ RingsAt H 60 xs rs ∧ (1 ≤ xs.length ∧ xs.length ≤ 12) ∧ (a.natAbs : Int) ≤ 10 ^ 40 ∧ (b.natAbs : Int) ≤ 10 ^ 40 ∧
  ∀ r H' res, Ex H H' → DealAt H' r res → DOk rs res (2 * 10 ^ 40) → res.length ≤ 2 → (∀ f, Nl rs f → Sf f res = a * f (0, K1N.sAt rs 0) + b * f ((xs.length : Int) - 1, 0)) → Q (.ref r) H'
theorem ok_at_ends (T : Txt K mg) {f : Addr} {fd : FuncData} (D : DefAt K mg "at_ends" sAtEnds ["chain", "a", "b"] f fd) : FnOk P w K mg base CX0 6 f fd ["chain", "a", "b"] spAtEnds := by
  refine D.F.ok scAtEnds (fun vs H Q E h => ?_) (fun cdv A outer s₀ H vs Q E hr h => ?_)
  · obtain ⟨c, xs, rs, a, b, rfl, _⟩ := h
    rfl
  · obtain ⟨c, xs, rs, a, b, rfl, hc, hR, hl, a1, b1, k⟩ := h
    obtain ⟨f1, fd1, D1⟩ := T.d_check_chain
    obtain ⟨f2, fd2, D2⟩ := T.d_check_integer
    obtain ⟨f3, fd3, D3⟩ := T.d_left_name
    obtain ⟨f4, fd4, D4⟩ := T.d_right_name
    obtain ⟨f5, fd5, D5⟩ := T.d_told_sum
    have hr1 : Room 1 _ := hr.mono (by decide)
    have hr2 : Room 2 _ := hr.mono (by decide)
    have hr3 : Room 3 _ := hr.mono (by decide)
    have hl2 := paired_len hR
    refine ⟨_, pss_cons (ps_expr (pe_call (ok_check_chain T D1) hr (by rfl) D1.g D1.F.kp D1.b .nil pass0 (pa_cons (pv 0) pa_nil)))
      (pss_cons (ps_expr (pe_call (ok_check_integer T D2) hr2 (by rfl) D2.g D2.F.kp D2.b .nil pass0 (pa_cons (pv 1) pa_nil)))
      (pss_cons (ps_expr (pe_call (ok_check_integer T D2) hr2 (by rfl) D2.g D2.F.kp D2.b .nil pass0 (pa_cons (pv 2) pa_nil)))
      (pss_one (ps_ret (pe_call (ok_told_sum T D5) hr3 (by rfl) D5.g D5.F.kp D5.b .nil pass0 (pa_cons (pv 0) (pa_cons (pe_lst (pa_cons (pe_tup (pa_cons (pv 1) (pa_cons (pe_disp1T hr.units0 (pe_call (ok_left_name T D3) hr1 (by rfl) D3.g D3.F.kp D3.b .nil pass0 (pa_cons (pv 0) pa_nil)) pe_int) pa_nil)))
        (pa_cons (pe_tup (pa_cons (pv 2) (pa_cons (pe_disp1T hr.units0 (pe_call (ok_right_name T D4) hr1 (by rfl) D4.g D4.F.kp D4.b .nil pass0 (pa_cons (pv 0) pa_nil)) pe_int) pa_nil))) pa_nil))) pa_nil))))))), ?_⟩
    refine ⟨_, rfl, .ref c, rfl, rings_chain4 hR hc hl.1 hl.2, fun H1 e1 => ?_⟩
    refine ⟨_, rfl, a, rfl, by omega, by omega, fun H2 e2' => ⟨_, rfl, b, rfl, by omega, by omega, fun H3 e3' => ?_⟩⟩
    have e3 := (e1.trans e2').trans e3'
    refine ⟨_, rfl, _, rfl, fun q1 hq1 => ?_⟩
    have x1 := Ex.new (o := .dT []) hq1
    have e4 := e3.trans x1
    refine ⟨_, rfl, c, xs, rs, rfl, e4 _ _ hc, rings_ex4 e4 hR, hl.1, fun y H5 e5 hy => ?_⟩
    obtain ⟨t1, rfl, ht1⟩ := hy
    have q1n : H3 q1 = none := hq1
    have q1e : H5 q1 = some (.dT []) := e5 _ _ upd_same
    refine ⟨t1, dk (0, K1N.sAt rs 0), rfl, ht1, q1e, ?_⟩
    have E5 : Ex H3 (upd H5 q1 (.dT [(dk (0, K1N.sAt rs 0), V.int 1)])) := Ex.mut (x1.trans e5) q1n
    have d1 : DealAt (upd H5 q1 (.dT [(dk (0, K1N.sAt rs 0), V.int 1)])) q1 [((0, K1N.sAt rs 0), 1)] := upd_same
    generalize upd H5 q1 (.dT [(dk (0, K1N.sAt rs 0), V.int 1)]) = H6 at E5 d1 ⊢
    refine ⟨by show 2 ≤ sizeLine; decide, fun p1 hp1 => ⟨_, rfl, fun q2 hq2 => ?_⟩⟩
    have y1 := Ex.new (o := .tup [.int a, .ref q1]) hp1
    have y2 := Ex.new (o := .dT []) hq2
    have e7 := (e3.trans E5).trans (y1.trans y2)
    refine ⟨_, rfl, c, xs, rfl, e7 _ _ hc, fun y H8 e8 hy => ?_⟩
    obtain ⟨t2, rfl, ht2⟩ := hy
    have q2e : H8 q2 = some (.dT []) := e8 _ _ upd_same
    refine ⟨t2, dk ((xs.length : Int) - 1, 0), rfl, ht2, q2e, ?_⟩
    have E8 : Ex (upd H6 p1 (.tup [.int a, .ref q1])) (upd H8 q2 (.dT [(dk ((xs.length : Int) - 1, 0), V.int 1)])) := Ex.mut (y2.trans e8) hq2
    have d2 : DealAt (upd H8 q2 (.dT [(dk ((xs.length : Int) - 1, 0), V.int 1)])) q2 [(((xs.length : Int) - 1, 0), 1)] := upd_same
    generalize upd H8 q2 (.dT [(dk ((xs.length : Int) - 1, 0), V.int 1)]) = H9 at E8 d2 ⊢
    refine ⟨by show 2 ≤ sizeLine; decide, fun p2 hp2 => ⟨by show 2 ≤ sizeLine; decide, fun l hl0 => ?_⟩⟩
    have z1 := Ex.new (o := .tup [.int b, .ref q2]) hp2
    have z2 := Ex.new (o := .lst [.ref p1, .ref p2]) hl0
    have E10 := E8.trans (z1.trans z2)
    have e10 := (e3.trans E5).trans (y1.trans E10)
    have g1 := E10 _ _ (show (upd H6 p1 (.tup [.int a, .ref q1])) p1 = _ from upd_same)
    have g2 := z2 _ _ (show (upd H9 p2 (.tup [.int b, .ref q2])) p2 = _ from upd_same)
    have d1' := (y1.trans E10) _ _ d1
    have d2' := (z1.trans z2) _ _ d2
    have s0 := rings_ok hR 0 (by omega)
    have n0 := rings_pos hR (rs.length - 1) (by omega)
    refine ⟨c, l, xs, rs, [.ref p1, .ref p2], [(a, [((0, K1N.sAt rs 0), 1)]), (b, [(((xs.length : Int) - 1, 0), 1)])], rfl, e10 _ _ hc, rings_ex4 e10 hR, upd_same, .cons ⟨p1, q1, rfl, g1, d1'⟩ (.cons ⟨p2, q2, rfl, g2, d2'⟩ .nil), fun p hp => ?_, by show 1 + (1 + 0) ≤ 1000; decide, ?_, fun r H11 res e11 hr11 hd11 hln11 hf11 => ?_⟩
    · have p40 : (10 : Nat) ^ 40 < 2 ^ 300 := by decide
      simp only [List.mem_cons, List.not_mem_nil, or_false] at hp
      rcases hp with rfl | rfl
      · refine ⟨by unfold NK; simp, fun e he => ?_, by show a.natAbs < 2 ^ 300; omega, by show ((1 : Nat) : Int) + 0 < 2 ^ 300; decide⟩
        rw [List.mem_singleton.mp he]
        exact ⟨⟨Int.le_refl 0, by show (0 : Int) < _; omega⟩, by show 0 ≤ K1N.sAt rs 0; omega, s0.2⟩
      · refine ⟨by unfold NK; simp, fun e he => ?_, by show b.natAbs < 2 ^ 300; omega, by show ((1 : Nat) : Int) + 0 < 2 ^ 300; decide⟩
        rw [List.mem_singleton.mp he]
        refine ⟨⟨by show 0 ≤ (xs.length : Int) - 1; omega, by show (xs.length : Int) - 1 < _; omega⟩, Int.le_refl 0, ?_⟩
        show (0 : Int) < (K1N.nAt rs ((xs.length : Int) - 1).toNat : Int)
        rw [show ((xs.length : Int) - 1).toNat = rs.length - 1 by omega]
        omega
    · show (a.natAbs : Int) * (((1 : Nat) : Int) + 0) + ((b.natAbs : Int) * (((1 : Nat) : Int) + 0) + 0) ≤ _
      omega
    · refine k r H11 res (e10.trans e11) hr11 (hd11.mono ?_) hln11 fun f hf => ?_
      · show (a.natAbs : Int) * (((1 : Nat) : Int) + 0) + ((b.natAbs : Int) * (((1 : Nat) : Int) + 0) + 0) ≤ _
        omega
      · rw [hf11 f hf]
        show a * (f (0, K1N.sAt rs 0) * 1 + 0) + (b * (f ((xs.length : Int) - 1, 0) * 1 + 0) + 0) = _
        rw [Int.mul_one, Int.mul_one, Int.add_zero, Int.add_zero, Int.add_zero]
end
end K1

set_option exponentiation.threshold 400
namespace K1
open PySem PySem.Spec PyProof.Rows L2 Evl LX ZW ZM DM DR
/-- a class -/
def ClassAt (H : Hp) (v : V) (deg : Int) (ps : List Int) : Prop := ∃ t a, v = .ref t ∧ H t = some (.tup [.int deg, .ref a]) ∧ PlacesT H a ps
theorem ClassAt.ex {H H' : Hp} {v : V} {deg : Int} {ps : List Int} (e : Ex H H') (h : ClassAt H v deg ps) : ClassAt H' v deg ps := by
  obtain ⟨t, a, rfl, h1, h2⟩ := h
  exact ⟨t, a, rfl, e _ _ h1, e _ _ h2⟩
/-- a class by its readings -/
abbrev CL (H : Hp) (v : V) (rs : List (Int × Int)) (deg : Int) (t : Nat → Int) : Prop := ClassAt H v deg (cx rs t)
theorem cx_ok {H : Hp} {xs : List V} {rs : List (Int × Int)} (h : RingsAt H 60 xs rs) (t : Nat → Int) : PlOk rs (cx rs t) := fun j hj => by
  rw [cx_len] at hj
  rw [cx_get hj]
  have := rings_pos h j hj
  exact ⟨Int.emod_nonneg _ (by omega), Int.emod_lt_of_pos _ (by omega)⟩
theorem range_zero (n : Nat) (f : Nat → V) : ∀ i, (List.range i).map f ++ [f i] = (List.range (i + 1)).map f := fun i => by
  rw [List.range_succ, List.map_append]
  rfl
theorem rf_get {n i : Nat} (f : Nat → Int) (h : i < n) : ((List.range n).map fun j => V.int (f j))[i]? = some (V.int (f i)) := by
  rw [List.getElem?_map, List.getElem?_range h]
  rfl
theorem rf_set {n i : Nat} {z : Int} {f g : Nat → Int} (h : i < n) (hi : g i = z) (ho : ∀ j, j ≠ i → g j = f j) : ((List.range n).map fun j => V.int (f j)).set i (V.int z) = (List.range n).map fun j => V.int (g j) := by
  refine List.ext_getElem? fun j => ?_
  rw [List.getElem?_set]
  by_cases e : i = j
  · subst e
    rw [if_pos rfl, if_pos (by rw [List.length_map, List.length_range]; exact h), rf_get g h, hi]
  · rw [if_neg e]
    by_cases hj : j < n
    · rw [rf_get f hj, rf_get g hj, ho j (fun z => e z.symm)]
    · rw [List.getElem?_eq_none (by rw [List.length_map, List.length_range]; omega), List.getElem?_eq_none (by rw [List.length_map, List.length_range]; omega)]
theorem Sf_snoc (f : Pl → Int) (ds : Dl) (e : Pl × Int) : Sf f (ds ++ [e]) = Sf f ds + f e.1 * e.2 := by
  rw [Sf_append]
  show _ + (f e.1 * e.2 + 0) = _
  omega
section
variable {P : Program} {w : World} {K : PySem.W.Frag} {mg : Str → Option Value} {base : Heap}
def spCheckClass : Sp := fun vs H Q _ => ∃ c v xs rs deg ps, vs = [.ref c, v] ∧ H c = some (.tup xs) ∧ RingsAt H 60 xs rs ∧ xs.length ≤ 12 ∧ ClassAt H v deg ps ∧ -(10 ^ 60) < deg ∧ deg < 10 ^ 60 ∧ ps.length = xs.length ∧ PlOk rs ps ∧ ∀ H', Ex H H' → Q .non H'
def spIsClass : Sp := fun vs H Q _ => ∃ c v xs rs deg ps, vs = [.ref c, v] ∧ H c = some (.tup xs) ∧ RingsAt H 60 xs rs ∧ xs.length ≤ 12 ∧ ClassAt H v deg ps ∧ -(10 ^ 60) < deg ∧ deg < 10 ^ 60 ∧ ps.length = xs.length ∧ PlOk rs ps ∧ ∀ H', Ex H H' → Q (.bl true) H'
theorem ok_is_class (T : Txt K mg) {f : Addr} {fd : FuncData} (D : DefAt K mg "is_class" sIsClass ["chain", "value"] f fd) : FnOk P w K mg base CX0 4 f fd ["chain", "value"] spIsClass := by
  refine D.F.ok scIsClass (fun vs H Q E h => ?_) (fun cdv A outer s H vs Q E hr h => ?_)
  · obtain ⟨c, v, xs, rs, deg, ps, rfl, _⟩ := h
    rfl
  · obtain ⟨c, v, xs, rs, deg, ps, rfl, hc, hR, hl, hv', d1, d2, hpl, hok, k⟩ := h
    obtain ⟨t, a, rfl, ht, ha⟩ := id hv'
    obtain ⟨f1, fd1, D1⟩ := T.d_is_pair
    obtain ⟨f2, fd2, D2⟩ := T.d_is_integer
    obtain ⟨f3, fd3, D3⟩ := T.d_lies_told
    have hr1 : Room 1 _ := hr.mono (by decide)
    refine ⟨_, pss_one (ps_ret (pe_and (pe_call (ok_is_pair T D1) hr1 (by rfl) D1.g D1.F.kp D1.b .nil pass0 (pa_cons (pv 1) pa_nil))
      (pe_and (pe_call (ok_is_integer T D2) hr1 (by rfl) D2.g D2.F.kp D2.b .nil pass0 (pa_cons (pe_ix ix_tup (pv 1) pe_int (fun _ _ => rfl)) pa_nil))
      (pe_one (pe_call (ok_lies_told T D3) hr (by rfl) D3.g D3.F.kp D3.b .nil pass0 (pa_cons (pv 0) (pa_cons (pe_ix ix_tup (pv 1) pe_int (fun _ _ => rfl)) pa_nil))))))), ?_⟩
    refine ⟨_, rfl, _, _, rfl, .tup ht, fun H1 e1 => ⟨_, rfl, iteT ?_⟩⟩
    refine ⟨_, rfl, t, _, 0, .int deg, rfl, rfl, SqT.of (e1 _ _ ht), rfl, .int deg, true, rfl, ?_, fun H2 e2 => ⟨_, rfl, iteT ?_⟩⟩
    · have := IntB.int (K := K) (H := H1) deg
      rw [decide_eq_true d1, decide_eq_true d2] at this
      exact this
    · have e12 := e1.trans e2
      refine ⟨_, rfl, _, rfl, t, _, 1, .ref a, rfl, rfl, SqT.of (e12 _ _ ht), rfl, c, a, xs, rs, ps, rfl, e12 _ _ hc, rings_ex4 e12 hR, hl, e12 _ _ ha, hpl, hok, fun H3 e3 => k _ (e12.trans e3)⟩
theorem ok_check_class (T : Txt K mg) {f : Addr} {fd : FuncData} (D : DefAt K mg "check_class" sCheckClass ["chain", "value"] f fd) : FnOk P w K mg base CX0 5 f fd ["chain", "value"] spCheckClass := by
  refine D.F.ok scCheckClass (fun vs H Q E h => ?_) (fun cdv A outer s H vs Q E hr h => ?_)
  · obtain ⟨c, v, xs, rs, deg, ps, rfl, _⟩ := h
    rfl
  · obtain ⟨c, v, xs, rs, deg, ps, rfl, hc, hR, hl, hv', d1, d2, hpl, hok, k⟩ := h
    obtain ⟨f1, fd1, D1⟩ := T.d_is_class
    refine ⟨_, pss_one (ps_if (pt_not (pt_val (pe_call (ok_is_class T D1) hr (by rfl) D1.g D1.F.kp D1.b .nil pass0 (pa_cons (pv 0) (pa_cons (pv 1) pa_nil))))) pss_never pss_nil), ?_⟩
    exact ⟨_, rfl, _, rfl, c, v, xs, rs, deg, ps, rfl, hc, hR, hl, hv', d1, d2, hpl, hok, fun H1 e1 => ⟨true, rfl, iteF (k _ e1)⟩⟩
/-- rests taken modulo the places -/
def modp (rs : List (Int × Int)) (ns : List Int) : List Int := (List.range ns.length).map fun j => ns.getD j 0 % (K1N.nAt rs j : Int)
def spToldClass : Sp := fun vs H Q _ => ∃ c l xs rs deg, ∃ ns : List Int, vs = [.ref c, .int deg, .ref l] ∧ H c = some (.tup xs) ∧ RingsAt H 60 xs rs ∧ xs.length ≤ 12 ∧ H l = some (.lst (ns.map V.int)) ∧ ns.length = xs.length ∧ -(10 ^ 60) < deg ∧ deg < 10 ^ 60 ∧
  ∀ r H', Ex H H' → ClassAt H' (.ref r) deg (modp rs ns) → Q (.ref r) H'
theorem ok_told_class (T : Txt K mg) {f : Addr} {fd : FuncData} (D : DefAt K mg "told_class" sToldClass ["chain", "degree", "rests"] f fd) : FnOk P w K mg base CX0 3 f fd ["chain", "degree", "rests"] spToldClass := by
  refine D.F.ok scToldClass (fun vs H Q E h => ?_) (fun cdv A outer s H vs Q E hr h => ?_)
  · obtain ⟨c, l, xs, rs, deg, ns, rfl, _⟩ := h
    rfl
  · obtain ⟨c, l, xs, rs, deg, ns, rfl, hc, hR, hl, hn, hlen, d1, d2, k⟩ := h
    obtain ⟨f1, fd1, D1⟩ := T.d_check_digits
    refine ⟨_, pss_cons (ps_expr (pe_call (ok_check_digits T D1) hr (by rfl) D1.g D1.F.kp D1.b .nil pass0 (pa_cons (pe_lst (pa_cons (pv 1) pa_nil)) pa_nil)))
      (pss_one (ps_ret (pe_tup (pa_cons (pv 1) (pa_cons (pe_callTy call_tuple_of (by rfl) T.z_tuple (by decide +kernel) (pa_cons (pe_lc (own := [("rest", 3), ("ring", 4)]) (g := gTup K 2 (gCons (gName 3) (gCons (gName 4) gNil))) (tt := tYes) rfl scToldClass.nd (pi_zipM (by rfl) T.z_zip (pa_cons (pv 2) (pa_cons (pv 0) pa_nil)))
        (blkOk_by (N := nToldClass) (sc := defScope sToldClass) (by decide +kernel)) (fun _ _ _ _ _ => pg_tup (by rfl) (pgs_cons (pg_name (i := 3) scToldClass.nd rfl (.inl rfl)) (pgs_cons (pg_name (i := 4) scToldClass.nd rfl (.inl rfl)) pgs_nil))) (fun _ _ _ _ _ => pts_nil)
        (fun _ _ _ _ _ => pe_op op_mod (pv 3) (pe_ix (show IxR _ (rIxT K) from ix_tup) (pv 4) pe_int (fun _ _ => rfl)))) pa_nil)) pa_nil))))), ?_⟩
    refine ⟨_, rfl, by show 1 ≤ sizeLine; decide, fun d0 hd0 => ?_⟩
    have e0 := Ex.new (o := .lst [V.int deg]) hd0
    refine ⟨d0, [deg], rfl, upd_same, by show 1 ≤ 1000; decide, fun z hz => by rw [List.mem_singleton.mp hz]; exact ⟨d1, d2⟩, fun H1 e1' => ?_⟩
    have e1 := e0.trans e1'
    have hn1 := e1 _ _ hn
    have hc1 := e1 _ _ hc
    refine ⟨_, rfl, _, rfl, _, rfl, l, c, _, _, rfl, SqL.of hn1, SqT.of hc1, fun Dl hD => ?_⟩
    refine lc_zipM (K := K) (a := l) (b := c) (xs := ns.map V.int) (ys := xs) (n := xs.length) (by rw [List.length_map]; exact hlen) rfl (fun i H' => H' Dl = some (.lst (((List.range i).map fun j => ns.getD j 0 % (K1N.nAt rs j : Int)).map V.int)) ∧ Ex H1 H') ⟨upd_same, Ex.new hD⟩ (fun i H' hp => ⟨SqL.of (hp.2 _ _ hn1), SqT.of (hp.2 _ _ hc1)⟩) (fun i x y Tp H' hi hx hy hp nT => ?_) (fun H' hp => ?_)
    · obtain ⟨w1, w2⟩ := hp
      rw [int_get5 (by omega)] at hx
      obtain rfl := Option.some.inj hx
      have eT := Ex.new (o := .tup [.int (ns.getD i 0), y]) nT
      have hy1 := rings_nth4 (rings_ex4 ((e1.trans w2).trans eT) hR) hy
      obtain ⟨t, rfl, ht, b1, b2, b3, b4⟩ := hy1
      refine ⟨Tp, _, rfl, SqT.of upd_same, rfl, .int _, [_], rfl, _, [], rfl, rfl, rfl, ?_⟩
      dsimp only [tYes]
      rw [if_pos rfl]
      refine ⟨_, rfl, _, rfl, t, _, 0, .int _, rfl, rfl, SqT.of ht, rfl, _, _, rfl, rfl, by omega, _, eT _ _ w1, ?_, ?_, Ex.mut (w2.trans eT) hD⟩
      · rw [List.length_map, List.length_map, List.length_range]
        exact small1000 (by omega)
      · rw [upd_same, List.range_succ, List.map_append, List.map_append]
        rfl
    · obtain ⟨w1, w2⟩ := hp
      refine ⟨Dl, _, rfl, .inl ⟨SqL.of w1, fun r1 hr1 => ⟨by show 2 ≤ sizeLine; decide, fun r2 hr2 => k r2 _ (((e1.trans w2).trans (Ex.new hr1)).trans (Ex.new hr2)) ⟨r2, r1, rfl, upd_same, ?_⟩⟩⟩⟩
      show (upd _ r2 _) r1 = _
      rw [Ex.new hr2 _ _ upd_same, ← hlen]
      rfl
def spClassAt : Sp := fun vs H Q _ => ∃ c a xs rs ds B, vs = [.ref c, .ref a] ∧ H c = some (.tup xs) ∧ RingsAt H 60 xs rs ∧ xs.length ≤ 12 ∧ DealAt H a ds ∧ DOk rs ds B ∧ ∀ r H', Ex H H' → CL H' (.ref r) rs (Sf one ds) (fun i => Sf (tau rs i) ds) → Q (.ref r) H'
theorem ok_class_at (T : Txt K mg) {f : Addr} {fd : FuncData} (D : DefAt K mg "class_at" sClassAt ["chain", "deal"] f fd) : FnOk P w K mg base CX0 1 f fd ["chain", "deal"] spClassAt := by
  refine D.F.ok scClassAt (fun vs H Q E h => ?_) (fun cdv A outer s₀ H vs Q E hr h => ?_)
  · obtain ⟨c, a, xs, rs, ds, B, rfl, _⟩ := h
    rfl
  · obtain ⟨c, a, xs, rs, ds, B, rfl, hc, hR, hl, ha, hd, k⟩ := h
    have hu1 := Nat.lt_of_le_of_lt (Nat.add_le_add_left (show 1 ≤ 64 by decide) _) hr.units
    refine ⟨_, pss_cons (ps_setLc (i := 2) (own := [("_", 10)]) (g := gName 10) (tt := tYes) (by rfl) scClassAt.nd rfl rfl (sw_true rfl rfl rfl (by decide +kernel)) (pi_tup (pv 0)) (blkOk_by (N := nClassAt) (sc := defScope sClassAt) (by decide +kernel)) (fun _ _ _ _ _ => pg_name (i := 10) scClassAt.nd rfl (.inl rfl)) (fun _ _ _ _ _ => pts_nil) (fun _ _ _ _ _ => pe_int))
      (pss_cons (ps_setLc (i := 3) (own := [("_", 10)]) (g := gName 10) (tt := tYes) (by rfl) scClassAt.nd rfl rfl (sw_true rfl rfl rfl (by decide +kernel)) (pi_tup (pv 0)) (blkOk_by (N := nClassAt) (sc := defScope sClassAt) (by decide +kernel)) (fun _ _ _ _ _ => pg_name (i := 10) scClassAt.nd rfl (.inl rfl)) (fun _ _ _ _ _ => pts_nil) (fun _ _ _ _ _ => pe_int))
      (pss_cons (ps_lock (ps_for PassesOwn.never rfl (pi_keys (pv 1)) (pg_name (i := 4) scClassAt.nd rfl (.inl rfl))
        (pss_cons (ps_asg (pv 4) (pg_tup (by rfl) (pgs_cons (pg_name (i := 5) scClassAt.nd rfl (.inl rfl)) (pgs_cons (pg_name (i := 6) scClassAt.nd rfl (.inl rfl)) pgs_nil))))
        (pss_cons (ps_augS (pv 2) (pv 5) get_list (pe_dget hu1 (pv 1) (pv 4) (fun _ _ => rfl)) ip_add set_list)
        (pss_one (ps_augS (pv 3) (pv 5) get_list (pe_op op_mul (pv 6) (pe_dget hu1 (pv 1) (pv 4) (fun _ _ => rfl))) ip_add set_list))))))
      (pss_cons (ps_set (i := 7) scClassAt.nd rfl (.inl rfl) (pe_lst pa_nil))
      (pss_cons (ps_set (i := 8) scClassAt.nd rfl (.inl rfl) pe_int)
      (pss_cons (ps_for PassesOwn.never rfl (EnT.pi_enumT (by rfl) T.z_enumerate (pa_cons (pv 0) pa_nil)) (pg_tup rfl (pgs_cons (pg_name (i := 5) scClassAt.nd rfl (.inl rfl)) (pgs_cons (pg_name (i := 9) scClassAt.nd rfl (.inl rfl)) pgs_nil)))
        (pss_cons (ps_expr (pe_bm PySem.F.plainAttrs_list PySem.F.slot_list_append PySem.F.type_list_append mt_append (pv 7) (pa_cons (pe_op op_mod (pe_op op_add (pe_ix ix_list (pv 3) (pv 5) (fun _ _ => rfl)) (pe_op op_mul (pe_ix ix_tup (pv 9) pe_int (fun _ _ => rfl)) (pe_op op_sub (pv 8) (pv 5)))) (pe_ix ix_tup (pv 9) pe_int (fun _ _ => rfl))) pa_nil)))
        (pss_one (ps_aug (i := 8) scClassAt.nd rfl (.inl rfl) (pe_ix ix_list (pv 2) (pv 5) (fun _ _ => rfl)) ip_add))))
      (pss_one (ps_ret (pe_tup (pa_cons (pv 8) (pa_cons (pe_callTy call_tuple_of (by rfl) T.z_tuple (by decide +kernel) (pa_cons (pv 7) pa_nil)) pa_nil)))))))))), ?_⟩
    have hlen : xs.length = rs.length := paired_len hR
    refine ⟨_, rfl, c, rfl, ⟨_, SqT.of hc⟩, fun l1 hl1 => ?_⟩
    refine lc_tup (K := K) (a := c) (xs := xs) (fun i H' => H' l1 = some (.lst ((List.range i).map fun _ => V.int 0)) ∧ Ex H H') ⟨upd_same, Ex.new hl1⟩ (fun i H' _ hp => SqT.of (hp.2 _ _ hc)) (fun i x H' hx hp => ?_) (fun H1 hp => ?_)
    · obtain ⟨w1, w2⟩ := hp
      have hi := (List.getElem?_eq_some_iff.mp hx).1
      refine ⟨rfl, ?_⟩
      dsimp only [tYes]
      rw [if_pos rfl]
      refine ⟨_, w1, ?_, ?_, Ex.mut w2 hl1⟩
      · rw [List.length_map, List.length_range]
        exact small1000 (by omega)
      · rw [upd_same, List.range_succ, List.map_append]
        rfl
    obtain ⟨p1, e1⟩ := hp
    refine ⟨_, rfl, c, rfl, ⟨_, SqT.of (e1 _ _ hc)⟩, fun l2 hl2 => ?_⟩
    refine lc_tup (K := K) (a := c) (xs := xs) (fun i H' => H' l2 = some (.lst ((List.range i).map fun _ => V.int 0)) ∧ Ex H1 H') ⟨upd_same, Ex.new hl2⟩ (fun i H' _ hp => SqT.of ((e1.trans hp.2) _ _ hc)) (fun i x H' hx hp => ?_) (fun H2 hp => ?_)
    · obtain ⟨w1, w2⟩ := hp
      have hi := (List.getElem?_eq_some_iff.mp hx).1
      refine ⟨rfl, ?_⟩
      dsimp only [tYes]
      rw [if_pos rfl]
      refine ⟨_, w1, ?_, ?_, Ex.mut w2 hl2⟩
      · rw [List.length_map, List.length_range]
        exact small1000 (by omega)
      · rw [upd_same, List.range_succ, List.map_append]
        rfl
    obtain ⟨p2, e2⟩ := hp
    have n12 : l1 ≠ l2 := ne_of_none p1 hl2
    have f2 : H l2 = none := fresh_back e1 hl2
    replace p1 := e2 _ _ p1
    have e12 := e1.trans e2
    rw [hlen] at p1 p2
    have na1 : l1 ≠ a := fun z => by
      rw [z, ha] at hl1
      cases hl1
    have na2 : l2 ≠ a := fun z => by
      rw [z, ha] at f2
      cases f2
    refine ⟨a, _, e12 _ _ ha, trivial, fun od => ?_⟩
    have k0 : Keep a H (upd H2 a (.frz od (.dT (ds.map ent)))) := (Keep.ex e12).trans keep_lock
    have q1 : (upd H2 a (.frz od (.dT (ds.map ent)))) l1 = some (.lst ((List.range rs.length).map fun j => V.int (Sf (ind j) (ds.take 0)))) := by
      rw [upd_ne na1]
      exact p1
    have q2 : (upd H2 a (.frz od (.dT (ds.map ent)))) l2 = some (.lst ((List.range rs.length).map fun j => V.int (Sf (spt j) (ds.take 0)))) := by
      rw [upd_ne na2]
      exact p2
    refine ⟨_, rfl, a, od, rfl, .inr ⟨_, upd_same, for_it walk_keysT (fun k σ2 H3 => ∃ (y4 y5 y6 : Option V), σ2 = [some (.ref c), some (.ref a), some (.ref l1), some (.ref l2), y4, y5, y6, none, none, none, none] ∧
        H3 l1 = some (.lst ((List.range rs.length).map fun j => V.int (Sf (ind j) (ds.take k)))) ∧ H3 l2 = some (.lst ((List.range rs.length).map fun j => V.int (Sf (spt j) (ds.take k)))) ∧ H3 a = some (.frz od (.dT (ds.map ent))) ∧ Keep a H H3)
      ⟨none, none, none, rfl, q1, q2, upd_same, k0⟩ (fun k σ2 H3 _ hW => ?_) (fun k x σ2 H3 H4 hk hW hy => ?_) (fun σ2 H3 hW => ?_)⟩⟩
    · obtain ⟨_, _, _, _, _, _, fz, _⟩ := hW
      exact fz
    · obtain ⟨y4, y5, y6, rfl, v1, v2, v3, v4⟩ := hW
      obtain ⟨rfl, ky, v, q, hkv, rfl, hq⟩ := hy
      rw [List.getElem?_map] at hkv
      obtain ⟨e, he, hek⟩ := Option.map_eq_some_iff.mp hkv
      cases hek
      have hem := List.mem_of_getElem? he
      obtain ⟨⟨b0, b1⟩, b2, b3⟩ := hd.keys e hem
      obtain ⟨⟨ej, eq⟩, ev⟩ := e
      replace b0 : 0 ≤ ej := b0
      replace b1 : ej < (rs.length : Int) := b1
      replace b2 : 0 ≤ eq := b2
      replace b3 : eq < (K1N.nAt rs ej.toNat : Int) := b3
      have n60 := rings_n hR ej.toNat
      have hq2 : H4 q = some (.tup [.int ej, .int eq]) := hq
      have gv : getE ds (ej, eq) = some ev := getE_of hd.nk hem
      have hdk := take_snoc he
      have hj : ej.toNat < rs.length := by omega
      have ej2 : ej = ((ej.toNat : Nat) : Int) := by omega
      have gd : ∀ H5, H5 a = some (.frz od (.dT (ds.map ent))) → H5 q = some (.tup [.int ej, .int eq]) → DGet H5 a (.ref q) (some (V.int ev)) := fun H5 h1 h2 => .inr ⟨_, dk (ej, eq), q, .inr ⟨od, h1⟩, rfl, h2, by rw [valV_ent, gv]; rfl⟩
      have nq1 : q ≠ l1 := ne_of hq2 v1 (by intro z; cases z)
      have nq2 : q ≠ l2 := ne_of hq2 v2 (by intro z; cases z)
      refine ⟨_, rfl, q, _, rfl, SqT.of hq2, rfl, .int ej, [_], rfl, .int eq, [], rfl, rfl, ?_⟩
      refine ⟨_, rfl, _, rfl, l1, _, ej.toNat, _, rfl, by rw [← ej2], SqL.of v1, rf_get _ hj, _, rfl, _, rfl, a, _, rfl, gd _ v3 hq2, _, _, rfl, rfl, l1, _, ej, ej.toNat, rfl, rfl, v1, ?_, ?_⟩
      · rw [ej2]
        refine ixN_nat ?_
        rw [List.length_map, List.length_range]
        exact hj
      rw [rf_set (g := fun j => Sf (ind j) (ds.take (k + 1))) hj (by
          show Sf (ind ej.toNat) (ds.take (k + 1)) = _
          rw [hdk, Sf_snoc]
          unfold ind
          rw [if_pos ej2, Int.one_mul]) (fun j hne => by
          show Sf (ind j) (ds.take (k + 1)) = _
          rw [hdk, Sf_snoc]
          unfold ind
          rw [if_neg (by show ¬ ej = (j : Int); omega), Int.zero_mul, Int.add_zero])]
      have u1 : (upd H4 l1 (.lst ((List.range rs.length).map fun j => V.int (Sf (ind j) (ds.take (k + 1)))))) l1 = _ := upd_same
      have u2 : (upd H4 l1 (.lst ((List.range rs.length).map fun j => V.int (Sf (ind j) (ds.take (k + 1)))))) l2 = _ := (upd_ne n12.symm).trans v2
      have u3 : (upd H4 l1 (.lst ((List.range rs.length).map fun j => V.int (Sf (ind j) (ds.take (k + 1)))))) a = _ := (upd_ne na1.symm).trans v3
      have u4 : (upd H4 l1 (.lst ((List.range rs.length).map fun j => V.int (Sf (ind j) (ds.take (k + 1)))))) q = _ := (upd_ne nq1).trans hq2
      have u5 : Keep a H (upd H4 l1 (.lst ((List.range rs.length).map fun j => V.int (Sf (ind j) (ds.take (k + 1)))))) := v4.mut hl1
      generalize upd H4 l1 (.lst ((List.range rs.length).map fun j => V.int (Sf (ind j) (ds.take (k + 1))))) = H5 at u1 u2 u3 u4 u5 ⊢
      refine ⟨_, rfl, _, rfl, l2, _, ej.toNat, _, rfl, by rw [← ej2], SqL.of u2, rf_get _ hj, _, rfl, _, rfl, _, rfl, a, _, rfl, gd _ u3 u4, _, _, rfl, rfl, .inl (by constructor <;> omega), _, _, rfl, rfl, l2, _, ej, ej.toNat, rfl, rfl, u2, ?_, ?_⟩
      · rw [ej2]
        refine ixN_nat ?_
        rw [List.length_map, List.length_range]
        exact hj
      rw [rf_set (g := fun j => Sf (spt j) (ds.take (k + 1))) hj (by
          show Sf (spt ej.toNat) (ds.take (k + 1)) = _
          rw [hdk, Sf_snoc]
          unfold spt
          rw [if_pos ej2]) (fun j hne => by
          show Sf (spt j) (ds.take (k + 1)) = _
          rw [hdk, Sf_snoc]
          unfold spt
          rw [if_neg (by show ¬ ej = (j : Int); omega), Int.zero_mul, Int.add_zero])]
      exact ⟨_, _, _, rfl, (upd_ne n12).trans u1, upd_same, (upd_ne na2.symm).trans u3, u5.mut f2⟩
    obtain ⟨y4, y5, y6, rfl, v1, v2, v3, v4⟩ := hW
    rw [List.length_map, List.take_length] at v1 v2
    refine ⟨v3, ?_⟩
    have e3 := Ex.of_keep ha v4
    have w1 : (upd H3 a (.dT (ds.map ent))) l1 = _ := (upd_ne na1).trans v1
    have w2 : (upd H3 a (.dT (ds.map ent))) l2 = _ := (upd_ne na2).trans v2
    generalize upd H3 a (.dT (ds.map ent)) = H4 at e3 w1 w2 ⊢
    refine ⟨by show 0 ≤ sizeLine; decide, fun l3 hl3 => ?_⟩
    have e4 := Ex.new (o := .lst []) hl3
    have f3 : H l3 = none := fresh_back e3 hl3
    have w1' := e4 _ _ w1
    have w2' := e4 _ _ w2
    have n13 : l1 ≠ l3 := ne_of_none w1 hl3
    have n23 : l2 ≠ l3 := ne_of_none w2 hl3
    have e34 := e3.trans e4
    have w3 : (upd H4 l3 (.lst [])) l3 = some (.lst ((List.range 0).map fun j => V.int ((Sf (tau rs j) ds - (j : Int) * K1N.sAt rs j) % (K1N.nAt rs j : Int)))) := upd_same
    generalize upd H4 l3 (.lst []) = H5 at e34 w1' w2' w3 ⊢
    refine ⟨_, rfl, c, xs, rfl, SqT.of (e34 _ _ hc), for_enumT (K := K) (a := c) (xs := xs) (fun i σ' H' => ∃ (y4 y5 y6 y9 : Option V), σ' = [some (.ref c), some (.ref a), some (.ref l1), some (.ref l2), y4, y5, y6, some (.ref l3), some (.int (Sf (bef i) ds)), y9, none] ∧
        H' l1 = some (.lst ((List.range rs.length).map fun j => V.int (Sf (ind j) ds))) ∧ H' l2 = some (.lst ((List.range rs.length).map fun j => V.int (Sf (spt j) ds))) ∧ H' l3 = some (.lst ((List.range i).map fun j => V.int ((Sf (tau rs j) ds - (j : Int) * K1N.sAt rs j) % (K1N.nAt rs j : Int)))) ∧ Ex H H')
      ⟨y4, y5, y6, none, by rw [bef_zero hd.keys]; rfl, w1', w2', w3, e34⟩ (fun i σ' H' hp => ?_) (fun i x Tp σ' H' hx hp nT => ?_) (fun σ' H' hp => ?_)⟩
    · obtain ⟨_, _, _, _, _, _, _, _, e⟩ := hp
      exact SqT.of (e _ _ hc)
    · obtain ⟨z4, z5, z6, z9, rfl, x1, x2, x3, x4⟩ := hp
      have eT := Ex.new (o := .tup [.int (i : Nat), x]) nT
      have hi : i < xs.length := (List.getElem?_eq_some_iff.mp hx).1
      obtain ⟨t, rfl, ht, b1, b2, b3, b4⟩ := rings_nth4 (rings_ex4 (x4.trans eT) hR) hx
      have s1 := eT _ _ x1
      have s2 := eT _ _ x2
      have s3 := eT _ _ x3
      refine ⟨Tp, _, rfl, SqT.of upd_same, rfl, .int (i : Nat), [_], rfl, _, [], rfl, rfl, ?_⟩
      refine ⟨_, rfl, .inl ⟨rfl, _, SqL.of s3⟩, _, rfl, _, rfl, l2, _, _, _, rfl, rfl, SqL.of s2, atI_nat (rf_get _ (by omega)), _, rfl, t, _, 1, _, rfl, rfl, SqT.of ht, rfl, _, rfl, _, rfl, _, _, rfl, rfl, _, _, rfl, rfl, .inl (by constructor <;> omega), _, _, rfl, rfl, _, rfl, t, _, 0, _, rfl, rfl, SqT.of ht, rfl, _, _, rfl, rfl, by omega, ?_⟩
      refine ⟨l3, _, _, rfl, rfl, s3, ?_, ?_⟩
      · rw [List.length_map, List.length_range]
        exact small1000 (by omega)
      have n3T : ∀ {b : Addr} {o : HO}, b ≠ l3 → (upd H' Tp (.tup [.int (i : Nat), .ref t])) b = some o → (upd (upd H' Tp (.tup [.int (i : Nat), .ref t])) l3 (.lst (((List.range i).map fun j => V.int ((Sf (tau rs j) ds - (j : Int) * K1N.sAt rs j) % (K1N.nAt rs j : Int))) ++ [V.int ((Sf (spt i) ds + K1N.sAt rs i * (Sf (bef i) ds - (i : Int))) % (K1N.nAt rs i : Int))]))) b = some o := fun n h => (upd_ne n).trans h
      have r1 := n3T n13 s1
      have r2 := n3T n23 s2
      have r4 : Ex H (upd (upd H' Tp (.tup [.int (i : Nat), .ref t])) l3 (.lst (((List.range i).map fun j => V.int ((Sf (tau rs j) ds - (j : Int) * K1N.sAt rs j) % (K1N.nAt rs j : Int))) ++ [V.int ((Sf (spt i) ds + K1N.sAt rs i * (Sf (bef i) ds - (i : Int))) % (K1N.nAt rs i : Int))]))) := Ex.mut (x4.trans eT) f3
      have r3 : (upd (upd H' Tp (.tup [.int (i : Nat), .ref t])) l3 (.lst (((List.range i).map fun j => V.int ((Sf (tau rs j) ds - (j : Int) * K1N.sAt rs j) % (K1N.nAt rs j : Int))) ++ [V.int ((Sf (spt i) ds + K1N.sAt rs i * (Sf (bef i) ds - (i : Int))) % (K1N.nAt rs i : Int))]))) l3 = some (.lst ((List.range (i + 1)).map fun j => V.int ((Sf (tau rs j) ds - (j : Int) * K1N.sAt rs j) % (K1N.nAt rs j : Int)))) := by
        rw [upd_same, List.range_succ, List.map_append]
        have ee : Sf (spt i) ds + K1N.sAt rs i * (Sf (bef i) ds - (i : Int)) = Sf (tau rs i) ds - (i : Int) * K1N.sAt rs i := by
          rw [← tau_parts, Int.mul_sub, Int.mul_comm (K1N.sAt rs i) (i : Int)]
          omega
        rw [ee]
        rfl
      refine ⟨_, rfl, _, rfl, _, rfl, l1, _, _, _, rfl, rfl, SqL.of r1, atI_nat (rf_get _ (by omega)), _, _, rfl, rfl, ?_⟩
      exact ⟨_, _, _, _, by rw [bef_succ]; rfl, r1, r2, r3, r4⟩
    · obtain ⟨z4, z5, z6, z9, rfl, x1, x2, x3, x4⟩ := hp
      rw [hlen, bef_all hd.keys]
      refine ⟨_, rfl, _, rfl, l3, _, rfl, .inl ⟨SqL.of x3, fun r1 hr1 => ⟨by show 2 ≤ sizeLine; decide, fun r2 hr2 => k r2 _ ((x4.trans (Ex.new hr1)).trans (Ex.new hr2)) ⟨r2, r1, rfl, upd_same, ?_⟩⟩⟩⟩
      show (upd _ r2 _) r1 = _
      rw [Ex.new hr2 _ _ upd_same, hlen]
      unfold cx
      rw [List.map_map]
      rfl
end
end K1

set_option exponentiation.threshold 400
namespace K1
open PySem PySem.Spec PyProof.Rows L2 Evl LX ZW ZM DM DR
theorem one_ok (p : Pl) : one p = 1 ∨ one p = 0 := .inl rfl
theorem sf_one_le {rs : List (Int × Int)} {ds : Dl} {B : Int} (h : DOk rs ds B) : ((Sf one ds).natAbs : Int) ≤ B := by
  have a := Sf_le one_ok ds
  have b := Ab_nonneg ds
  have c := h.abs
  omega
/-- rests of the places as readings -/
theorem modp_cx {rs : List (Int × Int)} {g t : Nat → Int} (h : ∀ i, i < rs.length → g i % (K1N.nAt rs i : Int) = (t i - (i : Int) * K1N.sAt rs i) % (K1N.nAt rs i : Int)) : modp rs ((List.range rs.length).map g) = cx rs t := by
  unfold modp cx
  rw [List.length_map, List.length_range]
  refine List.map_congr_left fun j hj => ?_
  have hj' := List.mem_range.mp hj
  show ((List.range rs.length).map g).getD j 0 % _ = _
  rw [mapr_get g hj']
  exact h j hj'
section
variable {P : Program} {w : World} {K : PySem.W.Frag} {mg : Str → Option Value} {base : Heap}
def spClassOf : Sp := fun vs H Q _ => ∃ c a xs rs ds B, vs = [.ref c, .ref a] ∧ H c = some (.tup xs) ∧ RingsAt H 60 xs rs ∧ (1 ≤ xs.length ∧ xs.length ≤ 12) ∧ DealAt H a ds ∧ DOk rs ds B ∧ B ≤ 10 ^ 50 ∧ ∀ r H', Ex H H' → CL H' (.ref r) rs (Sf one ds) (fun i => Sf (tau rs i) ds) → Q (.ref r) H'
theorem ok_class_of (T : Txt K mg) {f : Addr} {fd : FuncData} (D : DefAt K mg "class_of" sClassOf ["chain", "deal"] f fd) : FnOk P w K mg base CX0 6 f fd ["chain", "deal"] spClassOf := by
  refine D.F.ok scClassOf (fun vs H Q E h => ?_) (fun cdv A outer s₀ H vs Q E hr h => ?_)
  · obtain ⟨c, a, xs, rs, ds, B, rfl, _⟩ := h
    rfl
  · obtain ⟨c, a, xs, rs, ds, B, rfl, hc, hR, hl, ha, hd, hB, k⟩ := h
    obtain ⟨f1, fd1, D1⟩ := T.d_check_chain
    obtain ⟨f2, fd2, D2⟩ := T.d_check_deal
    obtain ⟨f3, fd3, D3⟩ := T.d_class_at
    obtain ⟨f4, fd4, D4⟩ := T.d_check_digits
    have hr1 : Room 1 _ := hr.mono (by decide)
    have hr2 : Room 2 _ := hr.mono (by decide)
    refine ⟨_, pss_cons (ps_expr (pe_call (ok_check_chain T D1) hr (by rfl) D1.g D1.F.kp D1.b .nil pass0 (pa_cons (pv 0) pa_nil)))
      (pss_cons (ps_expr (pe_call (ok_check_deal T D2) hr (by rfl) D2.g D2.F.kp D2.b .nil pass0 (pa_cons (pv 0) (pa_cons (pv 1) pa_nil))))
      (pss_cons (ps_set (i := 2) scClassOf.nd rfl (.inl rfl) (pe_call (ok_class_at T D3) hr1 (by rfl) D3.g D3.F.kp D3.b .nil pass0 (pa_cons (pv 0) (pa_cons (pv 1) pa_nil))))
      (pss_cons (ps_expr (pe_call (ok_check_digits T D4) hr2 (by rfl) D4.g D4.F.kp D4.b .nil pass0 (pa_cons (pe_lst (pa_cons (pe_ix ix_tup (pv 2) pe_int (fun _ _ => rfl)) pa_nil)) pa_nil)))
      (pss_one (ps_ret (pv 2)))))), ?_⟩
    refine ⟨_, rfl, .ref c, rfl, rings_chain4 hR hc hl.1 hl.2, fun H1 e1 => ?_⟩
    refine ⟨_, rfl, _, rfl, c, a, xs, rs, ds, rfl, e1 _ _ hc, rings_ex4 e1 hR, hl.2, e1 _ _ ha, hd.mono hB, fun H2 e2' => ?_⟩
    have e2 := e1.trans e2'
    refine ⟨_, rfl, _, rfl, c, a, xs, rs, ds, B, rfl, e2 _ _ hc, rings_ex4 e2 hR, hl.2, e2 _ _ ha, hd, fun r H3 e3' hr3 => ?_⟩
    have e3 := e2.trans e3'
    obtain ⟨t, p, hrt, ht, hp⟩ := id hr3
    cases hrt
    refine ⟨_, rfl, r, _, 0, .int (Sf one ds), rfl, rfl, SqT.of ht, rfl, by show 1 ≤ sizeLine; decide, fun l hl0 => ?_⟩
    have e4 := Ex.new (o := .lst [V.int (Sf one ds)]) hl0
    have sb := sf_one_le hd
    refine ⟨l, [Sf one ds], rfl, upd_same, by show 1 ≤ 1000; decide, fun z hz => ?_, fun H5 e5 => ?_⟩
    · rw [List.mem_singleton.mp hz]
      constructor <;> omega
    · exact ⟨_, rfl, k r H5 ((e3.trans e4).trans e5) (hr3.ex (e4.trans e5))⟩
def spCheckClasses : Sp := fun vs H Q _ => ∃ c v1 v2 xs rs d1 d2 t u, vs = [.ref c, v1, v2] ∧ H c = some (.tup xs) ∧ RingsAt H 60 xs rs ∧ (1 ≤ xs.length ∧ xs.length ≤ 12) ∧ CL H v1 rs d1 t ∧ CL H v2 rs d2 u ∧ (d1.natAbs : Int) ≤ 10 ^ 55 ∧ (d2.natAbs : Int) ≤ 10 ^ 55 ∧ ∀ H', Ex H H' → Q .non H'
theorem ok_check_classes (T : Txt K mg) {f : Addr} {fd : FuncData} (D : DefAt K mg "check_classes" sCheckClasses ["chain", "one", "other"] f fd) : FnOk P w K mg base CX0 6 f fd ["chain", "one", "other"] spCheckClasses := by
  refine D.F.ok scCheckClasses (fun vs H Q E h => ?_) (fun cdv A outer s₀ H vs Q E hr h => ?_)
  · obtain ⟨c, v1, v2, xs, rs, d1, d2, t, u, rfl, _⟩ := h
    rfl
  · obtain ⟨c, v1, v2, xs, rs, d1, d2, t, u, rfl, hc, hR, hl, h1, h2, b1, b2, k⟩ := h
    obtain ⟨f1, fd1, D1⟩ := T.d_check_chain
    obtain ⟨f2, fd2, D2⟩ := T.d_check_class
    have hr4 : Room 4 _ := hr.mono (by decide)
    have hlen : xs.length = rs.length := paired_len hR
    refine ⟨_, pss_cons (ps_expr (pe_call (ok_check_chain T D1) hr (by rfl) D1.g D1.F.kp D1.b .nil pass0 (pa_cons (pv 0) pa_nil)))
      (pss_cons (ps_expr (pe_call (ok_check_class T D2) hr (by rfl) D2.g D2.F.kp D2.b .nil pass0 (pa_cons (pv 0) (pa_cons (pv 1) pa_nil))))
      (pss_one (ps_expr (pe_call (ok_check_class T D2) hr (by rfl) D2.g D2.F.kp D2.b .nil pass0 (pa_cons (pv 0) (pa_cons (pv 2) pa_nil)))))), ?_⟩
    refine ⟨_, rfl, .ref c, rfl, rings_chain4 hR hc hl.1 hl.2, fun H1 e1 => ?_⟩
    refine ⟨_, rfl, _, rfl, c, v1, xs, rs, d1, cx rs t, rfl, e1 _ _ hc, rings_ex4 e1 hR, hl.2, h1.ex e1, by omega, by omega, by rw [cx_len, hlen], cx_ok hR t, fun H2 e2' => ?_⟩
    have e2 := e1.trans e2'
    exact ⟨_, rfl, _, rfl, c, v2, xs, rs, d2, cx rs u, rfl, e2 _ _ hc, rings_ex4 e2 hR, hl.2, h2.ex e2, by omega, by omega, by rw [cx_len, hlen], cx_ok hR u, fun H3 e3 => k _ (e2.trans e3)⟩
/-- two classes put together by sums or differences -/
def spClassTwo (op : Int → Int → Int) : Sp := fun vs H Q _ => ∃ c v1 v2 xs rs d1 d2 t u, vs = [.ref c, v1, v2] ∧ H c = some (.tup xs) ∧ RingsAt H 60 xs rs ∧ (1 ≤ xs.length ∧ xs.length ≤ 12) ∧ CL H v1 rs d1 t ∧ CL H v2 rs d2 u ∧ (d1.natAbs : Int) ≤ 10 ^ 55 ∧ (d2.natAbs : Int) ≤ 10 ^ 55 ∧
  ∀ r H', Ex H H' → CL H' (.ref r) rs (op d1 d2) (fun i => op (t i) (u i)) → Q (.ref r) H'
theorem ok_class_sum (T : Txt K mg) {f : Addr} {fd : FuncData} (D : DefAt K mg "class_sum" sClassSum ["chain", "one", "other"] f fd) : FnOk P w K mg base CX0 7 f fd ["chain", "one", "other"] (spClassTwo fun x y => x + y) := by
  refine D.F.ok scClassSum (fun vs H Q E h => ?_) (fun cdv A outer s₀ H vs Q E hr h => ?_)
  · obtain ⟨c, v1, v2, xs, rs, d1, d2, t, u, rfl, _⟩ := h
    rfl
  · obtain ⟨c, v1, v2, xs, rs, d1, d2, t, u, rfl, hc, hR, hl, h1, h2, b1, b2, k⟩ := h
    obtain ⟨f1, fd1, D1⟩ := T.d_check_classes
    obtain ⟨f2, fd2, D2⟩ := T.d_told_class
    have hr3 : Room 3 _ := hr.mono (by decide)
    have hlen : xs.length = rs.length := paired_len hR
    refine ⟨_, pss_cons (ps_expr (pe_call (ok_check_classes T D1) hr (by rfl) D1.g D1.F.kp D1.b .nil pass0 (pa_cons (pv 0) (pa_cons (pv 1) (pa_cons (pv 2) pa_nil)))))
      (pss_cons (ps_setLc (i := 3) (own := [("index", 4), ("ring", 5)]) (g := gTup K 2 (gCons (gName 4) (gCons (gName 5) gNil))) (tt := tYes) (by rfl) scClassSum.nd rfl rfl (sw_true rfl rfl rfl (by decide +kernel)) (EnT.pi_enumT (by rfl) T.z_enumerate (pa_cons (pv 0) pa_nil))
        (blkOk_by (N := nClassSum) (sc := defScope sClassSum) (by decide +kernel)) (fun _ _ _ _ _ => pg_tup (by rfl) (pgs_cons (pg_name (i := 4) scClassSum.nd rfl (.inl rfl)) (pgs_cons (pg_name (i := 5) scClassSum.nd rfl (.inl rfl)) pgs_nil))) (fun _ _ _ _ _ => pts_nil)
        (fun _ _ _ _ _ => pe_op op_add (pe_op op_add (pe_ix (show IxR _ (rIxT K) from ix_tup) (pe_ix (show IxR _ (rIxT K) from ix_tup) (pv 1) pe_int (fun _ _ => rfl)) (pv 4) (fun _ _ => rfl)) (pe_ix (show IxR _ (rIxT K) from ix_tup) (pe_ix (show IxR _ (rIxT K) from ix_tup) (pv 2) pe_int (fun _ _ => rfl)) (pv 4) (fun _ _ => rfl)))
          (pe_op op_mul (pv 4) (pe_ix (show IxR _ (rIxT K) from ix_tup) (pv 5) pe_int (fun _ _ => rfl)))))
      (pss_one (ps_ret (pe_call (ok_told_class T D2) hr3 (by rfl) D2.g D2.F.kp D2.b .nil pass0 (pa_cons (pv 0) (pa_cons (pe_op op_add (pe_ix ix_tup (pv 1) pe_int (fun _ _ => rfl)) (pe_ix ix_tup (pv 2) pe_int (fun _ _ => rfl))) (pa_cons (pv 3) pa_nil))))))), ?_⟩
    refine ⟨_, rfl, _, rfl, _, rfl, c, v1, v2, xs, rs, d1, d2, t, u, rfl, hc, hR, hl, h1, h2, b1, b2, fun H1 e1 => ?_⟩
    have hc1 := e1 _ _ hc
    refine ⟨_, rfl, c, xs, rfl, SqT.of hc1, fun Dl hD => ?_⟩
    refine lc_enumT (K := K) (a := c) (xs := xs) (fun i H' => H' Dl = some (.lst ((List.range i).map fun j => V.int ((cx rs t).getD j 0 + (cx rs u).getD j 0 + (j : Int) * K1N.sAt rs j))) ∧ Ex H1 H') ⟨upd_same, Ex.new hD⟩ (fun i H' hp => SqT.of (hp.2 _ _ hc1)) (fun i x Tp H' hx hp nT => ?_) (fun H' hp => ?_)
    · obtain ⟨w1, w2⟩ := hp
      have hi := (List.getElem?_eq_some_iff.mp hx).1
      have eT := Ex.new (o := .tup [.int (i : Nat), x]) nT
      have e3 := (e1.trans w2).trans eT
      obtain ⟨tt, rfl, ht, c1, c2, c3, c4⟩ := rings_nth4 (rings_ex4 e3 hR) hx
      obtain ⟨a1, p1, rfl, ha1, hp1⟩ := h1.ex e3
      obtain ⟨a2, p2, rfl, ha2, hp2⟩ := h2.ex e3
      refine ⟨Tp, _, rfl, SqT.of upd_same, rfl, .int (i : Nat), [_], rfl, _, [], rfl, rfl, rfl, ?_⟩
      dsimp only [tYes]
      rw [if_pos rfl]
      refine ⟨_, rfl, a1, _, 1, _, rfl, rfl, SqT.of ha1, rfl, _, rfl, p1, _, _, _, rfl, rfl, SqT.of hp1, atI_nat (int_get5 (by rw [cx_len]; omega)), _, rfl, a2, _, 1, _, rfl, rfl, SqT.of ha2, rfl, _, rfl, p2, _, _, _, rfl, rfl, SqT.of hp2, atI_nat (int_get5 (by rw [cx_len]; omega)), _, _, rfl, rfl, ?_⟩
      refine ⟨_, rfl, _, rfl, tt, _, 1, _, rfl, rfl, SqT.of ht, rfl, _, _, rfl, rfl, .inl (by constructor <;> omega), _, _, rfl, rfl, _, eT _ _ w1, ?_, ?_, Ex.mut (w2.trans eT) hD⟩
      · rw [List.length_map, List.length_range]
        exact small1000 (by omega)
      · rw [upd_same, List.range_succ, List.map_append]
        rfl
    · obtain ⟨w1, w2⟩ := hp
      have e3 := e1.trans w2
      obtain ⟨a1, p1, rfl, ha1, hp1⟩ := h1.ex e3
      obtain ⟨a2, p2, rfl, ha2, hp2⟩ := h2.ex e3
      rw [hlen] at w1
      refine ⟨_, rfl, _, rfl, a1, _, 0, _, rfl, rfl, SqT.of ha1, rfl, _, rfl, a2, _, 0, _, rfl, rfl, SqT.of ha2, rfl, _, _, rfl, rfl, _, rfl, c, Dl, xs, rs, d1 + d2, (List.range rs.length).map fun j => (cx rs t).getD j 0 + (cx rs u).getD j 0 + (j : Int) * K1N.sAt rs j, rfl, e3 _ _ hc, rings_ex4 e3 hR, hl.2, ?_, ?_, by omega, by omega, fun r H6 e6 hr6 => k r _ (e3.trans e6) ?_⟩
      · rw [List.map_map]
        exact w1
      · rw [List.length_map, List.length_range, hlen]
      · rw [modp_cx (t := fun i => t i + u i) fun i hi => ?_] at hr6
        · exact hr6
        · rw [cx_get hi, cx_get hi]
          exact sum_rest _ _ _ _ _
theorem ok_class_less (T : Txt K mg) {f : Addr} {fd : FuncData} (D : DefAt K mg "class_less" sClassLess ["chain", "one", "other"] f fd) : FnOk P w K mg base CX0 7 f fd ["chain", "one", "other"] (spClassTwo fun x y => x - y) := by
  refine D.F.ok scClassLess (fun vs H Q E h => ?_) (fun cdv A outer s₀ H vs Q E hr h => ?_)
  · obtain ⟨c, v1, v2, xs, rs, d1, d2, t, u, rfl, _⟩ := h
    rfl
  · obtain ⟨c, v1, v2, xs, rs, d1, d2, t, u, rfl, hc, hR, hl, h1, h2, b1, b2, k⟩ := h
    obtain ⟨f1, fd1, D1⟩ := T.d_check_classes
    obtain ⟨f2, fd2, D2⟩ := T.d_told_class
    have hr3 : Room 3 _ := hr.mono (by decide)
    have hlen : xs.length = rs.length := paired_len hR
    refine ⟨_, pss_cons (ps_expr (pe_call (ok_check_classes T D1) hr (by rfl) D1.g D1.F.kp D1.b .nil pass0 (pa_cons (pv 0) (pa_cons (pv 1) (pa_cons (pv 2) pa_nil)))))
      (pss_cons (ps_setLc (i := 3) (own := [("index", 4), ("ring", 5)]) (g := gTup K 2 (gCons (gName 4) (gCons (gName 5) gNil))) (tt := tYes) (by rfl) scClassLess.nd rfl rfl (sw_true rfl rfl rfl (by decide +kernel)) (EnT.pi_enumT (by rfl) T.z_enumerate (pa_cons (pv 0) pa_nil))
        (blkOk_by (N := nClassLess) (sc := defScope sClassLess) (by decide +kernel)) (fun _ _ _ _ _ => pg_tup (by rfl) (pgs_cons (pg_name (i := 4) scClassLess.nd rfl (.inl rfl)) (pgs_cons (pg_name (i := 5) scClassLess.nd rfl (.inl rfl)) pgs_nil))) (fun _ _ _ _ _ => pts_nil)
        (fun _ _ _ _ _ => pe_op op_sub (pe_op op_sub (pe_ix (show IxR _ (rIxT K) from ix_tup) (pe_ix (show IxR _ (rIxT K) from ix_tup) (pv 1) pe_int (fun _ _ => rfl)) (pv 4) (fun _ _ => rfl)) (pe_ix (show IxR _ (rIxT K) from ix_tup) (pe_ix (show IxR _ (rIxT K) from ix_tup) (pv 2) pe_int (fun _ _ => rfl)) (pv 4) (fun _ _ => rfl)))
          (pe_op op_mul (pv 4) (pe_ix (show IxR _ (rIxT K) from ix_tup) (pv 5) pe_int (fun _ _ => rfl)))))
      (pss_one (ps_ret (pe_call (ok_told_class T D2) hr3 (by rfl) D2.g D2.F.kp D2.b .nil pass0 (pa_cons (pv 0) (pa_cons (pe_op op_sub (pe_ix ix_tup (pv 1) pe_int (fun _ _ => rfl)) (pe_ix ix_tup (pv 2) pe_int (fun _ _ => rfl))) (pa_cons (pv 3) pa_nil))))))), ?_⟩
    refine ⟨_, rfl, _, rfl, _, rfl, c, v1, v2, xs, rs, d1, d2, t, u, rfl, hc, hR, hl, h1, h2, b1, b2, fun H1 e1 => ?_⟩
    have hc1 := e1 _ _ hc
    refine ⟨_, rfl, c, xs, rfl, SqT.of hc1, fun Dl hD => ?_⟩
    refine lc_enumT (K := K) (a := c) (xs := xs) (fun i H' => H' Dl = some (.lst ((List.range i).map fun j => V.int ((cx rs t).getD j 0 - (cx rs u).getD j 0 - (j : Int) * K1N.sAt rs j))) ∧ Ex H1 H') ⟨upd_same, Ex.new hD⟩ (fun i H' hp => SqT.of (hp.2 _ _ hc1)) (fun i x Tp H' hx hp nT => ?_) (fun H' hp => ?_)
    · obtain ⟨w1, w2⟩ := hp
      have hi := (List.getElem?_eq_some_iff.mp hx).1
      have eT := Ex.new (o := .tup [.int (i : Nat), x]) nT
      have e3 := (e1.trans w2).trans eT
      obtain ⟨tt, rfl, ht, c1, c2, c3, c4⟩ := rings_nth4 (rings_ex4 e3 hR) hx
      obtain ⟨a1, p1, rfl, ha1, hp1⟩ := h1.ex e3
      obtain ⟨a2, p2, rfl, ha2, hp2⟩ := h2.ex e3
      refine ⟨Tp, _, rfl, SqT.of upd_same, rfl, .int (i : Nat), [_], rfl, _, [], rfl, rfl, rfl, ?_⟩
      dsimp only [tYes]
      rw [if_pos rfl]
      refine ⟨_, rfl, a1, _, 1, _, rfl, rfl, SqT.of ha1, rfl, _, rfl, p1, _, _, _, rfl, rfl, SqT.of hp1, atI_nat (int_get5 (by rw [cx_len]; omega)), _, rfl, a2, _, 1, _, rfl, rfl, SqT.of ha2, rfl, _, rfl, p2, _, _, _, rfl, rfl, SqT.of hp2, atI_nat (int_get5 (by rw [cx_len]; omega)), _, _, rfl, rfl, ?_⟩
      refine ⟨_, rfl, _, rfl, tt, _, 1, _, rfl, rfl, SqT.of ht, rfl, _, _, rfl, rfl, .inl (by constructor <;> omega), _, _, rfl, rfl, _, eT _ _ w1, ?_, ?_, Ex.mut (w2.trans eT) hD⟩
      · rw [List.length_map, List.length_range]
        exact small1000 (by omega)
      · rw [upd_same, List.range_succ, List.map_append]
        rfl
    · obtain ⟨w1, w2⟩ := hp
      have e3 := e1.trans w2
      obtain ⟨a1, p1, rfl, ha1, hp1⟩ := h1.ex e3
      obtain ⟨a2, p2, rfl, ha2, hp2⟩ := h2.ex e3
      rw [hlen] at w1
      refine ⟨_, rfl, _, rfl, a1, _, 0, _, rfl, rfl, SqT.of ha1, rfl, _, rfl, a2, _, 0, _, rfl, rfl, SqT.of ha2, rfl, _, _, rfl, rfl, _, rfl, c, Dl, xs, rs, d1 - d2, (List.range rs.length).map fun j => (cx rs t).getD j 0 - (cx rs u).getD j 0 - (j : Int) * K1N.sAt rs j, rfl, e3 _ _ hc, rings_ex4 e3 hR, hl.2, ?_, ?_, by omega, by omega, fun r H6 e6 hr6 => k r _ (e3.trans e6) ?_⟩
      · rw [List.map_map]
        exact w1
      · rw [List.length_map, List.length_range, hlen]
      · rw [modp_cx (t := fun i => t i - u i) fun i hi => ?_] at hr6
        · exact hr6
        · rw [cx_get hi, cx_get hi]
          exact less_rest _ _ _ _ _
def spWithEnds : Sp := fun vs H Q _ => ∃ c v xs rs deg t, ∃ a b : Int, vs = [.ref c, v, .int a, .int b] ∧ H c = some (.tup xs) ∧ RingsAt H 60 xs rs ∧ (1 ≤ xs.length ∧ xs.length ≤ 12) ∧ CL H v rs deg t ∧ (deg.natAbs : Int) ≤ 10 ^ 55 ∧ (a.natAbs : Int) ≤ 10 ^ 55 ∧ (b.natAbs : Int) ≤ 10 ^ 55 ∧
  ∀ r H', Ex H H' → CL H' (.ref r) rs (deg + a + b) (fun i => t i + a * K1N.sAt rs i) → Q (.ref r) H'
theorem ok_class_with_ends (T : Txt K mg) {f : Addr} {fd : FuncData} (D : DefAt K mg "class_with_ends" sClassWithEnds ["chain", "one", "a", "b"] f fd) : FnOk P w K mg base CX0 6 f fd ["chain", "one", "a", "b"] spWithEnds := by
  refine D.F.ok scClassWithEnds (fun vs H Q E h => ?_) (fun cdv A outer s H vs Q E hr h => ?_)
  · obtain ⟨c, v, xs, rs, deg, ps, a, b, rfl, _⟩ := h
    rfl
  · obtain ⟨c, v, xs, rs, deg, tf, a, b, rfl, hc, hR, hl, hv', d1, a1, b1, k⟩ := h
    obtain ⟨f1, fd1, D1⟩ := T.d_check_chain
    obtain ⟨f2, fd2, D2⟩ := T.d_check_class
    obtain ⟨f3, fd3, D3⟩ := T.d_check_integer
    obtain ⟨f4, fd4, D4⟩ := T.d_told_class
    have hr2 : Room 2 _ := hr.mono (by decide)
    have hr3 : Room 3 _ := hr.mono (by decide)
    have hr4 : Room 4 _ := hr.mono (by decide)
    have hlen : xs.length = rs.length := paired_len hR
    refine ⟨_, pss_cons (ps_expr (pe_call (ok_check_chain T D1) hr (by rfl) D1.g D1.F.kp D1.b .nil pass0 (pa_cons (pv 0) pa_nil)))
      (pss_cons (ps_expr (pe_call (ok_check_class T D2) hr (by rfl) D2.g D2.F.kp D2.b .nil pass0 (pa_cons (pv 0) (pa_cons (pv 1) pa_nil))))
      (pss_cons (ps_expr (pe_call (ok_check_integer T D3) hr2 (by rfl) D3.g D3.F.kp D3.b .nil pass0 (pa_cons (pv 2) pa_nil)))
      (pss_cons (ps_expr (pe_call (ok_check_integer T D3) hr2 (by rfl) D3.g D3.F.kp D3.b .nil pass0 (pa_cons (pv 3) pa_nil)))
      (pss_cons (ps_setLc (i := 4) (own := [("place", 5), ("ring", 6)]) (g := gTup K 2 (gCons (gName 5) (gCons (gName 6) gNil))) (tt := tYes) (by rfl) scClassWithEnds.nd rfl rfl (sw_true rfl rfl rfl (by decide +kernel)) (RZ.pi_zipA (by rfl) T.z_zip (pa_cons (pe_ix ix_tup (pv 1) pe_int (fun _ _ => rfl)) (pa_cons (pv 0) pa_nil)))
        (blkOk_by (N := nClassWithEnds) (sc := defScope sClassWithEnds) (by decide +kernel)) (fun _ _ _ _ _ => pg_tup (by rfl) (pgs_cons (pg_name (i := 5) scClassWithEnds.nd rfl (.inl rfl)) (pgs_cons (pg_name (i := 6) scClassWithEnds.nd rfl (.inl rfl)) pgs_nil))) (fun _ _ _ _ _ => pts_nil)
        (fun _ _ _ _ _ => pe_op op_add (pv 5) (pe_op op_mul (pv 2) (pe_ix (show IxR _ (rIxT K) from ix_tup) (pv 6) pe_int (fun _ _ => rfl)))))
      (pss_one (ps_ret (pe_call (ok_told_class T D4) hr3 (by rfl) D4.g D4.F.kp D4.b .nil pass0 (pa_cons (pv 0) (pa_cons (pe_op op_add (pe_op op_add (pe_ix ix_tup (pv 1) pe_int (fun _ _ => rfl)) (pv 2)) (pv 3)) (pa_cons (pv 4) pa_nil)))))))))), ?_⟩
    refine ⟨_, rfl, .ref c, rfl, rings_chain4 hR hc hl.1 hl.2, fun H1 e1 => ?_⟩
    refine ⟨_, rfl, _, rfl, c, v, xs, rs, deg, cx rs tf, rfl, e1 _ _ hc, rings_ex4 e1 hR, hl.2, hv'.ex e1, by omega, by omega, by rw [cx_len, hlen], cx_ok hR tf, fun H2 e2' => ?_⟩
    refine ⟨_, rfl, a, rfl, by omega, by omega, fun H3 e3' => ⟨_, rfl, b, rfl, by omega, by omega, fun H4 e4' => ?_⟩⟩
    have e4 := ((e1.trans e2').trans e3').trans e4'
    obtain ⟨t, pa, rfl, ht, ha⟩ := id (hv'.ex e4)
    have hc4 := e4 _ _ hc
    refine ⟨_, rfl, t, _, 1, .ref pa, rfl, rfl, SqT.of ht, rfl, _, rfl, pa, c, _, _, rfl, .inr ⟨SqT.of ha, SqT.of hc4, fun Dl hD => ?_⟩⟩
    refine lc_zipT (K := K) (a := pa) (b := c) (xs := (cx rs tf).map V.int) (ys := xs) (n := xs.length) (by rw [List.length_map, cx_len]; omega) (Nat.le_refl _) (.inr (Nat.le_refl _)) (fun i H' => H' Dl = some (.lst ((List.range i).map fun j => V.int ((cx rs tf).getD j 0 + a * K1N.sAt rs j))) ∧ Ex H4 H') ⟨upd_same, Ex.new hD⟩ (fun i H' hp => ⟨SqT.of (hp.2 _ _ ha), SqT.of (hp.2 _ _ hc4)⟩) (fun i x y Tp H' hi hx hy hp nT => ?_) (fun H' hp => ?_)
    · obtain ⟨w1, w2⟩ := hp
      obtain rfl := pl_get hx
      have eT := Ex.new (o := .tup [.int ((cx rs tf).getD i 0), y]) nT
      have hy1 := rings_nth4 (rings_ex4 ((e4.trans w2).trans eT) hR) hy
      obtain ⟨t', rfl, ht', c1, c2, c3, c4⟩ := hy1
      refine ⟨Tp, _, rfl, SqT.of upd_same, rfl, .int _, [_], rfl, _, [], rfl, rfl, rfl, ?_⟩
      dsimp only [tYes]
      rw [if_pos rfl]
      refine ⟨_, rfl, _, rfl, _, rfl, t', _, 1, .int _, rfl, rfl, SqT.of ht', rfl, _, _, rfl, rfl, .inr (by constructor <;> omega), _, _, rfl, rfl, _, eT _ _ w1, ?_, ?_, Ex.mut (w2.trans eT) hD⟩
      · rw [List.length_map, List.length_range]
        exact small1000 (by omega)
      · rw [upd_same, List.range_succ, List.map_append]
        rfl
    · obtain ⟨w1, w2⟩ := hp
      rw [hlen] at w1
      have e5 := e4.trans w2
      refine ⟨_, rfl, _, rfl, t, _, 0, .int deg, rfl, rfl, SqT.of (w2 _ _ ht), rfl, _, rfl, _, _, rfl, rfl, _, rfl, _, _, rfl, rfl, _, rfl, c, Dl, xs, rs, deg + a + b, (List.range rs.length).map fun j => (cx rs tf).getD j 0 + a * K1N.sAt rs j, rfl, e5 _ _ hc, rings_ex4 e5 hR, hl.2, ?_, ?_, by omega, by omega, fun r H6 e6 hr6 => k r _ (e5.trans e6) ?_⟩
      · rw [List.map_map]
        exact w1
      · rw [List.length_map, List.length_range, hlen]
      · rw [modp_cx (t := fun i => tf i + a * K1N.sAt rs i) fun i hi => ?_] at hr6
        · exact hr6
        · rw [cx_get hi]
          exact ends_rest _ _ _ _ _
end
end K1

set_option exponentiation.threshold 400
namespace K1
open PySem PySem.Spec PyProof.Rows L2 Evl LX ZW ZM DM DR
theorem put_abs {p : Pl} {v : Int} {ds : Dl} (n : NK ds) : Ab (putE ds p v) ≤ Ab ds + (v.natAbs : Int) := by
  unfold putE
  have a := getE_any p ds
  cases h : getE ds p with
  | none =>
    rw [h] at a
    rw [if_neg (by rw [a]; decide), Ab_append]
    show Ab ds + ((v.natAbs : Int) + 0) ≤ _
    omega
  | some o =>
    rw [h] at a
    rw [if_pos (by rw [a]; rfl)]
    obtain ⟨_, c⟩ := put_map (f := one) (v := v) n h
    omega
theorem joined_rest {sg : Int} (h : sg = 1 ∨ sg = -1) (t u s n i : Int) : ((t - i * s) % n + sg * ((u - i * s) % n) + sg * i * s) % n = (t + sg * u - i * s) % n := by
  rcases h with rfl | rfl
  · rw [Int.one_mul, Int.one_mul, Int.one_mul]
    exact sum_rest _ _ _ _ _
  · have e1 : -1 * i * s = -(i * s) := by rw [Int.neg_mul, Int.one_mul, Int.neg_mul]
    rw [e1]
    have := less_rest t u s n i
    rw [show (t - i * s) % n + -1 * ((u - i * s) % n) + -(i * s) = (t - i * s) % n - (u - i * s) % n - i * s by omega, show t + -1 * u - i * s = t - u - i * s by omega]
    exact this
theorem dp_intsC {K : PySem.W.Frag} {H : Hp} : ∀ ns : List Int, DpAll K H (ns.map V.int) (ns.map PyData.int)
  | [] => .nil
  | n :: ns => .cons (.int n) (dp_intsC ns)
theorem DealAt.ex {H H' : Hp} {a : Addr} {ds : Dl} (e : Ex H H') (h : DealAt H a ds) : DealAt H' a ds := e _ _ h
theorem RingsAt.keep {d : Addr} {H H' : Hp} {most : Int} {xs : List V} {rs : List (Int × Int)} (k : Keep d H H') (h : Dice H d) (r : RingsAt H most xs rs) : RingsAt H' most xs rs := paired_imp (fun _ _ z => RingAt.keep k h z) r
section
variable {P : Program} {w : World} {K : PySem.W.Frag} {mg : Str → Option Value} {base : Heap}
def spDeal : Sp := fun vs H Q _ => ∃ d c xs rs, ∃ most : Int, vs = [.ref d, .ref c, .int most] ∧ Dice H d ∧ H c = some (.tup xs) ∧ RingsAt H 60 xs rs ∧ xs.length ≤ 12 ∧ 1 ≤ most ∧ most ≤ 10 ^ 41 ∧
  ∀ r H' ds, DealAt H' r ds → DOk rs ds (36 * (most + 1)) → ds.length ≤ 36 → r ≠ d → Dice H' d → Keep d H H' → Q (.ref r) H'
theorem ok_deal (T : Txt K mg) {f : Addr} {fd : FuncData} (D : DefAt K mg "_law_deal" sLDeal ["_law_dice_here", "_law_chain_here", "_law_most"] f fd) : FnOk P w K mg base CX0 2 f fd ["_law_dice_here", "_law_chain_here", "_law_most"] spDeal := by
  refine D.F.ok scLDeal (fun vs H Q E h => ?_) (fun cdv A outer s₀ H vs Q E hr h => ?_)
  · obtain ⟨d, c, xs, rs, most, rfl, _⟩ := h
    rfl
  · obtain ⟨d, c, xs, rs, most, rfl, hd, hc, hR, hl, m1, m2, k⟩ := h
    obtain ⟨f1, fd1, D1⟩ := T.d_l_roll
    have hu1 := Nat.lt_of_le_of_lt (Nat.add_le_add_left (show 1 ≤ 64 by decide) _) hr.units
    have hlen : xs.length = rs.length := paired_len hR
    refine ⟨_, pss_cons (ps_set (i := 3) scLDeal.nd rfl (.inl rfl) pe_dnewT)
      (pss_cons (ps_for PassesOwn.never rfl (pi_range1 (by rfl) T.z_range (pa_cons (pe_callB call_len_seq (by rfl) T.z_len PySem.boot_len (pa_cons (pv 1) pa_nil)) pa_nil)) (pg_name (i := 4) scLDeal.nd rfl (.inl rfl))
        (pss_one (ps_for PassesOwn.never rfl (pi_range1 (by rfl) T.z_range (pa_cons (pe_call (ok_roll T D1) hr (by rfl) D1.g D1.F.kp D1.b .nil pass0 (pa_cons (pv 0) (pa_cons pe_int pa_nil))) pa_nil)) (pg_name (i := 5) scLDeal.nd rfl (.inl rfl))
          (pss_one (ps_dput hu1 (pv 3) (pe_tup (pa_cons (pv 4) (pa_cons (pe_call (ok_roll T D1) hr (by rfl) D1.g D1.F.kp D1.b .nil pass0 (pa_cons (pv 0) (pa_cons (pe_ix ix_tup (pe_ix ix_tup (pv 1) (pv 4) (fun _ _ => rfl)) pe_int (fun _ _ => rfl)) pa_nil))) pa_nil)))
            (pe_op op_add (pe_op op_sub (pe_call (ok_roll T D1) hr (by rfl) D1.g D1.F.kp D1.b .nil pass0 (pa_cons (pv 0) (pa_cons (pe_op op_add (pe_op op_mul pe_int (pv 2)) pe_int) pa_nil))) (pv 2)) (pe_call (ok_roll T D1) hr (by rfl) D1.g D1.F.kp D1.b .nil pass0 (pa_cons (pv 0) (pa_cons pe_int pa_nil)))) rfl)))))
      (pss_one (ps_ret (pv 3)))), ?_⟩
    intro sd hsd
    have nsd : sd ≠ d := fun z => hd.ne_new hsd z.symm
    have e0 := Ex.new (o := .dT []) hsd
    refine ⟨_, rfl, c, _, rfl, .inr (SqT.of (e0 _ _ hc)), _, rfl, by omega, by omega, ?_⟩
    refine for_range (lo := 0) (n := Int.toNat _) (fun i σ' H' => ∃ (y4 y5 : Option V) (cur : Dl), σ' = [some (.ref d), some (.ref c), some (.int most), some (.ref sd), y4, y5] ∧ DealAt H' sd cur ∧ NK cur ∧ KIn rs cur ∧ Ab cur ≤ 3 * (i : Int) * (most + 1) ∧ cur.length ≤ 3 * i ∧ Dice H' d ∧ Keep d H H')
      ⟨none, none, [], rfl, upd_same, List.nodup_nil, fun e he => absurd he (by simp), by show (0 : Int) ≤ 3 * 0 * (most + 1); omega, Nat.le_refl _, hd.upd nsd.symm, Keep.new hsd⟩ (fun i σ' H' hi hW => ?_) (fun σ' H' hW => ?_)
    · obtain ⟨y4, y5, cur, rfl, w1, w2, w3, w4, w5, w6, w7⟩ := hW
      have hi' : i < rs.length := by omega
      refine ⟨_, rfl, d, 4, rfl, w6, by decide, by decide, fun r0 H1 r00 r01 hd1 k1 => ⟨_, rfl, by omega, by omega, ?_⟩⟩
      have k01 := w7.trans k1
      have s1 : DealAt H1 sd cur := k1 _ _ nsd w1
      refine for_range (lo := 0) (n := Int.toNat _) (fun j σ2 H2 => ∃ (z5 : Option V) (cur2 : Dl), σ2 = [some (.ref d), some (.ref c), some (.int most), some (.ref sd), some (.int (0 + (i : Int))), z5] ∧ DealAt H2 sd cur2 ∧ NK cur2 ∧ KIn rs cur2 ∧ Ab cur2 ≤ Ab cur + (j : Int) * (most + 1) ∧ cur2.length ≤ cur.length + j ∧ Dice H2 d ∧ Keep d H H2)
        ⟨y5, cur, rfl, s1, w2, w3, by show Ab cur ≤ Ab cur + 0 * (most + 1); omega, Nat.le_refl _, hd1, k01⟩ (fun j σ2 H2 hj hW2 => ?_) (fun σ2 H2 hW2 => ?_)
      · obtain ⟨z5, cur2, rfl, v1, v2, v3, v4, v5, v6, v7⟩ := hW2
        refine ⟨_, rfl, _, rfl, _, _, rfl, rfl, .inl (by decide), _, _, rfl, rfl, d, _, rfl, v6, by omega, by omega, fun r1 H3 r10 r11 hd3 k3 => ?_⟩
        refine ⟨_, rfl, _, _, rfl, rfl, _, rfl, d, 2, rfl, hd3, by decide, by decide, fun r2 H4 r20 r21 hd4 k4 => ⟨_, _, rfl, rfl, ?_⟩⟩
        have k04 := (v7.trans k3).trans k4
        have hR4 := hR.keep k04 hd
        obtain ⟨x, hx, t, rfl, ht, n1, n2, n3, n4⟩ := rings_nth hR4 hi'
        refine ⟨_, rfl, _, rfl, _, rfl, _, rfl, _, rfl, c, xs, _, _, rfl, rfl, SqT.of (k04.tup hd hc), at_of (show (0 : Int) + (i : Int) = ((i : Nat) : Int) by omega) hx, t, _, 0, _, rfl, rfl, SqT.of ht, rfl, d, _, rfl, hd4, by omega, by omega, fun r3 H5 r30 r31 hd5 k5 => ?_⟩
        refine ⟨by show 2 ≤ sizeLine; decide, fun p hp => ?_⟩
        have k05 := (k04.trans k5).trans (Keep.new (o := .tup [.int (0 + (i : Int)), .int r3]) hp)
        have s5 : DealAt (upd H5 p (.tup [.int (0 + (i : Int)), .int r3])) sd cur2 := ((k3.trans k4).trans (k5.trans (Keep.new hp))) _ _ nsd v1
        have g5 : (upd H5 p (.tup [.int (0 + (i : Int)), .int r3])) p = some (.tup ((dk (0 + (i : Int), r3)).map kV)) := upd_same
        have hd6 : Dice (upd H5 p (.tup [.int (0 + (i : Int)), .int r3])) d := hd5.upd (hd5.ne_new hp)
        generalize upd H5 p (.tup [.int (0 + (i : Int)), .int r3]) = H6 at k05 s5 g5 hd6 ⊢
        have hl6 : (cur2.map ent).length < sizeLine := by
          rw [List.length_map]
          exact small1000 (by omega)
        refine ⟨sd, _, rfl, DPut.t (k := dk (0 + (i : Int), r3)) s5 g5 hl6, ?_⟩
        refine ⟨_, putE cur2 (0 + (i : Int), r3) (r1 - most + r2), rfl, ?_, put_nk v2, ?_, ?_, ?_, hd6.upd nsd.symm, k05.mut hsd⟩
        · show upd H6 sd _ sd = _
          rw [upd_same]
          dsimp only
          rw [putK_ent]
        · intro e he
          rcases put_keys e he with h1 | ⟨d2, h1, h2⟩
          · rw [h1]
            refine ⟨⟨by show (0 : Int) ≤ 0 + (i : Int); omega, by show (0 : Int) + (i : Int) < _; omega⟩, r30, ?_⟩
            show r3 < (K1N.nAt rs (0 + (i : Int)).toNat : Int)
            rw [show ((0 : Int) + (i : Int)).toNat = i by omega]
            exact r31
          · rw [← h2]
            exact v3 d2 h1
        · have a1 := put_abs (p := (0 + (i : Int), r3)) (v := r1 - most + r2) v2
          have a2 : ((j + 1 : Nat) : Int) * (most + 1) = (j : Int) * (most + 1) + (most + 1) := by
            rw [Int.natCast_add, Int.add_mul]
            omega
          rw [a2]
          omega
        · have := put_len cur2 (0 + (i : Int), r3) (r1 - most + r2)
          omega
      · obtain ⟨z5, cur2, rfl, v1, v2, v3, v4, v5, v6, v7⟩ := hW2
        refine ⟨_, _, cur2, rfl, v1, v2, v3, ?_, ?_, v6, v7⟩
        · have a1 : ((Int.toNat r0 : Nat) : Int) * (most + 1) ≤ 3 * (most + 1) := Int.mul_le_mul_of_nonneg_right (by omega) (by omega)
          have a2 : 3 * ((i + 1 : Nat) : Int) * (most + 1) = 3 * (i : Int) * (most + 1) + 3 * (most + 1) := by
            rw [show (3 : Int) * ((i + 1 : Nat) : Int) = 3 * (i : Int) + 3 by omega, Int.add_mul]
          rw [a2]
          omega
        · omega
    · obtain ⟨y4, y5, cur, rfl, w1, w2, w3, w4, w5, w6, w7⟩ := hW
      have a1 : 3 * ((Int.toNat (xs.length : Int) : Nat) : Int) * (most + 1) ≤ 36 * (most + 1) := Int.mul_le_mul_of_nonneg_right (by omega) (by omega)
      exact ⟨_, rfl, k sd H' cur w1 ⟨w2, w3, by omega, by omega⟩ (by omega) nsd w6 w7⟩
def spJoined : Sp := fun vs H Q _ => ∃ c v1 v2 xs rs d1 d2 t u, ∃ sg : Int, vs = [.ref c, v1, v2, .int sg] ∧ (sg = 1 ∨ sg = -1) ∧ H c = some (.tup xs) ∧ RingsAt H 60 xs rs ∧ xs.length ≤ 12 ∧ CL H v1 rs d1 t ∧ CL H v2 rs d2 u ∧
  ∀ r H', Ex H H' → CL H' (.ref r) rs (d1 + sg * d2) (fun i => t i + sg * u i) → Q (.ref r) H'
theorem ok_joined (T : Txt K mg) {f : Addr} {fd : FuncData} (D : DefAt K mg "_law_joined_class" sLJoinedClass ["_law_chain_here", "_law_one", "_law_other", "_law_sign"] f fd) : FnOk P w K mg base CX0 1 f fd ["_law_chain_here", "_law_one", "_law_other", "_law_sign"] spJoined := by
  refine D.F.ok scLJoinedClass (fun vs H Q E h => ?_) (fun cdv A outer s₀ H vs Q E hr h => ?_)
  · obtain ⟨c, v1, v2, xs, rs, d1, d2, t, u, sg, rfl, _⟩ := h
    rfl
  · obtain ⟨c, v1, v2, xs, rs, d1, d2, t, u, sg, rfl, hsg, hc, hR, hl, h1, h2, k⟩ := h
    have hlen : xs.length = rs.length := paired_len hR
    refine ⟨_, pss_cons (ps_set (i := 4) scLJoinedClass.nd rfl (.inl rfl) (pe_lst pa_nil))
      (pss_cons (ps_for PassesOwn.never rfl (pi_range1 (by rfl) T.z_range (pa_cons (pe_callB call_len_seq (by rfl) T.z_len PySem.boot_len (pa_cons (pv 0) pa_nil)) pa_nil)) (pg_name (i := 5) scLJoinedClass.nd rfl (.inl rfl))
        (pss_cons (ps_asg (pe_ix ix_tup (pv 0) (pv 5) (fun _ _ => rfl)) (pg_tup (by rfl) (pgs_cons (pg_name (i := 6) scLJoinedClass.nd rfl (.inl rfl)) (pgs_cons (pg_name (i := 7) scLJoinedClass.nd rfl (.inl rfl)) pgs_nil))))
        (pss_one (ps_expr (pe_bm PySem.F.plainAttrs_list PySem.F.slot_list_append PySem.F.type_list_append mt_append (pv 4) (pa_cons
          (pe_op op_mod (pe_op op_add (pe_op op_add (pe_ix ix_tup (pe_ix ix_tup (pv 1) pe_int (fun _ _ => rfl)) (pv 5) (fun _ _ => rfl)) (pe_op op_mul (pv 3) (pe_ix ix_tup (pe_ix ix_tup (pv 2) pe_int (fun _ _ => rfl)) (pv 5) (fun _ _ => rfl)))) (pe_op op_mul (pe_op op_mul (pv 3) (pv 5)) (pv 7))) (pv 6)) pa_nil))))))
      (pss_one (ps_ret (pe_tup (pa_cons (pe_op op_add (pe_ix ix_tup (pv 1) pe_int (fun _ _ => rfl)) (pe_op op_mul (pv 3) (pe_ix ix_tup (pv 2) pe_int (fun _ _ => rfl)))) (pa_cons (pe_callTy call_tuple_of (by rfl) T.z_tuple (by decide +kernel) (pa_cons (pv 4) pa_nil)) pa_nil)))))), ?_⟩
    refine ⟨by show 0 ≤ sizeLine; decide, fun l hl0 => ?_⟩
    have e0 := Ex.new (o := .lst []) hl0
    refine ⟨_, rfl, c, _, rfl, .inr (SqT.of (e0 _ _ hc)), _, rfl, by omega, by omega, ?_⟩
    refine for_range (lo := 0) (n := Int.toNat _) (fun i σ' H' => ∃ (y5 y6 y7 : Option V), σ' = [some (.ref c), some v1, some v2, some (.int sg), some (.ref l), y5, y6, y7] ∧ H' l = some (.lst ((List.range i).map fun j => V.int ((t j + sg * u j - (j : Int) * K1N.sAt rs j) % (K1N.nAt rs j : Int)))) ∧ Ex H H')
      ⟨none, none, none, rfl, upd_same, e0⟩ (fun i σ' H' hi hW => ?_) (fun σ' H' hW => ?_)
    · obtain ⟨y5, y6, y7, rfl, w1, w2⟩ := hW
      have hi' : i < rs.length := by omega
      have e0i : (0 : Int) + (i : Int) = ((i : Nat) : Int) := by omega
      obtain ⟨x, hx, tt, rfl, ht, n1, n2, n3, n4⟩ := rings_nth (rings_ex4 w2 hR) hi'
      obtain ⟨a1, p1, rfl, ha1, hp1⟩ := h1.ex w2
      obtain ⟨a2, p2, rfl, ha2, hp2⟩ := h2.ex w2
      refine ⟨_, rfl, _, rfl, c, xs, _, _, rfl, rfl, SqT.of (w2 _ _ hc), at_of e0i hx, tt, _, rfl, SqT.of ht, rfl, .int _, [_], rfl, .int _, [], rfl, rfl, ?_⟩
      refine ⟨_, rfl, .inl ⟨rfl, _, SqL.of w1⟩, _, rfl, a1, _, 1, _, rfl, rfl, SqT.of ha1, rfl, _, rfl, p1, _, _, _, rfl, rfl, SqT.of hp1, at_of e0i (int_get5 (by rw [cx_len]; omega)), _, rfl, _, rfl, a2, _, 1, _, rfl, rfl, SqT.of ha2, rfl, _, rfl, p2, _, _, _, rfl, rfl, SqT.of hp2, at_of e0i (int_get5 (by rw [cx_len]; omega)), _, _, rfl, rfl, .inl (by constructor <;> omega), _, _, rfl, rfl, ?_⟩
      refine ⟨_, rfl, _, rfl, _, _, rfl, rfl, .inl (by constructor <;> omega), _, rfl, _, _, rfl, rfl, .inr (by constructor <;> omega), _, _, rfl, rfl, _, rfl, _, _, rfl, rfl, by omega, ?_⟩
      refine ⟨l, _, _, rfl, rfl, w1, ?_, _, _, _, rfl, ?_, Ex.mut w2 hl0⟩
      · rw [List.length_map, List.length_range]
        exact small1000 (by omega)
      · rw [upd_same, List.range_succ, List.map_append]
        rw [cx_get hi', cx_get hi', e0i]
        dsimp only
        rw [joined_rest hsg]
        rfl
    · obtain ⟨y5, y6, y7, rfl, w1, w2⟩ := hW
      obtain ⟨a1, p1, rfl, ha1, hp1⟩ := h1.ex w2
      obtain ⟨a2, p2, rfl, ha2, hp2⟩ := h2.ex w2
      refine ⟨_, rfl, a1, _, 0, _, rfl, rfl, SqT.of ha1, rfl, _, rfl, _, rfl, a2, _, 0, _, rfl, rfl, SqT.of ha2, rfl, _, _, rfl, rfl, .inl (by constructor <;> omega), _, _, rfl, rfl, ?_⟩
      rw [show ((xs.length : Int)).toNat = rs.length by omega] at w1
      refine ⟨_, rfl, l, _, rfl, .inl ⟨SqL.of w1, fun r1 hr1 => ⟨by show 2 ≤ sizeLine; decide, fun r2 hr2 => k r2 _ ((w2.trans (Ex.new hr1)).trans (Ex.new hr2)) ⟨r2, r1, rfl, upd_same, ?_⟩⟩⟩⟩
      show (upd _ r2 _) r1 = _
      rw [Ex.new hr2 _ _ upd_same]
      unfold cx
      rw [List.map_map]
      rfl
end
end K1

set_option exponentiation.threshold 400
namespace K1
open PySem PySem.Spec PyProof.Rows L2 Evl LX ZW ZM DM DR
def clD (deg : Int) (ps : List Int) : PyData := .tuple [.int deg, .tuple (ps.map PyData.int)]
theorem dp_class {K : PySem.W.Frag} {H : Hp} {v : V} {deg : Int} {ps : List Int} (h : ClassAt H v deg ps) : Dp K H v (clD deg ps) := by
  obtain ⟨t, a, rfl, h1, h2⟩ := h
  exact .tup (SqT.of h1) (.cons (.int deg) (.cons (.tup (SqT.of h2) (dp_intsC ps)) .nil))
theorem can_intsC : ∀ l : List Int, PyData.canLayAll0 (l.map PyData.int) = true
  | [] => rfl
  | b :: r => by simp [PyData.canLayAll0, PyData.canLay0, can_intsC r]
theorem depth_intsC : ∀ l : List Int, PyData.depthAll (l.map PyData.int) ≤ 60
  | [] => by decide
  | b :: r => by
    have := depth_intsC r
    simp only [List.map_cons, PyData.depthAll, PyData.depth]
    omega
theorem can_class (deg : Int) (ps : List Int) : (clD deg ps).canLay0 = true := by simp [clD, PyData.canLay0, PyData.canLayAll0, can_intsC ps]
theorem shaped_class (deg : Int) (ps : List Int) : SeqAt.shaped (clD deg ps) = true := by
  unfold SeqAt.shaped
  have h2 : (clD deg ps).depth ≤ 64 := by
    have := depth_intsC ps
    simp only [clD, PyData.depth, PyData.depthAll]
    omega
  rw [can_class, decide_eq_true h2]
  rfl
theorem eqv_class (deg : Int) (ps : List Int) : PyData.eqv (clD deg ps) (clD deg ps) = true := SeqAt.eqv_refl _ (can_class deg ps)
theorem ne_class {K : PySem.W.Frag} {H : Hp} {v1 v2 : V} {d1 d2 : Int} {ps qs : List Int} {Q : VK} (h1 : ClassAt H v1 d1 ps) (h2 : ClassAt H v2 d2 qs) (hd : d1 = d2) (hp : ps = qs) (q : Q (.bl false) H) : rNeD K v1 v2 H Q := by
  subst hd hp
  refine ⟨_, _, dp_class h1, dp_class h2, shaped_class _ _, shaped_class _ _, ?_⟩
  rw [eqv_class]
  exact q
theorem eq_class {K : PySem.W.Frag} {H : Hp} {v1 v2 : V} {d1 d2 : Int} {ps qs : List Int} {Q : VK} (h1 : ClassAt H v1 d1 ps) (h2 : ClassAt H v2 d2 qs) (hd : d1 = d2) (hp : ps = qs) (q : Q (.bl true) H) : rEqD K v1 v2 H Q := by
  subst hd hp
  refine ⟨_, _, dp_class h1, dp_class h2, shaped_class _ _, shaped_class _ _, ?_⟩
  rw [eqv_class]
  exact q
theorem ClassAt.updL {H : Hp} {v : V} {deg : Int} {ps : List Int} {D : Addr} {ys zs : List V} (hD : H D = some (.lst ys)) (h : ClassAt H v deg ps) : ClassAt (upd H D (.lst zs)) v deg ps := by
  obtain ⟨t, a, rfl, h1, h2⟩ := h
  exact ⟨t, a, rfl, by rw [upd_ne (ne_of h1 hD (by intro z; cases z))]; exact h1, by show upd H D _ a = _; rw [upd_ne (ne_of h2 hD (by intro z; cases z))]; exact h2⟩
theorem nl_one (rs : List (Int × Int)) : Nl rs one := fun _ _ => rfl
theorem nl_tau (rs : List (Int × Int)) (i : Nat) : Nl rs (tau rs i) := fun _ hp => tau_wname hp i
section
variable {P : Program} {w : World} {K : PySem.W.Frag} {mg : Str → Option Value} {base : Heap}
def spSumsRight : Sp := fun vs H Q _ => ∃ c a b l xs rs ds es fs B, vs = [.ref c, .ref a, .ref b, .ref l] ∧ H c = some (.tup xs) ∧ RingsAt H 60 xs rs ∧ (1 ≤ xs.length ∧ xs.length ≤ 12) ∧ DealAt H a ds ∧ DealAt H b es ∧ DealAt H l fs ∧ DOk rs ds B ∧ DOk rs es B ∧ DOk rs fs B ∧ B ≤ 10 ^ 45 ∧ ds.length ≤ 36 ∧ es.length ≤ 36 ∧ ∀ H', Ex H H' → Q (.bl true) H'
theorem ok_sums_right (T : Txt K mg) {f : Addr} {fd : FuncData} (D : DefAt K mg "_law_sums_right" sLSumsRight ["_law_chain_here", "_law_one", "_law_other", "_law_last"] f fd) : FnOk P w K mg base CX0 8 f fd ["_law_chain_here", "_law_one", "_law_other", "_law_last"] spSumsRight := by
  refine D.F.ok scLSumsRight (fun vs H Q E h => ?_) (fun cdv A outer s₀ H vs Q E hr h => ?_)
  · obtain ⟨c, a, b, l, xs, rs, ds, es, fs, B, rfl, _⟩ := h
    rfl
  · obtain ⟨c, a, b, l, xs, rs, ds, es, fs, B, rfl, hc, hR, hl, ha, hb, hL, da, db, dl, hB, la, lb, k⟩ := h
    obtain ⟨f1, fd1, D1⟩ := T.d_class_of
    obtain ⟨f2, fd2, D2⟩ := T.d_class_sum
    obtain ⟨f3, fd3, D3⟩ := T.d_class_less
    obtain ⟨f4, fd4, D4⟩ := T.d_added
    obtain ⟨f5, fd5, D5⟩ := T.d_less
    obtain ⟨f6, fd6, D6⟩ := T.d_l_joined_class
    have hr1 : Room 1 _ := hr.mono (by decide)
    have hr6 : Room 6 _ := hr.mono (by decide)
    refine ⟨_, pss_cons (ps_asg (pe_lc (own := [("_law_deal_here", 10)]) (g := gName 10) (tt := tYes) rfl scLSumsRight.nd (pi_tup (pe_tup (pa_cons (pv 1) (pa_cons (pv 2) (pa_cons (pv 3) pa_nil))))) (blkOk_by (N := nLSumsRight) (sc := defScope sLSumsRight) (by decide +kernel)) (fun _ _ _ _ _ => pg_name (i := 10) scLSumsRight.nd rfl (Or.inl rfl)) (fun _ _ _ _ _ => pts_nil)
          (fun _ _ _ _ _ => pe_call (ok_class_of T D1) hr6 (by rfl) D1.g D1.F.kp D1.b .nil pass0 (pa_cons (pv 0) (pa_cons (pv 10) pa_nil))))
        (pg_lst (by rfl) (pgs_cons (pg_name (i := 4) scLSumsRight.nd rfl (.inl rfl)) (pgs_cons (pg_name (i := 5) scLSumsRight.nd rfl (.inl rfl)) (pgs_cons (pg_name (i := 6) scLSumsRight.nd rfl (.inl rfl)) pgs_nil)))))
      (pss_cons (ps_par (i := 7) (j := 8) (by rfl) scLSumsRight.nd rfl rfl (by decide) rfl rfl (pa_cons (pe_call (ok_class_sum T D2) hr (by rfl) D2.g D2.F.kp D2.b .nil pass0 (pa_cons (pv 0) (pa_cons (pv 4) (pa_cons (pv 5) pa_nil)))) (pa_cons (pe_call (ok_class_less T D3) hr (by rfl) D3.g D3.F.kp D3.b .nil pass0 (pa_cons (pv 0) (pa_cons (pv 4) (pa_cons (pv 5) pa_nil)))) pa_nil)) (by rfl))
      (pss_cons (ps_if (PW.pt (pw_or (pt_cmpR (op_neD hr.units) (pe_call (ok_class_of T D1) hr6 (by rfl) D1.g D1.F.kp D1.b .nil pass0 (pa_cons (pv 0) (pa_cons (pe_call (ok_added T D4) hr (by rfl) D4.g D4.F.kp D4.b .nil pass0 (pa_cons (pv 0) (pa_cons (pv 1) (pa_cons (pv 2) pa_nil)))) pa_nil))) (pv 7) (nomark _))
          (pw_or1 (pt_cmpR (op_neD hr.units) (pe_call (ok_class_of T D1) hr6 (by rfl) D1.g D1.F.kp D1.b .nil pass0 (pa_cons (pv 0) (pa_cons (pe_call (ok_less T D5) hr (by rfl) D5.g D5.F.kp D5.b .nil pass0 (pa_cons (pv 0) (pa_cons (pv 1) (pa_cons (pv 2) pa_nil)))) pa_nil))) (pv 8) (nomark _))))) (pss_one (ps_ret pe_bl)) pss_nil)
      (pss_cons (ps_if (PW.pt (pw_or (pt_cmpR (op_neD hr.units) (pv 7) (pe_call (ok_joined T D6) hr1 (by rfl) D6.g D6.F.kp D6.b .nil pass0 (pa_cons (pv 0) (pa_cons (pv 4) (pa_cons (pv 5) (pa_cons pe_int pa_nil))))) (nomark _))
          (pw_or1 (pt_cmpR (op_neD hr.units) (pv 8) (pe_call (ok_joined T D6) hr1 (by rfl) D6.g D6.F.kp D6.b .nil pass0 (pa_cons (pv 0) (pa_cons (pv 4) (pa_cons (pv 5) (pa_cons (pe_un un_neg pe_int) pa_nil))))) (nomark _))))) (pss_one (ps_ret pe_bl)) pss_nil)
      (pss_cons (ps_if (PW.pt (pw_or (pt_cmpR (op_neD hr.units) (pe_call (ok_class_sum T D2) hr (by rfl) D2.g D2.F.kp D2.b .nil pass0 (pa_cons (pv 0) (pa_cons (pv 8) (pa_cons (pv 5) pa_nil)))) (pv 4) (nomark _))
          (pw_or (pt_cmpR (op_neD hr.units) (pe_call (ok_class_less T D3) hr (by rfl) D3.g D3.F.kp D3.b .nil pass0 (pa_cons (pv 0) (pa_cons (pv 7) (pa_cons (pv 4) pa_nil)))) (pv 5) (nomark _))
          (pw_or1 (pt_cmpR (op_neD hr.units) (pe_call (ok_class_sum T D2) hr (by rfl) D2.g D2.F.kp D2.b .nil pass0 (pa_cons (pv 0) (pa_cons (pv 5) (pa_cons (pv 4) pa_nil)))) (pv 7) (nomark _)))))) (pss_one (ps_ret pe_bl)) pss_nil)
      (pss_cons (ps_if (pt_cmpR (op_neD hr.units) (pe_call (ok_class_sum T D2) hr (by rfl) D2.g D2.F.kp D2.b .nil pass0 (pa_cons (pv 0) (pa_cons (pv 7) (pa_cons (pv 6) pa_nil)))) (pe_call (ok_class_sum T D2) hr (by rfl) D2.g D2.F.kp D2.b .nil pass0 (pa_cons (pv 0) (pa_cons (pv 4) (pa_cons (pe_call (ok_class_sum T D2) hr (by rfl) D2.g D2.F.kp D2.b .nil pass0 (pa_cons (pv 0) (pa_cons (pv 5) (pa_cons (pv 6) pa_nil)))) pa_nil)))) (nomark _)) (pss_one (ps_ret pe_bl)) pss_nil)
      (pss_cons (ps_set (i := 9) scLSumsRight.nd rfl (.inl rfl) (pe_call (ok_class_of T D1) hr6 (by rfl) D1.g D1.F.kp D1.b .nil pass0 (pa_cons (pv 0) (pa_cons pe_dnewT pa_nil))))
      (pss_one (ps_ret (pe_and (pe_cmpR (op_eqD hr.units) (pe_call (ok_class_sum T D2) hr (by rfl) D2.g D2.F.kp D2.b .nil pass0 (pa_cons (pv 0) (pa_cons (pv 4) (pa_cons (pv 9) pa_nil)))) (pv 4) (nomark _))
        (pe_one (pe_cmpR (op_eqD hr.units) (pe_call (ok_class_less T D3) hr (by rfl) D3.g D3.F.kp D3.b .nil pass0 (pa_cons (pv 0) (pa_cons (pv 4) (pa_cons (pv 4) pa_nil)))) (pv 9) (nomark _)))))))))))), ?_⟩
    refine ⟨_, rfl, _, rfl, _, rfl, by show 3 ≤ sizeLine; decide, fun tp htp => ⟨tp, rfl, ⟨_, SqT.of upd_same⟩, fun Dl hD => ?_⟩⟩
    have e1 := Ex.new (o := .tup [.ref a, .ref b, .ref l]) htp
    have gtp : (upd H tp (.tup [.ref a, .ref b, .ref l])) tp = some (.tup [.ref a, .ref b, .ref l]) := upd_same
    generalize upd H tp (.tup [.ref a, .ref b, .ref l]) = H1 at e1 gtp hD ⊢
    have hds : Paired (fun v (d : DM.Dl) => ∃ p, v = .ref p ∧ DealAt H p d ∧ DOk rs d B) [V.ref a, V.ref b, V.ref l] [ds, es, fs] := .cons ⟨a, rfl, ha, da⟩ (.cons ⟨b, rfl, hb, db⟩ (.cons ⟨l, rfl, hL, dl⟩ .nil))
    refine lc_tup (K := K) (a := tp) (xs := [V.ref a, V.ref b, V.ref l]) (fun i H' => ∃ acc, H' Dl = some (.lst acc) ∧ Paired (fun v d => CL H' v rs (Sf one d) (fun i => Sf (tau rs i) d)) acc ([ds, es, fs].take i) ∧ Ex H1 H') ⟨[], upd_same, .nil, Ex.new hD⟩ (fun i H' _ hp => SqT.of (hp.choose_spec.2.2 _ _ gtp)) (fun i x H' hx hp => ?_) (fun H2 hp => ?_)
    · obtain ⟨acc, w1, w2, w3⟩ := hp
      obtain ⟨d, hdi, p, rfl, hp1, hp2⟩ := paired_get hds hx
      have e3 := e1.trans w3
      refine ⟨rfl, ?_⟩
      dsimp only [tYes]
      rw [if_pos rfl]
      refine ⟨_, rfl, _, rfl, c, p, xs, rs, d, B, rfl, e3 _ _ hc, rings_ex4 e3 hR, hl, e3 _ _ hp1, hp2, by (try dsimp only); omega, fun r H3 e4 hr3 => ?_⟩
      refine ⟨acc, e4 _ _ w1, ?_, acc ++ [.ref r], upd_same, ?_, Ex.mut (w3.trans e4) hD⟩
      · have h1 := paired_len w2
        rw [List.length_take] at h1
        exact small1000 (by have : ([ds, es, fs] : List DM.Dl).length = 3 := rfl; (try dsimp only); omega)
      · rw [take_snoc hdi]
        exact paired_snoc (R := fun v d => CL (upd H3 Dl (.lst (acc ++ [.ref r]))) v rs (Sf one d) (fun i => Sf (tau rs i) d)) (ClassAt.updL (e4 _ _ w1) hr3) (paired_imp (fun v d z => ClassAt.updL (e4 _ _ w1) (ClassAt.ex e4 z)) w2)
    obtain ⟨acc, w1, w2, w3⟩ := hp
    replace w2 : Paired (fun v d => CL H2 v rs (Sf one d) (fun i => Sf (tau rs i) d)) acc [ds, es, fs] := w2
    cases w2 with
    | @cons v1 _ _ _ c1 t2 => cases t2 with
    | @cons v2 _ _ _ c2 t3 => cases t3 with
    | @cons v3 _ _ _ c3 t4 => cases t4 with
    | nil =>
    have e2 := e1.trans w3
    have sa := sf_one_le da
    have sb := sf_one_le db
    have sl := sf_one_le dl
    refine ⟨Dl, _, rfl, SqL.of w1, rfl, v1, _, rfl, v2, _, rfl, v3, _, rfl, rfl, ?_⟩
    refine ⟨_, rfl, _, rfl, _, rfl, c, v1, v2, xs, rs, _, _, _, _, rfl, e2 _ _ hc, rings_ex4 e2 hR, hl, c1, c2, by (try dsimp only); omega, by (try dsimp only); omega, fun r4 H4 e4 q4 => ?_⟩
    have e24 := e2.trans e4
    refine ⟨_, rfl, _, rfl, _, rfl, c, v1, v2, xs, rs, _, _, _, _, rfl, e24 _ _ hc, rings_ex4 e24 hR, hl, c1.ex e4, c2.ex e4, by (try dsimp only); omega, by (try dsimp only); omega, fun r5 H5 e5 q5 => ⟨_, _, rfl, ?_⟩⟩
    have e25 := e24.trans e5
    replace c1 := c1.ex (e4.trans e5)
    replace c2 := c2.ex (e4.trans e5)
    replace c3 := c3.ex (e4.trans e5)
    replace q4 := q4.ex e5
    dsimp only at q4 q5
    refine ⟨_, rfl, _, rfl, _, rfl, _, rfl, c, a, b, xs, rs, ds, es, B, rfl, e25 _ _ hc, rings_ex4 e25 hR, hl, e25 _ _ ha, e25 _ _ hb, da, db, by (try dsimp only); omega, by (try dsimp only); omega, fun r6 H6 res e6 hr6 hd6 hl6 hf6 => ?_⟩
    have e26 := e25.trans e6
    refine ⟨c, r6, xs, rs, res, 2 * B, rfl, e26 _ _ hc, rings_ex4 e26 hR, hl, hr6, hd6, by (try dsimp only); omega, fun r7 H7 e7 q7 => ⟨_, rfl, ?_⟩⟩
    have e27 := e26.trans e7
    have e57 := e6.trans e7
    refine ne_class q7 (q4.ex e57) (by rw [hf6 _ (nl_one rs)]; (try dsimp only); omega) (cx_congr fun i _ => by rw [hf6 _ (nl_tau rs i)]; (try dsimp only); omega) ⟨_, rfl, iteF ?_⟩
    refine ⟨_, rfl, _, rfl, _, rfl, _, rfl, c, a, b, xs, rs, ds, es, B, rfl, e27 _ _ hc, rings_ex4 e27 hR, hl, e27 _ _ ha, e27 _ _ hb, da, db, by (try dsimp only); omega, by (try dsimp only); omega, fun r8 H8 res8 e8 hr8 hd8 hl8 hf8 => ?_⟩
    have e28 := e27.trans e8
    refine ⟨c, r8, xs, rs, res8, 2 * B, rfl, e28 _ _ hc, rings_ex4 e28 hR, hl, hr8, hd8, by (try dsimp only); omega, fun r9 H9 e9 q9 => ⟨_, rfl, ?_⟩⟩
    have e29 := e28.trans e9
    have e59 := (e57.trans e8).trans e9
    refine ne_class q9 (q5.ex e59) (by rw [hf8 _ (nl_one rs)]; (try dsimp only); omega) (cx_congr fun i _ => by rw [hf8 _ (nl_tau rs i)]; (try dsimp only); omega) ⟨_, rfl, iteF ?_⟩
    replace c1 := c1.ex e59
    replace c2 := c2.ex e59
    replace c3 := c3.ex e59
    replace q4 := q4.ex e59
    replace q5 := q5.ex e59
    clear hf6 hf8 hd6 hd8 hr6 hr8 q7 q9 w1 w3
    refine ⟨_, rfl, _, rfl, _, rfl, _, rfl, c, v1, v2, xs, rs, _, _, _, _, 1, rfl, .inl rfl, e29 _ _ hc, rings_ex4 e29 hR, hl.2, c1, c2, fun r10 H10 e10 q10 => ?_⟩
    refine ne_class (q4.ex e10) q10 (by (try dsimp only); omega) (cx_congr fun i _ => by (try dsimp only); omega) ⟨_, rfl, iteF ?_⟩
    have e210 := e29.trans e10
    refine ⟨_, rfl, _, rfl, _, rfl, _, rfl, 1, rfl, c, v1, v2, xs, rs, _, _, _, _, -1, rfl, .inr rfl, e210 _ _ hc, rings_ex4 e210 hR, hl.2, c1.ex e10, c2.ex e10, fun r11 H11 e11 q11 => ?_⟩
    have e911 := e10.trans e11
    refine ne_class (q5.ex e911) q11 (by (try dsimp only); omega) (cx_congr fun i _ => by (try dsimp only); omega) ⟨_, rfl, iteF ?_⟩
    have e211 := e210.trans e11
    replace c1 := c1.ex e911
    replace c2 := c2.ex e911
    replace c3 := c3.ex e911
    replace q4 := q4.ex e911
    replace q5 := q5.ex e911
    clear q10 q11
    refine ⟨_, rfl, _, rfl, _, rfl, c, .ref r5, v2, xs, rs, _, _, _, _, rfl, e211 _ _ hc, rings_ex4 e211 hR, hl, q5, c2, by (try dsimp only); omega, by (try dsimp only); omega, fun r12 H12 e12 q12 => ⟨_, rfl, ?_⟩⟩
    refine ne_class q12 (c1.ex e12) (by (try dsimp only); omega) (cx_congr fun i _ => by (try dsimp only); omega) ⟨_, rfl, iteF ?_⟩
    have e212 := e211.trans e12
    refine ⟨_, rfl, _, rfl, _, rfl, c, .ref r4, v1, xs, rs, _, _, _, _, rfl, e212 _ _ hc, rings_ex4 e212 hR, hl, q4.ex e12, c1.ex e12, by (try dsimp only); omega, by (try dsimp only); omega, fun r13 H13 e13 q13 => ⟨_, rfl, ?_⟩⟩
    have e1113 := e12.trans e13
    refine ne_class q13 (c2.ex e1113) (by (try dsimp only); omega) (cx_congr fun i _ => by (try dsimp only); omega) ⟨_, rfl, iteF ?_⟩
    have e213 := e212.trans e13
    refine ⟨_, rfl, _, rfl, _, rfl, c, v2, v1, xs, rs, _, _, _, _, rfl, e213 _ _ hc, rings_ex4 e213 hR, hl, c2.ex e1113, c1.ex e1113, by (try dsimp only); omega, by (try dsimp only); omega, fun r14 H14 e14 q14 => ⟨_, rfl, ?_⟩⟩
    have e1114 := e1113.trans e14
    refine ne_class q14 (q4.ex e1114) (by (try dsimp only); omega) (cx_congr fun i _ => by (try dsimp only); omega) ⟨_, rfl, iteF ?_⟩
    have e214 := e213.trans e14
    replace c1 := c1.ex e1114
    replace c2 := c2.ex e1114
    replace c3 := c3.ex e1114
    replace q4 := q4.ex e1114
    clear q5 q12 q13 q14
    refine ⟨_, rfl, _, rfl, _, rfl, c, .ref r4, v3, xs, rs, _, _, _, _, rfl, e214 _ _ hc, rings_ex4 e214 hR, hl, q4, c3, by (try dsimp only); omega, by (try dsimp only); omega, fun r15 H15 e15 q15 => ?_⟩
    have e215 := e214.trans e15
    refine ⟨_, rfl, _, rfl, _, rfl, _, rfl, _, rfl, c, v2, v3, xs, rs, _, _, _, _, rfl, e215 _ _ hc, rings_ex4 e215 hR, hl, c2.ex e15, c3.ex e15, by (try dsimp only); omega, by (try dsimp only); omega, fun r16 H16 e16 q16 => ?_⟩
    have e216 := e215.trans e16
    have e1416 := e15.trans e16
    refine ⟨c, v1, .ref r16, xs, rs, _, _, _, _, rfl, e216 _ _ hc, rings_ex4 e216 hR, hl, c1.ex e1416, q16, by (try dsimp only); omega, by (try dsimp only); omega, fun r17 H17 e17 q17 => ?_⟩
    refine ne_class (q15.ex (e16.trans e17)) q17 (by (try dsimp only); omega) (cx_congr fun i _ => by (try dsimp only); omega) ⟨_, rfl, iteF ?_⟩
    have e217 := e216.trans e17
    replace c1 := c1.ex (e1416.trans e17)
    clear q15 q16 q17 c2 c3 q4
    refine ⟨_, rfl, fun dn hdn => ?_⟩
    have en := Ex.new (o := .dT []) hdn
    have gn : DealAt (upd H17 dn (.dT [])) dn [] := upd_same
    replace c1 := c1.ex en
    replace e217 := e217.trans en
    generalize upd H17 dn (.dT []) = H18 at gn c1 e217 ⊢
    refine ⟨c, dn, xs, rs, [], 0, rfl, e217 _ _ hc, rings_ex4 e217 hR, hl, gn, ⟨List.nodup_nil, fun e he => absurd he (by simp), Int.le_refl 0, Nat.zero_le _⟩, by decide, fun r19 H19 e19 q19 => ?_⟩
    have e219 := e217.trans e19
    replace c1 := c1.ex e19
    have z1 : Sf one ([] : DM.Dl) = 0 := rfl
    refine ⟨_, rfl, _, rfl, _, rfl, c, v1, .ref r19, xs, rs, _, _, _, _, rfl, e219 _ _ hc, rings_ex4 e219 hR, hl, c1, q19, by (try dsimp only); omega, by (try dsimp only); omega, fun r20 H20 e20 q20 => ⟨_, rfl, ?_⟩⟩
    refine eq_class q20 (c1.ex e20) (by (try dsimp only); omega) (cx_congr fun i _ => by show _ + (0 : Int) = _; (try dsimp only); omega) ⟨true, rfl, iteT ?_⟩
    have e220 := e219.trans e20
    refine ⟨_, rfl, _, rfl, _, rfl, c, v1, v1, xs, rs, _, _, _, _, rfl, e220 _ _ hc, rings_ex4 e220 hR, hl, c1.ex e20, c1.ex e20, by (try dsimp only); omega, by (try dsimp only); omega, fun r21 H21 e21 q21 => ⟨_, rfl, ?_⟩⟩
    refine eq_class q21 (q19.ex (e20.trans e21)) (by (try dsimp only); omega) (cx_congr fun i _ => by show _ = (0 : Int); (try dsimp only); omega) (k _ (e220.trans e21))
end
end K1

set_option exponentiation.threshold 400
namespace K1
open PySem PySem.Spec PyProof.Rows L2 Evl LX ZW ZM DM DR
theorem ClassAt.conv {H : Hp} {v : V} {d d' : Int} {ps ps' : List Int} (h : ClassAt H v d ps) (hd : d = d') (hp : ps = ps') : ClassAt H v d' ps' := hd ▸ hp ▸ h
theorem Keep.deal {d a : Addr} {H H' : Hp} {ds : Dl} (k : Keep d H H') (hd : Dice H d) (h : DealAt H a ds) : DealAt H' a ds := by
  obtain ⟨_, _, _, z⟩ := hd
  exact k _ _ (ne_of h z (by intro y; cases y)) h
theorem Keep.cls {d : Addr} {H H' : Hp} {v : V} {deg : Int} {ps : List Int} (k : Keep d H H') (hd : Dice H d) (h : ClassAt H v deg ps) : ClassAt H' v deg ps := by
  obtain ⟨t, a, rfl, h1, h2⟩ := h
  exact ⟨t, a, rfl, k.tup hd h1, k.tup hd h2⟩
theorem tau_left {rs : List (Int × Int)} (i : Nat) : tau rs i (0, K1N.sAt rs 0) = K1N.sAt rs i := by
  unfold tau
  by_cases z : (0 : Int) = (i : Int)
  · rw [if_pos z, show i = 0 by omega]
  · rw [if_neg z, if_pos (show (0 : Int) < (i : Int) by omega)]
theorem tau_right {rs : List (Int × Int)} {i : Nat} {n : Nat} (hn : n = rs.length) (h : i < rs.length) : tau rs i ((n : Int) - 1, 0) = 0 := by
  unfold tau
  by_cases z : (n : Int) - 1 = (i : Int)
  · rw [if_pos z]
  · rw [if_neg z, if_neg (show ¬ (n : Int) - 1 < (i : Int) by omega)]
section
variable {P : Program} {w : World} {K : PySem.W.Frag} {mg : Str → Option Value} {base : Heap}
def spEndsRight : Sp := fun vs H Q _ => ∃ d c a xs rs ds B, vs = [.ref d, .ref c, .ref a] ∧ Dice H d ∧ H c = some (.tup xs) ∧ RingsAt H 60 xs rs ∧ (1 ≤ xs.length ∧ xs.length ≤ 12) ∧ DealAt H a ds ∧ DOk rs ds B ∧ B ≤ 10 ^ 45 ∧ ds.length ≤ 36 ∧ ∀ H', Dice H' d → Keep d H H' → Q (.bl true) H'
theorem ok_ends_right (T : Txt K mg) {f : Addr} {fd : FuncData} (D : DefAt K mg "_law_ends_right" sLEndsRight ["_law_dice_here", "_law_chain_here", "_law_deal_here"] f fd) : FnOk P w K mg base CX0 8 f fd ["_law_dice_here", "_law_chain_here", "_law_deal_here"] spEndsRight := by
  refine D.F.ok scLEndsRight (fun vs H Q E h => ?_) (fun cdv A outer s₀ H vs Q E hr h => ?_)
  · obtain ⟨d, c, a, xs, rs, ds, B, rfl, _⟩ := h
    rfl
  · obtain ⟨d, c, a, xs, rs, ds, B, rfl, hd, hc, hR, hl, ha, da, hB, la, k⟩ := h
    obtain ⟨f1, fd1, D1⟩ := T.d_class_of
    obtain ⟨f2, fd2, D2⟩ := T.d_class_sum
    obtain ⟨f3, fd3, D3⟩ := T.d_class_with_ends
    obtain ⟨f4, fd4, D4⟩ := T.d_added
    obtain ⟨f5, fd5, D5⟩ := T.d_at_ends
    obtain ⟨f6, fd6, D6⟩ := T.d_multiplied
    obtain ⟨f7, fd7, D7⟩ := T.d_l_roll
    obtain ⟨f8, fd8, D8⟩ := T.d_l_one_of
    have hr1 : Room 1 _ := hr.mono (by decide)
    have hr2 : Room 2 _ := hr.mono (by decide)
    have hr6 : Room 6 _ := hr.mono (by decide)
    have hlen : xs.length = rs.length := paired_len hR
    have B0 : 0 ≤ B := Int.le_trans (Ab_nonneg ds) da.abs
    refine ⟨_, pss_cons (ps_set (i := 3) scLEndsRight.nd rfl (.inl rfl) (pe_call (ok_one_of T D8) hr2 (by rfl) D8.g D8.F.kp D8.b .nil pass0 (pa_cons (pv 0) (pa_cons (pe_lst (pa_cons pe_int (pa_cons (pe_op op_powW pe_int pe_int) pa_nil))) pa_nil))))
      (pss_cons (ps_asg (pe_tup (pa_cons (pe_op op_sub (pe_call (ok_roll T D7) hr1 (by rfl) D7.g D7.F.kp D7.b .nil pass0 (pa_cons (pv 0) (pa_cons (pe_op op_mul pe_int (pv 3)) pa_nil))) (pv 3)) (pa_cons (pe_op op_sub (pe_call (ok_roll T D7) hr1 (by rfl) D7.g D7.F.kp D7.b .nil pass0 (pa_cons (pv 0) (pa_cons (pe_op op_mul pe_int (pv 3)) pa_nil))) (pv 3)) pa_nil)))
        (pg_tup (by rfl) (pgs_cons (pg_name (i := 4) scLEndsRight.nd rfl (.inr rfl)) (pgs_cons (pg_name (i := 5) scLEndsRight.nd rfl (.inl rfl)) pgs_nil))))
      (pss_cons (ps_set (i := 6) scLEndsRight.nd rfl (.inl rfl) (pe_call (ok_class_of T D1) hr6 (by rfl) D1.g D1.F.kp D1.b .nil pass0 (pa_cons (pv 1) (pa_cons (pv 2) pa_nil))))
      (pss_cons (ps_set (i := 7) scLEndsRight.nd rfl (.inl rfl) (pe_call (ok_class_with_ends T D3) hr6 (by rfl) D3.g D3.F.kp D3.b .nil pass0 (pa_cons (pv 1) (pa_cons (pv 6) (pa_cons (pv 4) (pa_cons (pv 5) pa_nil))))))
      (pss_cons (ps_set (i := 8) scLEndsRight.nd rfl (.inl rfl) (pe_callTy call_tuple_of (by rfl) T.z_tuple (by decide +kernel) (pa_cons (pe_lc (own := [("_law_p", 11), ("_law_n", 12), ("_law_s", 13)]) (g := gTup K 2 (gCons (gName 11) (gCons (gTup K 2 (gCons (gName 12) (gCons (gName 13) gNil))) gNil))) (tt := tYes) rfl scLEndsRight.nd (RZ.pi_zipA (by rfl) T.z_zip (pa_cons (pe_ix ix_tup (pv 6) pe_int (fun _ _ => rfl)) (pa_cons (pv 1) pa_nil)))
        (blkOk_by (N := nLEndsRight) (sc := defScope sLEndsRight) (by decide +kernel)) (fun _ _ _ _ _ => pg_tup (by rfl) (pgs_cons (pg_name (i := 11) scLEndsRight.nd rfl (.inl rfl)) (pgs_cons (pg_tup (by rfl) (pgs_cons (pg_name (i := 12) scLEndsRight.nd rfl (.inl rfl)) (pgs_cons (pg_name (i := 13) scLEndsRight.nd rfl (.inl rfl)) pgs_nil))) pgs_nil))) (fun _ _ _ _ _ => pts_nil)
        (fun _ _ _ _ _ => pe_op op_mod (pe_op op_add (pv 11) (pe_op op_mul (pv 4) (pv 13))) (pv 12))) pa_nil)))
      (pss_cons (ps_if (PW.pt (pw_or (pt_cmpR (op_neD hr.units) (pv 7) (pe_tup (pa_cons (pe_op op_add (pe_op op_add (pe_ix ix_tup (pv 6) pe_int (fun _ _ => rfl)) (pv 4)) (pv 5)) (pa_cons (pv 8) pa_nil))) (nomark _))
          (pw_or1 (pt_cmpR (op_neD hr.units) (pe_call (ok_class_of T D1) hr6 (by rfl) D1.g D1.F.kp D1.b .nil pass0 (pa_cons (pv 1) (pa_cons (pe_call (ok_added T D4) hr (by rfl) D4.g D4.F.kp D4.b .nil pass0 (pa_cons (pv 1) (pa_cons (pv 2) (pa_cons (pe_call (ok_at_ends T D5) hr6 (by rfl) D5.g D5.F.kp D5.b .nil pass0 (pa_cons (pv 1) (pa_cons (pv 4) (pa_cons (pv 5) pa_nil)))) pa_nil)))) pa_nil))) (pv 7) (nomark _))))) (pss_one (ps_ret pe_bl)) pss_nil)
      (pss_cons (ps_if (PW.pt (pw_or (pt_cmpR (op_neD hr.units) (pe_call (ok_class_with_ends T D3) hr6 (by rfl) D3.g D3.F.kp D3.b .nil pass0 (pa_cons (pv 1) (pa_cons (pv 7) (pa_cons (pe_op op_sub pe_int (pv 4)) (pa_cons (pe_op op_sub pe_int (pv 5)) pa_nil))))) (pv 6) (nomark _))
          (pw_or1 (pt_cmpR (op_neD hr.units) (pe_call (ok_class_sum T D2) hr (by rfl) D2.g D2.F.kp D2.b .nil pass0 (pa_cons (pv 1) (pa_cons (pv 6) (pa_cons (pe_call (ok_class_of T D1) hr6 (by rfl) D1.g D1.F.kp D1.b .nil pass0 (pa_cons (pv 1) (pa_cons (pe_call (ok_at_ends T D5) hr6 (by rfl) D5.g D5.F.kp D5.b .nil pass0 (pa_cons (pv 1) (pa_cons (pv 4) (pa_cons (pv 5) pa_nil)))) pa_nil))) pa_nil)))) (pv 7) (nomark _))))) (pss_one (ps_ret pe_bl)) pss_nil)
      (pss_cons (ps_set (i := 9) scLEndsRight.nd rfl (.inl rfl) (pe_call (ok_class_of T D1) hr6 (by rfl) D1.g D1.F.kp D1.b .nil pass0 (pa_cons (pv 1) (pa_cons pe_dnewT pa_nil))))
      (pss_cons (ps_for PassesOwn.never rfl (pi_range1 (by rfl) T.z_range (pa_cons (pe_call (ok_roll T D7) hr1 (by rfl) D7.g D7.F.kp D7.b .nil pass0 (pa_cons (pv 0) (pa_cons pe_int pa_nil))) pa_nil)) (pg_name (i := 10) scLEndsRight.nd rfl (.inl rfl))
        (pss_cons (ps_set (i := 9) scLEndsRight.nd rfl (.inl rfl) (pe_call (ok_class_sum T D2) hr (by rfl) D2.g D2.F.kp D2.b .nil pass0 (pa_cons (pv 1) (pa_cons (pv 9) (pa_cons (pv 6) pa_nil)))))
        (pss_one (ps_if (pt_cmpR (op_neD hr.units) (pe_call (ok_class_of T D1) hr6 (by rfl) D1.g D1.F.kp D1.b .nil pass0 (pa_cons (pv 1) (pa_cons (pe_call (ok_multiplied T D6) hr6 (by rfl) D6.g D6.F.kp D6.b .nil pass0 (pa_cons (pv 1) (pa_cons (pe_op op_add (pv 10) pe_int) (pa_cons (pv 2) pa_nil)))) pa_nil))) (pv 9) (nomark _)) (pss_one (ps_ret pe_bl)) pss_nil))))
      (pss_one (ps_ret pe_bl)))))))))), ?_⟩
    refine ⟨_, rfl, _, _, rfl, rfl, ⟨by decide, by decide⟩, by show 2 ≤ sizeLine; decide, fun l hl0 => ?_⟩
    have ndl : d ≠ l := hd.ne_new hl0
    have e1 := Ex.new (o := .lst [V.int 5, V.int (10 ^ (30 : Int).toNat)]) hl0
    refine ⟨d, l, _, rfl, hd.ex e1, upd_same, ndl.symm, by show 1 ≤ 2; decide, by show 2 ≤ 1000; decide, fun x H1 hx hd1 k1' => ?_⟩
    have k1 : Keep d H H1 := (Keep.ex e1).trans k1'
    have hm : ∃ m : Int, x = .int m ∧ 1 ≤ m ∧ m ≤ 10 ^ 30 := by
      simp only [List.mem_cons, List.not_mem_nil, or_false] at hx
      rcases hx with rfl | rfl
      · exact ⟨5, rfl, by decide, by decide⟩
      · exact ⟨_, rfl, by decide, by decide⟩
    obtain ⟨m, rfl, m1, m2⟩ := hm
    clear hx k1' e1
    refine ⟨_, rfl, _, rfl, _, _, rfl, rfl, .inl (by decide), d, _, rfl, hd1, by omega, by omega, fun r1 H2 r10 r11 hd2 k2 => ⟨_, rfl, _, _, rfl, rfl, ?_⟩⟩
    refine ⟨_, rfl, _, rfl, _, _, rfl, rfl, .inl (by decide), d, _, rfl, hd2, by omega, by omega, fun r2 H3 r20 r21 hd3 k3 => ⟨_, rfl, _, _, rfl, rfl, ?_⟩⟩
    refine ⟨by show 2 ≤ sizeLine; decide, fun t0 ht0 => ⟨t0, _, rfl, SqT.of upd_same, rfl, .int _, [_], rfl, .int _, [], rfl, rfl, ?_⟩⟩
    dsimp only
    generalize hav : r1 - m = av at *
    generalize hbv : r2 - m = bv at *
    have av1 : (av.natAbs : Int) ≤ 10 ^ 30 := by omega
    have bv1 : (bv.natAbs : Int) ≤ 10 ^ 30 := by omega
    have k4 : Keep d H (upd H3 t0 (.tup [.int av, .int bv])) := ((k1.trans k2).trans k3).trans (Keep.new ht0)
    have hd4 : Dice (upd H3 t0 (.tup [.int av, .int bv])) d := hd3.upd (hd3.ne_new ht0)
    generalize upd H3 t0 (.tup [.int av, .int bv]) = H4 at k4 hd4 ⊢
    clear k1 k2 k3 hd1 hd2 hd3 ht0 hl0 ndl hav hbv r10 r11 r20 r21
    have hc4 := k4.tup hd hc
    have hR4 := hR.keep k4 hd
    have ha4 := k4.deal hd ha
    have sa := sf_one_le da
    refine ⟨_, rfl, _, rfl, c, a, xs, rs, ds, B, rfl, hc4, hR4, hl, ha4, da, by omega, fun r5 H5 e5 q5 => ?_⟩
    refine ⟨_, rfl, _, rfl, _, rfl, _, rfl, c, .ref r5, xs, rs, _, _, av, bv, rfl, e5 _ _ hc4, rings_ex4 e5 hR4, hl, q5, by omega, by omega, by omega, fun r6 H6 e6 q6 => ?_⟩
    have e46 := e5.trans e6
    replace q5 := q5.ex e6
    obtain ⟨t5, p5, h5, ht5, hp5⟩ := id q5
    cases h5
    have hc6 := e46 _ _ hc4
    refine ⟨_, rfl, r5, _, 1, .ref p5, rfl, rfl, SqT.of ht5, rfl, _, rfl, p5, c, _, _, rfl, .inr ⟨SqT.of hp5, SqT.of hc6, fun Lq hLq => ?_⟩⟩
    refine lc_zipT (K := K) (a := p5) (b := c) (xs := (cx rs fun i => Sf (tau rs i) ds).map V.int) (ys := xs) (n := xs.length) (by rw [List.length_map, cx_len]; omega) (Nat.le_refl _) (.inr (Nat.le_refl _)) (fun i H' => H' Lq = some (.lst ((List.range i).map fun j => V.int ((Sf (tau rs j) ds + av * K1N.sAt rs j - (j : Int) * K1N.sAt rs j) % (K1N.nAt rs j : Int)))) ∧ Ex H6 H') ⟨upd_same, Ex.new hLq⟩ (fun i H' hp => ⟨SqT.of (hp.2 _ _ hp5), SqT.of (hp.2 _ _ hc6)⟩) (fun i x y Tp H' hi hx hy hp nT => ?_) (fun H7 hp => ?_)
    · obtain ⟨w1, w2⟩ := hp
      obtain rfl := pl_get hx
      rw [cx_get (show i < rs.length by omega)]
      have eT := Ex.new (o := .tup [.int ((Sf (tau rs i) ds - (i : Int) * K1N.sAt rs i) % (K1N.nAt rs i : Int)), y]) nT
      have hy1 := rings_nth4 (rings_ex4 ((e46.trans w2).trans eT) hR4) hy
      obtain ⟨t', rfl, ht', c1, c2, c3, c4⟩ := hy1
      refine ⟨Tp, _, rfl, SqT.of upd_same, rfl, .int _, [_], rfl, .ref t', [], rfl, ⟨t', _, rfl, SqT.of ht', rfl, .int _, [_], rfl, .int _, [], rfl, rfl, rfl, rfl, ?_⟩⟩
      dsimp only [tYes]
      rw [if_pos rfl]
      refine ⟨_, rfl, _, rfl, _, rfl, _, _, rfl, rfl, .inr (by constructor <;> omega), _, _, rfl, rfl, _, rfl, _, _, rfl, rfl, by omega, _, eT _ _ w1, ?_, ?_, Ex.mut (w2.trans eT) hLq⟩
      · rw [List.length_map, List.length_range]
        exact small1000 (by omega)
      · rw [upd_same, List.range_succ, List.map_append]
        dsimp only
        rw [ends_rest]
        rfl
    obtain ⟨w1, w2⟩ := hp
    rw [hlen] at w1
    refine ⟨Lq, _, rfl, .inl ⟨SqL.of w1, fun xa hxa => ?_⟩⟩
    have e7 := w2.trans (Ex.new (o := .tup ((List.range rs.length).map fun j => V.int ((Sf (tau rs j) ds + av * K1N.sAt rs j - (j : Int) * K1N.sAt rs j) % (K1N.nAt rs j : Int)))) hxa)
    have gx : PlacesT (upd H7 xa (.tup ((List.range rs.length).map fun j => V.int ((Sf (tau rs j) ds + av * K1N.sAt rs j - (j : Int) * K1N.sAt rs j) % (K1N.nAt rs j : Int))))) xa (cx rs fun i => Sf (tau rs i) ds + av * K1N.sAt rs i) := by
      show upd H7 xa _ xa = _
      rw [upd_same]
      unfold cx
      rw [List.map_map]
      rfl
    generalize upd H7 xa (.tup ((List.range rs.length).map fun j => V.int ((Sf (tau rs j) ds + av * K1N.sAt rs j - (j : Int) * K1N.sAt rs j) % (K1N.nAt rs j : Int)))) = H8 at e7 gx ⊢
    have e48 := e46.trans e7
    have ht8 := e7 _ _ ht5
    replace q5 := q5.ex e7
    replace q6 := q6.ex e7
    clear w1 w2 hLq hxa hp5 ht5 hc6
    refine ⟨_, rfl, _, rfl, r5, _, 0, _, rfl, rfl, SqT.of ht8, rfl, _, rfl, _, _, rfl, rfl, _, rfl, _, _, rfl, rfl, _, rfl, by show 2 ≤ sizeLine; decide, fun t9 ht9 => ?_⟩
    have e9 := Ex.new (o := .tup [.int (Sf one ds + av + bv), .ref xa]) ht9
    have q9 : ClassAt (upd H8 t9 (.tup [.int (Sf one ds + av + bv), .ref xa])) (.ref t9) (Sf one ds + av + bv) (cx rs fun i => Sf (tau rs i) ds + av * K1N.sAt rs i) := ⟨t9, xa, rfl, upd_same, e9 _ _ gx⟩
    refine ne_class (q6.ex e9) q9 rfl rfl ⟨_, rfl, iteF ?_⟩
    have e49 := e48.trans e9
    replace q5 := q5.ex e9
    replace q6 := q6.ex e9
    dsimp only at e9 e49 q5 q6 ⊢
    generalize upd H8 t9 (.tup [.int (Sf one ds + av + bv), .ref xa]) = H9 at e49 q5 q6 ⊢
    clear q9 e9 ht9 gx e7 ht8 e48
    refine ⟨_, rfl, _, rfl, _, rfl, _, rfl, _, rfl, _, rfl, c, xs, rs, av, bv, rfl, e49 _ _ hc4, rings_ex4 e49 hR4, hl, by omega, by omega, fun r10 H10 resE e10 hE dE lE fE => ?_⟩
    have e410 := e49.trans e10
    have sEo : Sf one resE = av + bv := by
      rw [fE _ (nl_one rs)]
      show av * 1 + bv * 1 = _
      omega
    have sEt : ∀ i, i < rs.length → Sf (tau rs i) resE = av * K1N.sAt rs i := fun i hi => by
      rw [fE _ (nl_tau rs i), tau_left, tau_right hlen hi, Int.mul_zero, Int.add_zero]
    refine ⟨c, a, r10, xs, rs, ds, resE, B + 2 * 10 ^ 40, rfl, e410 _ _ hc4, rings_ex4 e410 hR4, hl, e410 _ _ ha4, hE, da.mono (by omega), dE.mono (by omega), by omega, by omega, fun r11 H11 resA e11 hA dA lA fA => ?_⟩
    have e411 := e410.trans e11
    refine ⟨c, r11, xs, rs, resA, _, rfl, e411 _ _ hc4, rings_ex4 e411 hR4, hl, hA, dA, by omega, fun r12 H12 e12 q12 => ⟨_, rfl, ?_⟩⟩
    have e1012 := (e10.trans e11).trans e12
    refine ne_class q12 (q6.ex e1012) (by rw [fA _ (nl_one rs), sEo]; omega) (cx_congr fun i hi => by rw [fA _ (nl_tau rs i), sEt i hi]; omega) ⟨_, rfl, iteF ?_⟩
    have e412 := e411.trans e12
    replace q5 := q5.ex e1012
    replace q6 := q6.ex e1012
    clear fA dA hA q12 e411 e410 e1012 hE dE fE
    refine ⟨_, rfl, _, rfl, _, rfl, _, _, rfl, rfl, _, rfl, _, _, rfl, rfl, c, .ref r6, xs, rs, _, _, 0 - av, 0 - bv, rfl, e412 _ _ hc4, rings_ex4 e412 hR4, hl, q6, by omega, by omega, by omega, fun r13 H13 e13 q13 => ⟨_, rfl, ?_⟩⟩
    refine ne_class q13 (q5.ex e13) (by omega) (cx_congr fun i hi => by rw [Int.sub_mul, Int.zero_mul]; omega) ⟨_, rfl, iteF ?_⟩
    have e413 := e412.trans e13
    replace q5 := q5.ex e13
    replace q6 := q6.ex e13
    refine ⟨_, rfl, _, rfl, _, rfl, _, rfl, _, rfl, _, rfl, c, xs, rs, av, bv, rfl, e413 _ _ hc4, rings_ex4 e413 hR4, hl, by omega, by omega, fun r14 H14 resF e14 hF dF lF fF => ?_⟩
    have e414 := e413.trans e14
    have sFo : Sf one resF = av + bv := by
      rw [fF _ (nl_one rs)]
      show av * 1 + bv * 1 = _
      omega
    have sFt : ∀ i, i < rs.length → Sf (tau rs i) resF = av * K1N.sAt rs i := fun i hi => by
      rw [fF _ (nl_tau rs i), tau_left, tau_right hlen hi, Int.mul_zero, Int.add_zero]
    refine ⟨c, r14, xs, rs, resF, _, rfl, e414 _ _ hc4, rings_ex4 e414 hR4, hl, hF, dF, by omega, fun r15 H15 e15 q15 => ?_⟩
    have e415 := e414.trans e15
    have e1315 := e14.trans e15
    refine ⟨c, .ref r5, .ref r15, xs, rs, _, _, _, _, rfl, e415 _ _ hc4, rings_ex4 e415 hR4, hl, q5.ex e1315, q15, by omega, by omega, fun r16 H16 e16 q16 => ⟨_, rfl, ?_⟩⟩
    have e1316 := e1315.trans e16
    refine ne_class q16 (q6.ex e1316) (by dsimp only; omega) (cx_congr fun i hi => by dsimp only; rw [sFt i hi]) ⟨_, rfl, iteF ?_⟩
    have e416 := e415.trans e16
    replace q5 := q5.ex e1316
    clear q6 q15 q16 fF dF hF sFo sFt sEo sEt e413 e414 e415 e1315 e1316
    refine ⟨_, rfl, fun dn hdn => ?_⟩
    have en := Ex.new (o := .dT []) hdn
    have gn : DealAt (upd H16 dn (.dT [])) dn [] := upd_same
    replace q5 := q5.ex en
    replace e416 := e416.trans en
    generalize upd H16 dn (.dT []) = H17 at gn q5 e416 ⊢
    refine ⟨c, dn, xs, rs, [], 0, rfl, e416 _ _ hc4, rings_ex4 e416 hR4, hl, gn, ⟨List.nodup_nil, fun e he => absurd he (by simp), Int.le_refl 0, Nat.zero_le _⟩, by decide, fun r18 H18 e18 q18 => ?_⟩
    have e418 := e416.trans e18
    replace q5 := q5.ex e18
    have hd18 := hd4.ex e418
    refine ⟨_, rfl, d, 5, rfl, hd18, by decide, by decide, fun r19 H19 r190 r191 hd19 k19 => ⟨_, rfl, by omega, by omega, ?_⟩⟩
    have k419 := (Keep.ex e418).trans k19
    replace q5 := k19.cls hd18 q5
    replace q18 := k19.cls hd18 q18
    refine for_range (lo := 0) (n := Int.toNat _) (fun i σ' H' => ∃ (y10 : Option V) (wv : Addr), σ' = [some (.ref d), some (.ref c), some (.ref a), some (.int m), some (.int av), some (.int bv), some (.ref r5), some (.ref r6), some (.ref xa), some (.ref wv), y10, none, none, none] ∧ CL H' (.ref wv) rs ((i : Int) * Sf one ds) (fun j => (i : Int) * Sf (tau rs j) ds) ∧ Ex H19 H')
      ⟨none, r18, rfl, q18.conv (by show (0 : Int) = 0 * _; rw [Int.zero_mul]) (cx_congr fun i _ => by show (0 : Int) = 0 * _; rw [Int.zero_mul]), Ex.refl _⟩ (fun i σ' H' hi hW => ?_) (fun σ' H' hW => ?_)
    · obtain ⟨y10, wv, rfl, v1, v2⟩ := hW
      have hi5 : i < 5 := by omega
      have kk := k419.trans (Keep.ex v2)
      have hcw := kk.tup hd4 hc4
      have hRw := hR4.keep kk hd4
      have haw := kk.deal hd4 ha4
      have bnd : (((i : Int) * Sf one ds).natAbs : Int) ≤ 10 ^ 55 := by
        have h1 := abs_mul (i : Int) (Sf one ds)
        have h2 : (((i : Int).natAbs : Nat) : Int) * ((Sf one ds).natAbs : Int) ≤ 5 * 10 ^ 45 := Int.le_trans (Int.mul_le_mul_of_nonneg_right (show (((i : Int).natAbs : Nat) : Int) ≤ 5 by omega) (by omega)) (Int.mul_le_mul_of_nonneg_left (by omega) (by decide))
        omega
      refine ⟨_, rfl, _, rfl, _, rfl, c, .ref wv, .ref r5, xs, rs, _, _, _, _, rfl, hcw, hRw, hl, v1, q5.ex v2, bnd, by omega, fun r20 H20 e20 q20 => ?_⟩
      refine ⟨_, rfl, _, rfl, _, rfl, _, _, rfl, rfl, _, rfl, c, a, xs, rs, ds, B, 0 + (i : Int) + 1, rfl, e20 _ _ hcw, rings_ex4 e20 hRw, hl, e20 _ _ haw, da, by omega, by omega, by omega, fun r21 H21 resM e21 hM dM lM fM => ?_⟩
      have e2021 := e20.trans e21
      refine ⟨c, r21, xs, rs, resM, _, rfl, e2021 _ _ hcw, rings_ex4 e2021 hRw, hl, hM, dM, by omega, fun r22 H22 e22 q22 => ⟨_, rfl, ?_⟩⟩
      have nx : ∀ z : Int, (0 + (i : Int) + 1) * z = (i : Int) * z + z := fun z => by rw [Int.zero_add, Int.add_mul, Int.one_mul]
      have nx2 : ∀ z : Int, ((i + 1 : Nat) : Int) * z = (i : Int) * z + z := fun z => by rw [Int.natCast_add, Int.add_mul]; show _ + 1 * z = _; rw [Int.one_mul]
      refine ne_class q22 (q20.ex (e21.trans e22)) (by dsimp only; rw [fM _ (nl_one rs), nx]) (cx_congr fun j _ => by dsimp only; rw [fM _ (nl_tau rs j), nx]) ⟨_, rfl, iteF ?_⟩
      exact ⟨_, r20, rfl, (q20.ex (e21.trans e22)).conv (nx2 _).symm (cx_congr fun j _ => (nx2 _).symm), (v2.trans e2021).trans e22⟩
    · obtain ⟨y10, wv, rfl, v1, v2⟩ := hW
      exact k _ (hd19.ex v2) (k4.trans (k419.trans (Keep.ex v2)))
end
end K1

set_option exponentiation.threshold 400
namespace K1
open PySem PySem.Spec PyProof.Rows L2 Evl LX ZW ZM DM DR
theorem DealAt.updL {H : Hp} {a : Addr} {ds : Dl} {D : Addr} {ys zs : List V} (hD : H D = some (.lst ys)) (h : DealAt H a ds) : DealAt (upd H D (.lst zs)) a ds := by
  show upd H D _ a = _
  rw [upd_ne (ne_of h hD (by intro z; cases z))]
  exact h
section
variable {P : Program} {w : World} {K : PySem.W.Frag} {mg : Str → Option Value} {base : Heap}
theorem sql_keep {H H1 H2 : Hp} {p a : Addr} {xs : List V} (h0 : H p = none) (e : Ex H H1) (k : Keep p H1 H2) (h : SqL K H a xs) : SqL K H2 a xs := by
  rcases h with (h | ⟨o, h⟩) | h
  · exact .inl (.inl (k _ _ (ne_of_none h h0) (e _ _ h)))
  · exact .inl (.inr ⟨o, k _ _ (ne_of_none h h0) (e _ _ h)⟩)
  · exact .inr h
abbrev B41 : Int := 36 * (10 ^ 40 + 1)
def DealsAt (H : Hp) (rs : List (Int × Int)) (acc : List V) (dsl : List DM.Dl) : Prop := Paired (fun v (ds : DM.Dl) => ∃ p, v = .ref p ∧ DealAt H p ds ∧ DOk rs ds B41 ∧ ds.length ≤ 36) acc dsl
theorem DealsAt.keep {d : Addr} {H H' : Hp} {rs : List (Int × Int)} {acc : List V} {dsl : List DM.Dl} (k : Keep d H H') (hd : Dice H d) (h : DealsAt H rs acc dsl) : DealsAt H' rs acc dsl := paired_imp (fun v ds ⟨p, e, h1, h2⟩ => ⟨p, e, k.deal hd h1, h2⟩) h
theorem DealsAt.updL {H : Hp} {rs : List (Int × Int)} {acc : List V} {dsl : List DM.Dl} {D : Addr} {ys zs : List V} (hD : H D = some (.lst ys)) (h : DealsAt H rs acc dsl) : DealsAt (upd H D (.lst zs)) rs acc dsl := paired_imp (fun v ds ⟨p, e, h1, h2⟩ => ⟨p, e, h1.updL hD, h2⟩) h
def spLaw (K : PySem.W.Frag) : Sp := fun vs H Q _ => ∃ (a : Addr) (ns : List Int), vs = [.ref a] ∧ SqL K H a (ns.map V.int) ∧ ns.length ≤ 63 ∧ ∀ H', Q (.bl true) H'
theorem ok_law (T : Txt K mg) {f : Addr} {fd : FuncData} (F : Fun K "law" "law" sLaw f fd) : FnOk P w K mg base CX0 9 f fd ["_law_script"] (spLaw K) := by
  refine F.ok scLaw (fun vs H Q E h => ?_) (fun cdv A outer s₀ H vs Q E hr h => ?_)
  · obtain ⟨a, ns, rfl, _⟩ := h
    rfl
  · obtain ⟨a, ns, rfl, hS, hlen, q⟩ := h
    obtain ⟨f1, fd1, D1⟩ := T.d_l_sums_right
    obtain ⟨f2, fd2, D2⟩ := T.d_l_dice
    obtain ⟨f3, fd3, D3⟩ := T.d_l_ends_right
    obtain ⟨f4, fd4, D4⟩ := T.d_l_deal
    obtain ⟨f5, fd5, D5⟩ := T.d_l_chain
    obtain ⟨f6, fd6, D6⟩ := T.d_l_one_of
    obtain ⟨f7, fd7, D7⟩ := T.d_l_roll
    have hr1 : Room 1 _ := hr.mono (by decide)
    have hr2 : Room 2 _ := hr.mono (by decide)
    have hr4 : Room 4 _ := hr.mono (by decide)
    refine ⟨_, pss_cons (ps_for PassesOwn.never rfl (pi_range1 (by rfl) T.z_range (pa_cons (pe_callB (call_max2 rfl) (by rfl) T.z_max (by decide +kernel) (pa_cons pe_int (pa_cons
          (pe_callB (call_min2 rfl) (by rfl) T.z_min (by decide +kernel) (pa_cons pe_int (pa_cons (pe_callB call_len_seq (by rfl) T.z_len PySem.boot_len (pa_cons (pv 0) pa_nil)) pa_nil))) pa_nil))) pa_nil)) (pg_name (i := 1) scLaw.nd rfl (.inl rfl))
        (pss_cons (ps_set (i := 2) scLaw.nd rfl (.inr rfl) (pe_call (ok_dice T D2) hr1 (by rfl) D2.g D2.F.kp D2.b .nil pass0 (pa_cons (pv 0) (pa_cons (pv 1) pa_nil))))
        (pss_cons (ps_set (i := 3) scLaw.nd rfl (.inr rfl) (pe_call (ok_chain T D5) hr4 (by rfl) D5.g D5.F.kp D5.b .nil pass0 (pa_cons (pv 2) (pa_cons (pe_op op_add pe_int (pe_call (ok_roll T D7) hr1 (by rfl) D7.g D7.F.kp D7.b .nil pass0 (pa_cons (pv 2) (pa_cons pe_int pa_nil)))) (pa_cons (pe_call (ok_one_of T D6) hr2 (by rfl) D6.g D6.F.kp D6.b .nil pass0 (pa_cons (pv 2) (pa_cons (pe_lst (pa_cons pe_int (pa_cons pe_int (pa_cons pe_int pa_nil)))) pa_nil))) pa_nil)))))
        (pss_cons (ps_setLc (i := 4) (own := [("_law_turn", 5)]) (g := gName 5) (tt := tYes) (by rfl) scLaw.nd rfl rfl (sw_true rfl rfl rfl (by decide +kernel)) (pi_range1 (by rfl) T.z_range (pa_cons pe_int pa_nil))
          (blkOk_by (N := nLaw) (sc := defScope sLaw) (by decide +kernel)) (fun _ _ _ _ _ => pg_name (i := 5) scLaw.nd rfl (Or.inl rfl)) (fun _ _ _ _ _ => pts_nil)
          (fun _ _ _ _ _ => pe_call (ok_deal T D4) hr2 (by rfl) D4.g D4.F.kp D4.b .nil pass0 (pa_cons (pv 2) (pa_cons (pv 3) (pa_cons (pe_call (ok_one_of T D6) hr2 (by rfl) D6.g D6.F.kp D6.b .nil pass0 (pa_cons (pv 2) (pa_cons (pe_lst (pa_cons pe_int (pa_cons pe_int (pa_cons (pe_op op_powW pe_int pe_int) pa_nil)))) pa_nil))) pa_nil)))))
        (pss_one (ps_if (PW.pt (pw_or (pt_not (pt_val (pe_call (ok_sums_right T D1) hr (by rfl) D1.g D1.F.kp D1.b .nil pass0 (pa_cons (pv 3) (pa_cons (pe_ix ix_list (pv 4) pe_int (fun _ _ => rfl)) (pa_cons (pe_ix ix_list (pv 4) pe_int (fun _ _ => rfl)) (pa_cons (pe_ix ix_list (pv 4) pe_int (fun _ _ => rfl)) pa_nil)))))))
          (pw_or1 (pt_not (pt_val (pe_call (ok_ends_right T D3) hr (by rfl) D3.g D3.F.kp D3.b .nil pass0 (pa_cons (pv 2) (pa_cons (pv 3) (pa_cons (pe_ix ix_list (pv 4) pe_int (fun _ _ => rfl)) pa_nil))))))))) (pss_one (ps_ret pe_bl)) pss_nil))))))
      (pss_one (ps_ret pe_bl)), ?_⟩
    refine ⟨.ref a, rfl, a, _, rfl, .inl hS, 4, _, rfl, 1, _, rfl, _, rfl, ?_, ?_, for_range (lo := 0) (n := Int.toNat _) (fun i σ' H' => ∃ y1 y2 y3 y4, σ' = [some (.ref a), y1, y2, y3, y4, none] ∧ SqL K H' a (ns.map V.int)) ⟨none, none, none, none, rfl, hS⟩ (fun i σ' H' _ hp => ?_) (fun σ' H' hp => ?_)⟩
    · split <;> split <;> omega
    · rw [List.length_map]
      split <;> split <;> omega
    · obtain ⟨y1, y2, y3, y4, rfl, hS'⟩ := hp
      refine ⟨.ref a, rfl, .int (0 + (i : Int)), rfl, a, ns, i, ?_, hS', fun p H1 hp0 e1 hd1 => ?_⟩
      · rw [Int.zero_add]
        rfl
      · refine ⟨_, rfl, _, rfl, p, 8, rfl, hd1, by decide, by decide, fun r H2 r0 r1 hd2 k2 => ?_⟩
        refine ⟨1, r, rfl, rfl, _, rfl, by show 3 ≤ sizeLine; decide, fun l3 hl3 => ?_⟩
        have x3 := Ex.new (o := .lst [V.int 4, V.int 9, V.int 60]) hl3
        refine ⟨p, l3, _, rfl, hd2.ex x3, upd_same, (hd2.ne_new hl3).symm, by show 1 ≤ 3; decide, by show 3 ≤ 1000; decide, fun x H3 hx hd3 k3' => ?_⟩
        have k3 := (k2.trans (Keep.ex x3)).trans k3'
        have hm : ∃ m : Int, x = .int m ∧ 2 ≤ m ∧ m ≤ 60 := by
          simp only [List.mem_cons, List.not_mem_nil, or_false] at hx
          rcases hx with rfl | rfl | rfl
          · exact ⟨4, rfl, by decide, by decide⟩
          · exact ⟨9, rfl, by decide, by decide⟩
          · exact ⟨60, rfl, by decide, by decide⟩
        obtain ⟨m, rfl, m1, m2⟩ := hm
        refine ⟨p, 1 + r, m, rfl, hd3, by omega, by omega, m1, m2, fun c xs rs H4 hc4 hR4' hg hd4 k4' => ?_⟩
        have hR4 : RingsAt H4 60 xs rs := paired_imp (fun _ _ z => RingAt.most m2 z) hR4'
        have hl : 1 ≤ xs.length ∧ xs.length ≤ 12 := by omega
        have k4 := k3.trans k4'
        refine ⟨3, rfl, by decide, by decide, fun Lq hLq => ?_⟩
        have nL : p ≠ Lq := hd4.ne_new hLq
        refine lc_range (lo := 0) (n := (3 : Int).toNat) (fun i H' => ∃ acc dsl, H' Lq = some (.lst acc) ∧ DealsAt H' rs acc dsl ∧ acc.length = i ∧ Dice H' p ∧ Keep p H4 H') ⟨[], [], upd_same, .nil, rfl, hd4.upd nL, Keep.new hLq⟩ (fun i H' hi hp => ?_) (fun H5 hp => ?_)
        · obtain ⟨acc, dsl, w1, w2, w3, w4, w5⟩ := hp
          refine ⟨rfl, ?_⟩
          dsimp only [tYes]
          rw [if_pos rfl]
          refine ⟨_, rfl, _, rfl, _, rfl, _, _, rfl, rfl, ⟨by decide, by decide⟩, by show 3 ≤ sizeLine; decide, fun l6 hl6 => ?_⟩
          have x6 := Ex.new (o := .lst [V.int 3, V.int 30, V.int (10 ^ (40 : Int).toNat)]) hl6
          refine ⟨p, l6, _, rfl, w4.ex x6, upd_same, (w4.ne_new hl6).symm, by show 1 ≤ 3; decide, by show 3 ≤ 1000; decide, fun x7 H7 hx7 hd7 k7' => ?_⟩
          have k7 := (Keep.ex x6).trans k7'
          have hm7 : ∃ m : Int, x7 = .int m ∧ 1 ≤ m ∧ m ≤ 10 ^ 40 := by
            simp only [List.mem_cons, List.not_mem_nil, or_false] at hx7
            rcases hx7 with rfl | rfl | rfl
            · exact ⟨3, rfl, by decide, by decide⟩
            · exact ⟨30, rfl, by decide, by decide⟩
            · exact ⟨_, rfl, by decide, by decide⟩
          obtain ⟨m7, rfl, m71, m72⟩ := hm7
          have k47 := w5.trans k7
          refine ⟨p, c, xs, rs, m7, rfl, hd7, k47.tup hd4 hc4, hR4.keep k47 hd4, hl.2, m71, by omega, fun r8 H8 ds8 h8 d8 l8 n8 hd8 k8 => ?_⟩
          have k78 := k7.trans k8
          have g8 : H8 Lq = some (.lst acc) := k78 _ _ nL.symm w1
          refine ⟨acc, g8, small1000 (by have : (3 : Int).toNat = 3 := rfl; omega), acc ++ [.ref r8], dsl ++ [ds8], upd_same, ?_, ?_, hd8.upd nL, (w5.trans k78).mut hLq⟩
          · exact paired_snoc (R := fun (v : V) (ds : DM.Dl) => ∃ p, v = .ref p ∧ DealAt (upd H8 Lq (.lst (acc ++ [V.ref r8]))) p ds ∧ DOk rs ds B41 ∧ ds.length ≤ 36) ⟨r8, rfl, h8.updL g8, d8.mono (by show _ ≤ 36 * (10 ^ 40 + 1); omega), l8⟩ ((w2.keep k78 w4).updL g8)
          · rw [List.length_append, w3]
            rfl
        obtain ⟨acc, dsl, w1, w2, w3, w4, w5⟩ := hp
        unfold DealsAt at w2
        cases w2 with
        | nil => exact absurd (show (0 : Nat) = 3 from w3) (by decide)
        | @cons v1 d1 _ _ c1 t2 => cases t2 with
        | nil => exact absurd (show (1 : Nat) = 3 from w3) (by decide)
        | @cons v2 d2 _ _ c2 t3 => cases t3 with
        | nil => exact absurd (show (2 : Nat) = 3 from w3) (by decide)
        | @cons v3 d3 _ _ c3 t4 => cases t4 with
        | cons _ _ =>
          simp only [List.length_cons] at w3
          have : (3 : Int).toNat = 3 := rfl
          omega
        | nil =>
        obtain ⟨p1, rfl, g1, o1, q1⟩ := c1
        obtain ⟨p2, rfl, g2, o2, q2⟩ := c2
        obtain ⟨p3, rfl, g3, o3, q3⟩ := c3
        have hc5 := w5.tup hd4 hc4
        have hR5 := hR4.keep w5 hd4
        refine ⟨_, rfl, _, rfl, Lq, _, 0, _, rfl, rfl, SqL.of w1, rfl, _, rfl, Lq, _, 1, _, rfl, rfl, SqL.of w1, rfl, _, rfl, Lq, _, 2, _, rfl, rfl, SqL.of w1, rfl, c, p1, p2, p3, xs, rs, d1, d2, d3, B41, rfl, hc5, hR5, hl, g1, g2, g3, o1, o2, o3, by decide, q1, q2, fun H6 e6 => ⟨true, rfl, iteF ?_⟩⟩
        refine ⟨_, rfl, _, rfl, _, rfl, Lq, _, 0, _, rfl, rfl, SqL.of (e6 _ _ w1), rfl, p, c, p1, xs, rs, d1, B41, rfl, w4.ex e6, e6 _ _ hc5, rings_ex4 e6 hR5, hl, e6 _ _ g1, o1, by decide, q1, fun H7 hd7 k7 => ⟨true, rfl, iteF ⟨_, _, _, _, rfl, ?_⟩⟩⟩
        exact sql_keep hp0 e1 (((k4.trans w5).trans (Keep.ex e6)).trans k7) hS'
    · exact q _
end
end K1

namespace K1
open PySem PySem.Spec PyProof.Rows L2
/-- what a def of the text leaves -/
theorem mk_def {K : PySem.W.Frag} {h : Heap} {mg : Str → Option Value} {x : Str} {st : Stmt} {ps : List Str} {f : Addr} {oc : Value} {od an : Option Addr} {osl : Array (Option Value)} {kV doc pm cdv ct : Value} (X : K.In h) (G : h.Ns mainGlobals mg)
    (a : PySem.W.nsIn K mainGlobals x = some (some (.ref f))) (l : K.lookup f = some ⟨oc, od, .func (PySem.W.fnOf x x (defArgs st) (defBody st) (defScope st) .none kV doc pm an cdv ct), osl⟩) (c : PySem.W.codeIn K cdv x = true) (k : PySem.W.keepIn K (.ref f) = true)
    (b : ∀ (kV doc pm : Value) (an : Option Addr) (cdv ct : Value) (us : List Value), us.length = ps.length → bindArgs (PySem.W.fnOf x x (defArgs st) (defBody st) (defScope st) .none kV doc pm an cdv ct) ⟨us, []⟩ = pure (ps.zip us)) :
    ∃ f fd, DefAt K mg x st ps f fd := ⟨f, _, ⟨fun_mk (st := st) l c k, PySem.W.mg_of X G a, (fun_mk (st := st) l c k).binds b⟩⟩
theorem all_mk {P : Program} {w : World} {K : PySem.W.Frag} {h : Heap} {mg : Str → Option Value} {fa : Addr} (X : K.In h) (G : h.Ns mainGlobals mg) (hfa : mg "law" = some (.ref fa)) (vBOUND : ∃ t, mg "BOUND" = some (.int (10 ^ 60) t))
    {tDIGITS tRINGS tPLACES : Tok} (gDIGITS : PySem.W.nsIn K mainGlobals "DIGITS" = some (some (.int 60 tDIGITS))) (gRINGS : PySem.W.nsIn K mainGlobals "MOST_RINGS" = some (some (.int 12 tRINGS))) (gPLACES : PySem.W.nsIn K mainGlobals "MOST_PLACES" = some (some (.int 60 tPLACES)))
    (z_abs : PySem.W.nsIn K mainGlobals "abs" = some none) (z_all : PySem.W.nsIn K mainGlobals "all" = some none) (z_bool : PySem.W.nsIn K mainGlobals "bool" = some none) (z_dict : PySem.W.nsIn K mainGlobals "dict" = some none) (z_enumerate : PySem.W.nsIn K mainGlobals "enumerate" = some none) (z_int : PySem.W.nsIn K mainGlobals "int" = some none) (z_isinstance : PySem.W.nsIn K mainGlobals "isinstance" = some none) (z_len : PySem.W.nsIn K mainGlobals "len" = some none) (z_list : PySem.W.nsIn K mainGlobals "list" = some none) (z_max : PySem.W.nsIn K mainGlobals "max" = some none) (z_min : PySem.W.nsIn K mainGlobals "min" = some none) (z_range : PySem.W.nsIn K mainGlobals "range" = some none) (z_sorted : PySem.W.nsIn K mainGlobals "sorted" = some none) (z_tuple : PySem.W.nsIn K mainGlobals "tuple" = some none) (z_zip : PySem.W.nsIn K mainGlobals "zip" = some none)
    {f0 : Addr} {oc0 : Value} {od0 an0 : Option Addr} {sl0 : Array (Option Value)} {kV0 dc0 pm0 cd0 ct0 : Value}
    (a0 : PySem.W.nsIn K mainGlobals "is_integer" = some (some (.ref f0))) (l0 : K.lookup f0 = some ⟨oc0, od0, .func (PySem.W.fnOf "is_integer" "is_integer" (defArgs sIsInteger) (defBody sIsInteger) (defScope sIsInteger) .none kV0 dc0 pm0 an0 cd0 ct0), sl0⟩) (c0 : PySem.W.codeIn K cd0 "is_integer" = true) (k0 : PySem.W.keepIn K (.ref f0) = true)
    {f1 : Addr} {oc1 : Value} {od1 an1 : Option Addr} {sl1 : Array (Option Value)} {kV1 dc1 pm1 cd1 ct1 : Value}
    (a1 : PySem.W.nsIn K mainGlobals "is_between" = some (some (.ref f1))) (l1 : K.lookup f1 = some ⟨oc1, od1, .func (PySem.W.fnOf "is_between" "is_between" (defArgs sIsBetween) (defBody sIsBetween) (defScope sIsBetween) .none kV1 dc1 pm1 an1 cd1 ct1), sl1⟩) (c1 : PySem.W.codeIn K cd1 "is_between" = true) (k1 : PySem.W.keepIn K (.ref f1) = true)
    {f2 : Addr} {oc2 : Value} {od2 an2 : Option Addr} {sl2 : Array (Option Value)} {kV2 dc2 pm2 cd2 ct2 : Value}
    (a2 : PySem.W.nsIn K mainGlobals "is_pair" = some (some (.ref f2))) (l2 : K.lookup f2 = some ⟨oc2, od2, .func (PySem.W.fnOf "is_pair" "is_pair" (defArgs sIsPair) (defBody sIsPair) (defScope sIsPair) .none kV2 dc2 pm2 an2 cd2 ct2), sl2⟩) (c2 : PySem.W.codeIn K cd2 "is_pair" = true) (k2 : PySem.W.keepIn K (.ref f2) = true)
    {f3 : Addr} {oc3 : Value} {od3 an3 : Option Addr} {sl3 : Array (Option Value)} {kV3 dc3 pm3 cd3 ct3 : Value}
    (a3 : PySem.W.nsIn K mainGlobals "check_integer" = some (some (.ref f3))) (l3 : K.lookup f3 = some ⟨oc3, od3, .func (PySem.W.fnOf "check_integer" "check_integer" (defArgs sCheckInteger) (defBody sCheckInteger) (defScope sCheckInteger) .none kV3 dc3 pm3 an3 cd3 ct3), sl3⟩) (c3 : PySem.W.codeIn K cd3 "check_integer" = true) (k3 : PySem.W.keepIn K (.ref f3) = true)
    {f4 : Addr} {oc4 : Value} {od4 an4 : Option Addr} {sl4 : Array (Option Value)} {kV4 dc4 pm4 cd4 ct4 : Value}
    (a4 : PySem.W.nsIn K mainGlobals "check_digits" = some (some (.ref f4))) (l4 : K.lookup f4 = some ⟨oc4, od4, .func (PySem.W.fnOf "check_digits" "check_digits" (defArgs sCheckDigits) (defBody sCheckDigits) (defScope sCheckDigits) .none kV4 dc4 pm4 an4 cd4 ct4), sl4⟩) (c4 : PySem.W.codeIn K cd4 "check_digits" = true) (k4 : PySem.W.keepIn K (.ref f4) = true)
    {f5 : Addr} {oc5 : Value} {od5 an5 : Option Addr} {sl5 : Array (Option Value)} {kV5 dc5 pm5 cd5 ct5 : Value}
    (a5 : PySem.W.nsIn K mainGlobals "is_ring" = some (some (.ref f5))) (l5 : K.lookup f5 = some ⟨oc5, od5, .func (PySem.W.fnOf "is_ring" "is_ring" (defArgs sIsRing) (defBody sIsRing) (defScope sIsRing) .none kV5 dc5 pm5 an5 cd5 ct5), sl5⟩) (c5 : PySem.W.codeIn K cd5 "is_ring" = true) (k5 : PySem.W.keepIn K (.ref f5) = true)
    {f6 : Addr} {oc6 : Value} {od6 an6 : Option Addr} {sl6 : Array (Option Value)} {kV6 dc6 pm6 cd6 ct6 : Value}
    (a6 : PySem.W.nsIn K mainGlobals "is_chain" = some (some (.ref f6))) (l6 : K.lookup f6 = some ⟨oc6, od6, .func (PySem.W.fnOf "is_chain" "is_chain" (defArgs sIsChain) (defBody sIsChain) (defScope sIsChain) .none kV6 dc6 pm6 an6 cd6 ct6), sl6⟩) (c6 : PySem.W.codeIn K cd6 "is_chain" = true) (k6 : PySem.W.keepIn K (.ref f6) = true)
    {f7 : Addr} {oc7 : Value} {od7 an7 : Option Addr} {sl7 : Array (Option Value)} {kV7 dc7 pm7 cd7 ct7 : Value}
    (a7 : PySem.W.nsIn K mainGlobals "lies_on" = some (some (.ref f7))) (l7 : K.lookup f7 = some ⟨oc7, od7, .func (PySem.W.fnOf "lies_on" "lies_on" (defArgs sLiesOn) (defBody sLiesOn) (defScope sLiesOn) .none kV7 dc7 pm7 an7 cd7 ct7), sl7⟩) (c7 : PySem.W.codeIn K cd7 "lies_on" = true) (k7 : PySem.W.keepIn K (.ref f7) = true)
    {f8 : Addr} {oc8 : Value} {od8 an8 : Option Addr} {sl8 : Array (Option Value)} {kV8 dc8 pm8 cd8 ct8 : Value}
    (a8 : PySem.W.nsIn K mainGlobals "lies_dealt" = some (some (.ref f8))) (l8 : K.lookup f8 = some ⟨oc8, od8, .func (PySem.W.fnOf "lies_dealt" "lies_dealt" (defArgs sLiesDealt) (defBody sLiesDealt) (defScope sLiesDealt) .none kV8 dc8 pm8 an8 cd8 ct8), sl8⟩) (c8 : PySem.W.codeIn K cd8 "lies_dealt" = true) (k8 : PySem.W.keepIn K (.ref f8) = true)
    {f9 : Addr} {oc9 : Value} {od9 an9 : Option Addr} {sl9 : Array (Option Value)} {kV9 dc9 pm9 cd9 ct9 : Value}
    (a9 : PySem.W.nsIn K mainGlobals "check_chain" = some (some (.ref f9))) (l9 : K.lookup f9 = some ⟨oc9, od9, .func (PySem.W.fnOf "check_chain" "check_chain" (defArgs sCheckChain) (defBody sCheckChain) (defScope sCheckChain) .none kV9 dc9 pm9 an9 cd9 ct9), sl9⟩) (c9 : PySem.W.codeIn K cd9 "check_chain" = true) (k9 : PySem.W.keepIn K (.ref f9) = true)
    {f10 : Addr} {oc10 : Value} {od10 an10 : Option Addr} {sl10 : Array (Option Value)} {kV10 dc10 pm10 cd10 ct10 : Value}
    (a10 : PySem.W.nsIn K mainGlobals "check_deal" = some (some (.ref f10))) (l10 : K.lookup f10 = some ⟨oc10, od10, .func (PySem.W.fnOf "check_deal" "check_deal" (defArgs sCheckDeal) (defBody sCheckDeal) (defScope sCheckDeal) .none kV10 dc10 pm10 an10 cd10 ct10), sl10⟩) (c10 : PySem.W.codeIn K cd10 "check_deal" = true) (k10 : PySem.W.keepIn K (.ref f10) = true)
    {f11 : Addr} {oc11 : Value} {od11 an11 : Option Addr} {sl11 : Array (Option Value)} {kV11 dc11 pm11 cd11 ct11 : Value}
    (a11 : PySem.W.nsIn K mainGlobals "left_name" = some (some (.ref f11))) (l11 : K.lookup f11 = some ⟨oc11, od11, .func (PySem.W.fnOf "left_name" "left_name" (defArgs sLeftName) (defBody sLeftName) (defScope sLeftName) .none kV11 dc11 pm11 an11 cd11 ct11), sl11⟩) (c11 : PySem.W.codeIn K cd11 "left_name" = true) (k11 : PySem.W.keepIn K (.ref f11) = true)
    {f12 : Addr} {oc12 : Value} {od12 an12 : Option Addr} {sl12 : Array (Option Value)} {kV12 dc12 pm12 cd12 ct12 : Value}
    (a12 : PySem.W.nsIn K mainGlobals "right_name" = some (some (.ref f12))) (l12 : K.lookup f12 = some ⟨oc12, od12, .func (PySem.W.fnOf "right_name" "right_name" (defArgs sRightName) (defBody sRightName) (defScope sRightName) .none kV12 dc12 pm12 an12 cd12 ct12), sl12⟩) (c12 : PySem.W.codeIn K cd12 "right_name" = true) (k12 : PySem.W.keepIn K (.ref f12) = true)
    {f13 : Addr} {oc13 : Value} {od13 an13 : Option Addr} {sl13 : Array (Option Value)} {kV13 dc13 pm13 cd13 ct13 : Value}
    (a13 : PySem.W.nsIn K mainGlobals "written_name" = some (some (.ref f13))) (l13 : K.lookup f13 = some ⟨oc13, od13, .func (PySem.W.fnOf "written_name" "written_name" (defArgs sWrittenName) (defBody sWrittenName) (defScope sWrittenName) .none kV13 dc13 pm13 an13 cd13 ct13), sl13⟩) (c13 : PySem.W.codeIn K cd13 "written_name" = true) (k13 : PySem.W.keepIn K (.ref f13) = true)
    {f14 : Addr} {oc14 : Value} {od14 an14 : Option Addr} {sl14 : Array (Option Value)} {kV14 dc14 pm14 cd14 ct14 : Value}
    (a14 : PySem.W.nsIn K mainGlobals "combined" = some (some (.ref f14))) (l14 : K.lookup f14 = some ⟨oc14, od14, .func (PySem.W.fnOf "combined" "combined" (defArgs sCombined) (defBody sCombined) (defScope sCombined) .none kV14 dc14 pm14 an14 cd14 ct14), sl14⟩) (c14 : PySem.W.codeIn K cd14 "combined" = true) (k14 : PySem.W.keepIn K (.ref f14) = true)
    {f15 : Addr} {oc15 : Value} {od15 an15 : Option Addr} {sl15 : Array (Option Value)} {kV15 dc15 pm15 cd15 ct15 : Value}
    (a15 : PySem.W.nsIn K mainGlobals "told_sum" = some (some (.ref f15))) (l15 : K.lookup f15 = some ⟨oc15, od15, .func (PySem.W.fnOf "told_sum" "told_sum" (defArgs sToldSum) (defBody sToldSum) (defScope sToldSum) .none kV15 dc15 pm15 an15 cd15 ct15), sl15⟩) (c15 : PySem.W.codeIn K cd15 "told_sum" = true) (k15 : PySem.W.keepIn K (.ref f15) = true)
    {f16 : Addr} {oc16 : Value} {od16 an16 : Option Addr} {sl16 : Array (Option Value)} {kV16 dc16 pm16 cd16 ct16 : Value}
    (a16 : PySem.W.nsIn K mainGlobals "check_deals" = some (some (.ref f16))) (l16 : K.lookup f16 = some ⟨oc16, od16, .func (PySem.W.fnOf "check_deals" "check_deals" (defArgs sCheckDeals) (defBody sCheckDeals) (defScope sCheckDeals) .none kV16 dc16 pm16 an16 cd16 ct16), sl16⟩) (c16 : PySem.W.codeIn K cd16 "check_deals" = true) (k16 : PySem.W.keepIn K (.ref f16) = true)
    {f17 : Addr} {oc17 : Value} {od17 an17 : Option Addr} {sl17 : Array (Option Value)} {kV17 dc17 pm17 cd17 ct17 : Value}
    (a17 : PySem.W.nsIn K mainGlobals "added" = some (some (.ref f17))) (l17 : K.lookup f17 = some ⟨oc17, od17, .func (PySem.W.fnOf "added" "added" (defArgs sAdded) (defBody sAdded) (defScope sAdded) .none kV17 dc17 pm17 an17 cd17 ct17), sl17⟩) (c17 : PySem.W.codeIn K cd17 "added" = true) (k17 : PySem.W.keepIn K (.ref f17) = true)
    {f18 : Addr} {oc18 : Value} {od18 an18 : Option Addr} {sl18 : Array (Option Value)} {kV18 dc18 pm18 cd18 ct18 : Value}
    (a18 : PySem.W.nsIn K mainGlobals "less" = some (some (.ref f18))) (l18 : K.lookup f18 = some ⟨oc18, od18, .func (PySem.W.fnOf "less" "less" (defArgs sLess) (defBody sLess) (defScope sLess) .none kV18 dc18 pm18 an18 cd18 ct18), sl18⟩) (c18 : PySem.W.codeIn K cd18 "less" = true) (k18 : PySem.W.keepIn K (.ref f18) = true)
    {f19 : Addr} {oc19 : Value} {od19 an19 : Option Addr} {sl19 : Array (Option Value)} {kV19 dc19 pm19 cd19 ct19 : Value}
    (a19 : PySem.W.nsIn K mainGlobals "multiplied" = some (some (.ref f19))) (l19 : K.lookup f19 = some ⟨oc19, od19, .func (PySem.W.fnOf "multiplied" "multiplied" (defArgs sMultiplied) (defBody sMultiplied) (defScope sMultiplied) .none kV19 dc19 pm19 an19 cd19 ct19), sl19⟩) (c19 : PySem.W.codeIn K cd19 "multiplied" = true) (k19 : PySem.W.keepIn K (.ref f19) = true)
    {f20 : Addr} {oc20 : Value} {od20 an20 : Option Addr} {sl20 : Array (Option Value)} {kV20 dc20 pm20 cd20 ct20 : Value}
    (a20 : PySem.W.nsIn K mainGlobals "at_ends" = some (some (.ref f20))) (l20 : K.lookup f20 = some ⟨oc20, od20, .func (PySem.W.fnOf "at_ends" "at_ends" (defArgs sAtEnds) (defBody sAtEnds) (defScope sAtEnds) .none kV20 dc20 pm20 an20 cd20 ct20), sl20⟩) (c20 : PySem.W.codeIn K cd20 "at_ends" = true) (k20 : PySem.W.keepIn K (.ref f20) = true)
    {f21 : Addr} {oc21 : Value} {od21 an21 : Option Addr} {sl21 : Array (Option Value)} {kV21 dc21 pm21 cd21 ct21 : Value}
    (a21 : PySem.W.nsIn K mainGlobals "lies_told" = some (some (.ref f21))) (l21 : K.lookup f21 = some ⟨oc21, od21, .func (PySem.W.fnOf "lies_told" "lies_told" (defArgs sLiesTold) (defBody sLiesTold) (defScope sLiesTold) .none kV21 dc21 pm21 an21 cd21 ct21), sl21⟩) (c21 : PySem.W.codeIn K cd21 "lies_told" = true) (k21 : PySem.W.keepIn K (.ref f21) = true)
    {f22 : Addr} {oc22 : Value} {od22 an22 : Option Addr} {sl22 : Array (Option Value)} {kV22 dc22 pm22 cd22 ct22 : Value}
    (a22 : PySem.W.nsIn K mainGlobals "is_class" = some (some (.ref f22))) (l22 : K.lookup f22 = some ⟨oc22, od22, .func (PySem.W.fnOf "is_class" "is_class" (defArgs sIsClass) (defBody sIsClass) (defScope sIsClass) .none kV22 dc22 pm22 an22 cd22 ct22), sl22⟩) (c22 : PySem.W.codeIn K cd22 "is_class" = true) (k22 : PySem.W.keepIn K (.ref f22) = true)
    {f23 : Addr} {oc23 : Value} {od23 an23 : Option Addr} {sl23 : Array (Option Value)} {kV23 dc23 pm23 cd23 ct23 : Value}
    (a23 : PySem.W.nsIn K mainGlobals "check_class" = some (some (.ref f23))) (l23 : K.lookup f23 = some ⟨oc23, od23, .func (PySem.W.fnOf "check_class" "check_class" (defArgs sCheckClass) (defBody sCheckClass) (defScope sCheckClass) .none kV23 dc23 pm23 an23 cd23 ct23), sl23⟩) (c23 : PySem.W.codeIn K cd23 "check_class" = true) (k23 : PySem.W.keepIn K (.ref f23) = true)
    {f24 : Addr} {oc24 : Value} {od24 an24 : Option Addr} {sl24 : Array (Option Value)} {kV24 dc24 pm24 cd24 ct24 : Value}
    (a24 : PySem.W.nsIn K mainGlobals "class_at" = some (some (.ref f24))) (l24 : K.lookup f24 = some ⟨oc24, od24, .func (PySem.W.fnOf "class_at" "class_at" (defArgs sClassAt) (defBody sClassAt) (defScope sClassAt) .none kV24 dc24 pm24 an24 cd24 ct24), sl24⟩) (c24 : PySem.W.codeIn K cd24 "class_at" = true) (k24 : PySem.W.keepIn K (.ref f24) = true)
    {f25 : Addr} {oc25 : Value} {od25 an25 : Option Addr} {sl25 : Array (Option Value)} {kV25 dc25 pm25 cd25 ct25 : Value}
    (a25 : PySem.W.nsIn K mainGlobals "class_of" = some (some (.ref f25))) (l25 : K.lookup f25 = some ⟨oc25, od25, .func (PySem.W.fnOf "class_of" "class_of" (defArgs sClassOf) (defBody sClassOf) (defScope sClassOf) .none kV25 dc25 pm25 an25 cd25 ct25), sl25⟩) (c25 : PySem.W.codeIn K cd25 "class_of" = true) (k25 : PySem.W.keepIn K (.ref f25) = true)
    {f26 : Addr} {oc26 : Value} {od26 an26 : Option Addr} {sl26 : Array (Option Value)} {kV26 dc26 pm26 cd26 ct26 : Value}
    (a26 : PySem.W.nsIn K mainGlobals "check_classes" = some (some (.ref f26))) (l26 : K.lookup f26 = some ⟨oc26, od26, .func (PySem.W.fnOf "check_classes" "check_classes" (defArgs sCheckClasses) (defBody sCheckClasses) (defScope sCheckClasses) .none kV26 dc26 pm26 an26 cd26 ct26), sl26⟩) (c26 : PySem.W.codeIn K cd26 "check_classes" = true) (k26 : PySem.W.keepIn K (.ref f26) = true)
    {f27 : Addr} {oc27 : Value} {od27 an27 : Option Addr} {sl27 : Array (Option Value)} {kV27 dc27 pm27 cd27 ct27 : Value}
    (a27 : PySem.W.nsIn K mainGlobals "told_class" = some (some (.ref f27))) (l27 : K.lookup f27 = some ⟨oc27, od27, .func (PySem.W.fnOf "told_class" "told_class" (defArgs sToldClass) (defBody sToldClass) (defScope sToldClass) .none kV27 dc27 pm27 an27 cd27 ct27), sl27⟩) (c27 : PySem.W.codeIn K cd27 "told_class" = true) (k27 : PySem.W.keepIn K (.ref f27) = true)
    {f28 : Addr} {oc28 : Value} {od28 an28 : Option Addr} {sl28 : Array (Option Value)} {kV28 dc28 pm28 cd28 ct28 : Value}
    (a28 : PySem.W.nsIn K mainGlobals "class_sum" = some (some (.ref f28))) (l28 : K.lookup f28 = some ⟨oc28, od28, .func (PySem.W.fnOf "class_sum" "class_sum" (defArgs sClassSum) (defBody sClassSum) (defScope sClassSum) .none kV28 dc28 pm28 an28 cd28 ct28), sl28⟩) (c28 : PySem.W.codeIn K cd28 "class_sum" = true) (k28 : PySem.W.keepIn K (.ref f28) = true)
    {f29 : Addr} {oc29 : Value} {od29 an29 : Option Addr} {sl29 : Array (Option Value)} {kV29 dc29 pm29 cd29 ct29 : Value}
    (a29 : PySem.W.nsIn K mainGlobals "class_less" = some (some (.ref f29))) (l29 : K.lookup f29 = some ⟨oc29, od29, .func (PySem.W.fnOf "class_less" "class_less" (defArgs sClassLess) (defBody sClassLess) (defScope sClassLess) .none kV29 dc29 pm29 an29 cd29 ct29), sl29⟩) (c29 : PySem.W.codeIn K cd29 "class_less" = true) (k29 : PySem.W.keepIn K (.ref f29) = true)
    {f30 : Addr} {oc30 : Value} {od30 an30 : Option Addr} {sl30 : Array (Option Value)} {kV30 dc30 pm30 cd30 ct30 : Value}
    (a30 : PySem.W.nsIn K mainGlobals "class_with_ends" = some (some (.ref f30))) (l30 : K.lookup f30 = some ⟨oc30, od30, .func (PySem.W.fnOf "class_with_ends" "class_with_ends" (defArgs sClassWithEnds) (defBody sClassWithEnds) (defScope sClassWithEnds) .none kV30 dc30 pm30 an30 cd30 ct30), sl30⟩) (c30 : PySem.W.codeIn K cd30 "class_with_ends" = true) (k30 : PySem.W.keepIn K (.ref f30) = true)
    {f31 : Addr} {oc31 : Value} {od31 an31 : Option Addr} {sl31 : Array (Option Value)} {kV31 dc31 pm31 cd31 ct31 : Value}
    (a31 : PySem.W.nsIn K mainGlobals "_law_dice" = some (some (.ref f31))) (l31 : K.lookup f31 = some ⟨oc31, od31, .func (PySem.W.fnOf "_law_dice" "_law_dice" (defArgs sLDice) (defBody sLDice) (defScope sLDice) .none kV31 dc31 pm31 an31 cd31 ct31), sl31⟩) (c31 : PySem.W.codeIn K cd31 "_law_dice" = true) (k31 : PySem.W.keepIn K (.ref f31) = true)
    {f32 : Addr} {oc32 : Value} {od32 an32 : Option Addr} {sl32 : Array (Option Value)} {kV32 dc32 pm32 cd32 ct32 : Value}
    (a32 : PySem.W.nsIn K mainGlobals "_law_roll" = some (some (.ref f32))) (l32 : K.lookup f32 = some ⟨oc32, od32, .func (PySem.W.fnOf "_law_roll" "_law_roll" (defArgs sLRoll) (defBody sLRoll) (defScope sLRoll) .none kV32 dc32 pm32 an32 cd32 ct32), sl32⟩) (c32 : PySem.W.codeIn K cd32 "_law_roll" = true) (k32 : PySem.W.keepIn K (.ref f32) = true)
    {f33 : Addr} {oc33 : Value} {od33 an33 : Option Addr} {sl33 : Array (Option Value)} {kV33 dc33 pm33 cd33 ct33 : Value}
    (a33 : PySem.W.nsIn K mainGlobals "_law_one_of" = some (some (.ref f33))) (l33 : K.lookup f33 = some ⟨oc33, od33, .func (PySem.W.fnOf "_law_one_of" "_law_one_of" (defArgs sLOneOf) (defBody sLOneOf) (defScope sLOneOf) .none kV33 dc33 pm33 an33 cd33 ct33), sl33⟩) (c33 : PySem.W.codeIn K cd33 "_law_one_of" = true) (k33 : PySem.W.keepIn K (.ref f33) = true)
    {f34 : Addr} {oc34 : Value} {od34 an34 : Option Addr} {sl34 : Array (Option Value)} {kV34 dc34 pm34 cd34 ct34 : Value}
    (a34 : PySem.W.nsIn K mainGlobals "_law_common" = some (some (.ref f34))) (l34 : K.lookup f34 = some ⟨oc34, od34, .func (PySem.W.fnOf "_law_common" "_law_common" (defArgs sLCommon) (defBody sLCommon) (defScope sLCommon) .none kV34 dc34 pm34 an34 cd34 ct34), sl34⟩) (c34 : PySem.W.codeIn K cd34 "_law_common" = true) (k34 : PySem.W.keepIn K (.ref f34) = true)
    {f35 : Addr} {oc35 : Value} {od35 an35 : Option Addr} {sl35 : Array (Option Value)} {kV35 dc35 pm35 cd35 ct35 : Value}
    (a35 : PySem.W.nsIn K mainGlobals "_law_ring" = some (some (.ref f35))) (l35 : K.lookup f35 = some ⟨oc35, od35, .func (PySem.W.fnOf "_law_ring" "_law_ring" (defArgs sLRing) (defBody sLRing) (defScope sLRing) .none kV35 dc35 pm35 an35 cd35 ct35), sl35⟩) (c35 : PySem.W.codeIn K cd35 "_law_ring" = true) (k35 : PySem.W.keepIn K (.ref f35) = true)
    {f36 : Addr} {oc36 : Value} {od36 an36 : Option Addr} {sl36 : Array (Option Value)} {kV36 dc36 pm36 cd36 ct36 : Value}
    (a36 : PySem.W.nsIn K mainGlobals "_law_ring_of" = some (some (.ref f36))) (l36 : K.lookup f36 = some ⟨oc36, od36, .func (PySem.W.fnOf "_law_ring_of" "_law_ring_of" (defArgs sLRingOf) (defBody sLRingOf) (defScope sLRingOf) .none kV36 dc36 pm36 an36 cd36 ct36), sl36⟩) (c36 : PySem.W.codeIn K cd36 "_law_ring_of" = true) (k36 : PySem.W.keepIn K (.ref f36) = true)
    {f37 : Addr} {oc37 : Value} {od37 an37 : Option Addr} {sl37 : Array (Option Value)} {kV37 dc37 pm37 cd37 ct37 : Value}
    (a37 : PySem.W.nsIn K mainGlobals "_law_chain" = some (some (.ref f37))) (l37 : K.lookup f37 = some ⟨oc37, od37, .func (PySem.W.fnOf "_law_chain" "_law_chain" (defArgs sLChain) (defBody sLChain) (defScope sLChain) .none kV37 dc37 pm37 an37 cd37 ct37), sl37⟩) (c37 : PySem.W.codeIn K cd37 "_law_chain" = true) (k37 : PySem.W.keepIn K (.ref f37) = true)
    {f38 : Addr} {oc38 : Value} {od38 an38 : Option Addr} {sl38 : Array (Option Value)} {kV38 dc38 pm38 cd38 ct38 : Value}
    (a38 : PySem.W.nsIn K mainGlobals "_law_deal" = some (some (.ref f38))) (l38 : K.lookup f38 = some ⟨oc38, od38, .func (PySem.W.fnOf "_law_deal" "_law_deal" (defArgs sLDeal) (defBody sLDeal) (defScope sLDeal) .none kV38 dc38 pm38 an38 cd38 ct38), sl38⟩) (c38 : PySem.W.codeIn K cd38 "_law_deal" = true) (k38 : PySem.W.keepIn K (.ref f38) = true)
    {f39 : Addr} {oc39 : Value} {od39 an39 : Option Addr} {sl39 : Array (Option Value)} {kV39 dc39 pm39 cd39 ct39 : Value}
    (a39 : PySem.W.nsIn K mainGlobals "_law_joined_class" = some (some (.ref f39))) (l39 : K.lookup f39 = some ⟨oc39, od39, .func (PySem.W.fnOf "_law_joined_class" "_law_joined_class" (defArgs sLJoinedClass) (defBody sLJoinedClass) (defScope sLJoinedClass) .none kV39 dc39 pm39 an39 cd39 ct39), sl39⟩) (c39 : PySem.W.codeIn K cd39 "_law_joined_class" = true) (k39 : PySem.W.keepIn K (.ref f39) = true)
    {f40 : Addr} {oc40 : Value} {od40 an40 : Option Addr} {sl40 : Array (Option Value)} {kV40 dc40 pm40 cd40 ct40 : Value}
    (a40 : PySem.W.nsIn K mainGlobals "_law_sums_right" = some (some (.ref f40))) (l40 : K.lookup f40 = some ⟨oc40, od40, .func (PySem.W.fnOf "_law_sums_right" "_law_sums_right" (defArgs sLSumsRight) (defBody sLSumsRight) (defScope sLSumsRight) .none kV40 dc40 pm40 an40 cd40 ct40), sl40⟩) (c40 : PySem.W.codeIn K cd40 "_law_sums_right" = true) (k40 : PySem.W.keepIn K (.ref f40) = true)
    {f41 : Addr} {oc41 : Value} {od41 an41 : Option Addr} {sl41 : Array (Option Value)} {kV41 dc41 pm41 cd41 ct41 : Value}
    (a41 : PySem.W.nsIn K mainGlobals "_law_ends_right" = some (some (.ref f41))) (l41 : K.lookup f41 = some ⟨oc41, od41, .func (PySem.W.fnOf "_law_ends_right" "_law_ends_right" (defArgs sLEndsRight) (defBody sLEndsRight) (defScope sLEndsRight) .none kV41 dc41 pm41 an41 cd41 ct41), sl41⟩) (c41 : PySem.W.codeIn K cd41 "_law_ends_right" = true) (k41 : PySem.W.keepIn K (.ref f41) = true)
    {f42 : Addr} {oc42 : Value} {od42 an42 : Option Addr} {sl42 : Array (Option Value)} {kV42 dc42 pm42 cd42 ct42 : Value}
    (a42 : PySem.W.nsIn K mainGlobals "law" = some (some (.ref f42))) (l42 : K.lookup f42 = some ⟨oc42, od42, .func (PySem.W.fnOf "law" "law" (defArgs sLaw) (defBody sLaw) (defScope sLaw) .none kV42 dc42 pm42 an42 cd42 ct42), sl42⟩) (c42 : PySem.W.codeIn K cd42 "law" = true) (k42 : PySem.W.keepIn K (.ref f42) = true) :
    ∃ fd : FuncData, (∀ (s : Shared) (v : Value), BindsTo s fd ⟨[v], []⟩ [("_law_script", v)]) ∧ ∀ base : Heap, K.In base → base.Ns mainGlobals mg → FnOk P w K mg base CX0 9 fa fd ["_law_script"] (spLaw K) := by
  have e := hfa.symm.trans (PySem.W.mg_of X G a42)
  cases e
  have T : Txt K mg :=
    { z_abs := PySem.W.mg_none_of X G z_abs, z_all := PySem.W.mg_none_of X G z_all, z_bool := PySem.W.mg_none_of X G z_bool, z_dict := PySem.W.mg_none_of X G z_dict, z_enumerate := PySem.W.mg_none_of X G z_enumerate, z_int := PySem.W.mg_none_of X G z_int, z_isinstance := PySem.W.mg_none_of X G z_isinstance, z_len := PySem.W.mg_none_of X G z_len, z_list := PySem.W.mg_none_of X G z_list, z_max := PySem.W.mg_none_of X G z_max, z_min := PySem.W.mg_none_of X G z_min, z_range := PySem.W.mg_none_of X G z_range, z_sorted := PySem.W.mg_none_of X G z_sorted, z_tuple := PySem.W.mg_none_of X G z_tuple, z_zip := PySem.W.mg_none_of X G z_zip, v_BOUND := vBOUND, v_DIGITS := ⟨tDIGITS, PySem.W.mg_of X G gDIGITS⟩, v_RINGS := ⟨tRINGS, PySem.W.mg_of X G gRINGS⟩, v_PLACES := ⟨tPLACES, PySem.W.mg_of X G gPLACES⟩,
      d_is_integer := mk_def (ps := ["value"]) X G a0 l0 c0 k0 fun _ _ _ _ _ _ us hl => match us, hl with | [_], _ => rfl,
      d_is_between := mk_def (ps := ["value", "low", "high"]) X G a1 l1 c1 k1 fun _ _ _ _ _ _ us hl => match us, hl with | [_, _, _], _ => rfl,
      d_is_pair := mk_def (ps := ["value"]) X G a2 l2 c2 k2 fun _ _ _ _ _ _ us hl => match us, hl with | [_], _ => rfl,
      d_check_integer := mk_def (ps := ["value"]) X G a3 l3 c3 k3 fun _ _ _ _ _ _ us hl => match us, hl with | [_], _ => rfl,
      d_check_digits := mk_def (ps := ["numbers"]) X G a4 l4 c4 k4 fun _ _ _ _ _ _ us hl => match us, hl with | [_], _ => rfl,
      d_is_ring := mk_def (ps := ["value"]) X G a5 l5 c5 k5 fun _ _ _ _ _ _ us hl => match us, hl with | [_], _ => rfl,
      d_is_chain := mk_def (ps := ["value"]) X G a6 l6 c6 k6 fun _ _ _ _ _ _ us hl => match us, hl with | [_], _ => rfl,
      d_lies_on := mk_def (ps := ["chain", "value"]) X G a7 l7 c7 k7 fun _ _ _ _ _ _ us hl => match us, hl with | [_, _], _ => rfl,
      d_lies_dealt := mk_def (ps := ["chain", "value"]) X G a8 l8 c8 k8 fun _ _ _ _ _ _ us hl => match us, hl with | [_, _], _ => rfl,
      d_check_chain := mk_def (ps := ["chain"]) X G a9 l9 c9 k9 fun _ _ _ _ _ _ us hl => match us, hl with | [_], _ => rfl,
      d_check_deal := mk_def (ps := ["chain", "deal"]) X G a10 l10 c10 k10 fun _ _ _ _ _ _ us hl => match us, hl with | [_, _], _ => rfl,
      d_left_name := mk_def (ps := ["chain"]) X G a11 l11 c11 k11 fun _ _ _ _ _ _ us hl => match us, hl with | [_], _ => rfl,
      d_right_name := mk_def (ps := ["chain"]) X G a12 l12 c12 k12 fun _ _ _ _ _ _ us hl => match us, hl with | [_], _ => rfl,
      d_written_name := mk_def (ps := ["chain", "place"]) X G a13 l13 c13 k13 fun _ _ _ _ _ _ us hl => match us, hl with | [_, _], _ => rfl,
      d_combined := mk_def (ps := ["chain", "parts"]) X G a14 l14 c14 k14 fun _ _ _ _ _ _ us hl => match us, hl with | [_, _], _ => rfl,
      d_told_sum := mk_def (ps := ["chain", "parts"]) X G a15 l15 c15 k15 fun _ _ _ _ _ _ us hl => match us, hl with | [_, _], _ => rfl,
      d_check_deals := mk_def (ps := ["chain", "one", "other"]) X G a16 l16 c16 k16 fun _ _ _ _ _ _ us hl => match us, hl with | [_, _, _], _ => rfl,
      d_added := mk_def (ps := ["chain", "one", "other"]) X G a17 l17 c17 k17 fun _ _ _ _ _ _ us hl => match us, hl with | [_, _, _], _ => rfl,
      d_less := mk_def (ps := ["chain", "one", "other"]) X G a18 l18 c18 k18 fun _ _ _ _ _ _ us hl => match us, hl with | [_, _, _], _ => rfl,
      d_multiplied := mk_def (ps := ["chain", "count", "deal"]) X G a19 l19 c19 k19 fun _ _ _ _ _ _ us hl => match us, hl with | [_, _, _], _ => rfl,
      d_at_ends := mk_def (ps := ["chain", "a", "b"]) X G a20 l20 c20 k20 fun _ _ _ _ _ _ us hl => match us, hl with | [_, _, _], _ => rfl,
      d_lies_told := mk_def (ps := ["chain", "value"]) X G a21 l21 c21 k21 fun _ _ _ _ _ _ us hl => match us, hl with | [_, _], _ => rfl,
      d_is_class := mk_def (ps := ["chain", "value"]) X G a22 l22 c22 k22 fun _ _ _ _ _ _ us hl => match us, hl with | [_, _], _ => rfl,
      d_check_class := mk_def (ps := ["chain", "value"]) X G a23 l23 c23 k23 fun _ _ _ _ _ _ us hl => match us, hl with | [_, _], _ => rfl,
      d_class_at := mk_def (ps := ["chain", "deal"]) X G a24 l24 c24 k24 fun _ _ _ _ _ _ us hl => match us, hl with | [_, _], _ => rfl,
      d_class_of := mk_def (ps := ["chain", "deal"]) X G a25 l25 c25 k25 fun _ _ _ _ _ _ us hl => match us, hl with | [_, _], _ => rfl,
      d_check_classes := mk_def (ps := ["chain", "one", "other"]) X G a26 l26 c26 k26 fun _ _ _ _ _ _ us hl => match us, hl with | [_, _, _], _ => rfl,
      d_told_class := mk_def (ps := ["chain", "degree", "rests"]) X G a27 l27 c27 k27 fun _ _ _ _ _ _ us hl => match us, hl with | [_, _, _], _ => rfl,
      d_class_sum := mk_def (ps := ["chain", "one", "other"]) X G a28 l28 c28 k28 fun _ _ _ _ _ _ us hl => match us, hl with | [_, _, _], _ => rfl,
      d_class_less := mk_def (ps := ["chain", "one", "other"]) X G a29 l29 c29 k29 fun _ _ _ _ _ _ us hl => match us, hl with | [_, _, _], _ => rfl,
      d_class_with_ends := mk_def (ps := ["chain", "one", "a", "b"]) X G a30 l30 c30 k30 fun _ _ _ _ _ _ us hl => match us, hl with | [_, _, _, _], _ => rfl,
      d_l_dice := mk_def (ps := ["_law_script", "_law_at"]) X G a31 l31 c31 k31 fun _ _ _ _ _ _ us hl => match us, hl with | [_, _], _ => rfl,
      d_l_roll := mk_def (ps := ["_law_dice_here", "_law_total"]) X G a32 l32 c32 k32 fun _ _ _ _ _ _ us hl => match us, hl with | [_, _], _ => rfl,
      d_l_one_of := mk_def (ps := ["_law_dice_here", "_law_items"]) X G a33 l33 c33 k33 fun _ _ _ _ _ _ us hl => match us, hl with | [_, _], _ => rfl,
      d_l_common := mk_def (ps := ["_law_one", "_law_other"]) X G a34 l34 c34 k34 fun _ _ _ _ _ _ us hl => match us, hl with | [_, _], _ => rfl,
      d_l_ring := mk_def (ps := ["_law_dice_here", "_law_most"]) X G a35 l35 c35 k35 fun _ _ _ _ _ _ us hl => match us, hl with | [_, _], _ => rfl,
      d_l_ring_of := mk_def (ps := ["_law_dice_here", "_law_k", "_law_times"]) X G a36 l36 c36 k36 fun _ _ _ _ _ _ us hl => match us, hl with | [_, _, _], _ => rfl,
      d_l_chain := mk_def (ps := ["_law_dice_here", "_law_rings", "_law_most"]) X G a37 l37 c37 k37 fun _ _ _ _ _ _ us hl => match us, hl with | [_, _, _], _ => rfl,
      d_l_deal := mk_def (ps := ["_law_dice_here", "_law_chain_here", "_law_most"]) X G a38 l38 c38 k38 fun _ _ _ _ _ _ us hl => match us, hl with | [_, _, _], _ => rfl,
      d_l_joined_class := mk_def (ps := ["_law_chain_here", "_law_one", "_law_other", "_law_sign"]) X G a39 l39 c39 k39 fun _ _ _ _ _ _ us hl => match us, hl with | [_, _, _, _], _ => rfl,
      d_l_sums_right := mk_def (ps := ["_law_chain_here", "_law_one", "_law_other", "_law_last"]) X G a40 l40 c40 k40 fun _ _ _ _ _ _ us hl => match us, hl with | [_, _, _, _], _ => rfl,
      d_l_ends_right := mk_def (ps := ["_law_dice_here", "_law_chain_here", "_law_deal_here"]) X G a41 l41 c41 k41 fun _ _ _ _ _ _ us hl => match us, hl with | [_, _, _], _ => rfl }
  have F := fun_mk (st := sLaw) l42 c42 k42
  exact ⟨PySem.W.fnOf "law" "law" (defArgs sLaw) (defBody sLaw) (defScope sLaw) .none kV42 dc42 pm42 an42 cd42 ct42, fun s v => .of_eq rfl, fun base _ _ => ok_law T F⟩
/-- the end of the law's row, what the loose names hold told -/
theorem walk_x {l : PySem.W.OpenLaw} {k : Nat} {q : Program} {loose : List Str} {lv : List (Str × PySem.W.WData)} {YP : World → Heap → Prop} {d : DefRec} {K : Params → PySem.W.Frag}
    (hn : l.most = some 63) (hdf : d.params.defaults = []) (hr : Room k callerA) (hY : ∀ (w : World) (h : Heap), YP w h → (K w.params).In h)
    (F : ∀ (w : World) (mg : Str → Option Value) (fa : Addr) (h : Heap), (K w.params).In h → h.Ns mainGlobals mg → PySem.W.XL q lv mg h → mg d.name = some (.ref fa) →
      ∃ fd : FuncData, (∀ (s : Shared) (u : Value), BindsTo s fd ⟨[u], []⟩ [("_law_script", u)]) ∧
        ∀ base : Heap, (K w.params).In base → base.Ns mainGlobals mg → FnOk l.prog w (K w.params) mg base CX0 k fa fd ["_law_script"] (spLaw (K w.params))) :
    PySem.W.WalkO q loose (PySem.W.XL q lv) YP l.row.toRowW d [] (fun f vs => PySem.call f vs) := by
  refine Att.attach_call hn hdf fun w s₀ s₁ mg mb fa o pm cd doc a vs ns G Y ho hd hcd hmg hobj hints hlen hg => ?_
  obtain ⟨fd, hb, hF⟩ := F w mg fa _ (hY w _ Y) G.T.g G.X hmg
  exact law_call (hY w _ Y) G.T.g G.T.b G.T.builtins G.T.nolimit hg hobj hints (Nat.le_trans hlen (by decide)) hr hF hb (fun H _ hS => ⟨a, ns, rfl, hS, hlen, fun _ => rfl⟩) fun H e s' z => z
end K1

open PySem PySem.W PyProof.Rows
set_option maxHeartbeats 0 in
theorem PySem.Challenge.cw_ringstairs_k05_whole_classes_added_and_m_holds : PySem.Challenge.rw_ringstairs_k05_whole_classes_added_and_m.Holds := by
  w_on; o_law; k_head; (case hw => w_witness2)
  k_fill
  refine K1.walk_x (k := 9) rfl rfl ⟨rfl, by decide, by decide⟩ (fun w h Y => PySem.W.kIn_of Y) ?F
  case F =>
    intro w mg fa h KX G XF hmg
    have vBOUND : ∃ t, mg "BOUND" = some (.int (10 ^ 60) t) := by
      obtain ⟨v, e1, e2⟩ := XF.2.val _ (List.mem_cons_self ..)
      cases e2
      exact ⟨_, e1⟩
    refine' K1.all_mk KX G hmg vBOUND ?gDIGITS ?gRINGS ?gPLACES ?z_abs ?z_all ?z_bool ?z_dict ?z_enumerate ?z_int ?z_isinstance ?z_len ?z_list ?z_max ?z_min ?z_range ?z_sorted ?z_tuple ?z_zip ?a0 ?l0 ?c0 ?k0 ?a1 ?l1 ?c1 ?k1 ?a2 ?l2 ?c2 ?k2 ?a3 ?l3 ?c3 ?k3 ?a4 ?l4 ?c4 ?k4 ?a5 ?l5 ?c5 ?k5 ?a6 ?l6 ?c6 ?k6 ?a7 ?l7 ?c7 ?k7 ?a8 ?l8 ?c8 ?k8 ?a9 ?l9 ?c9 ?k9 ?a10 ?l10 ?c10 ?k10 ?a11 ?l11 ?c11 ?k11 ?a12 ?l12 ?c12 ?k12 ?a13 ?l13 ?c13 ?k13 ?a14 ?l14 ?c14 ?k14 ?a15 ?l15 ?c15 ?k15 ?a16 ?l16 ?c16 ?k16 ?a17 ?l17 ?c17 ?k17 ?a18 ?l18 ?c18 ?k18 ?a19 ?l19 ?c19 ?k19 ?a20 ?l20 ?c20 ?k20 ?a21 ?l21 ?c21 ?k21 ?a22 ?l22 ?c22 ?k22 ?a23 ?l23 ?c23 ?k23 ?a24 ?l24 ?c24 ?k24 ?a25 ?l25 ?c25 ?k25 ?a26 ?l26 ?c26 ?k26 ?a27 ?l27 ?c27 ?k27 ?a28 ?l28 ?c28 ?k28 ?a29 ?l29 ?c29 ?k29 ?a30 ?l30 ?c30 ?k30 ?a31 ?l31 ?c31 ?k31 ?a32 ?l32 ?c32 ?k32 ?a33 ?l33 ?c33 ?k33 ?a34 ?l34 ?c34 ?k34 ?a35 ?l35 ?c35 ?k35 ?a36 ?l36 ?c36 ?k36 ?a37 ?l37 ?c37 ?k37 ?a38 ?l38 ?c38 ?k38 ?a39 ?l39 ?c39 ?k39 ?a40 ?l40 ?c40 ?k40 ?a41 ?l41 ?c41 ?k41 ?a42 ?l42 ?c42 ?k42
    (case gDIGITS => k_is); (case gRINGS => k_is); (case gPLACES => k_is); (case z_abs => k_is); (case z_all => k_is); (case z_bool => k_is); (case z_dict => k_is); (case z_enumerate => k_is)
    (case z_int => k_is); (case z_isinstance => k_is); (case z_len => k_is); (case z_list => k_is); (case z_max => k_is); (case z_min => k_is); (case z_range => k_is); (case z_sorted => k_is)
    (case z_tuple => k_is); (case z_zip => k_is); (case a0 => k_is); (case l0 => k_is); (case c0 => k_is); (case k0 => k_is); (case a1 => k_is); (case l1 => k_is)
    (case c1 => k_is); (case k1 => k_is); (case a2 => k_is); (case l2 => k_is); (case c2 => k_is); (case k2 => k_is); (case a3 => k_is); (case l3 => k_is)
    (case c3 => k_is); (case k3 => k_is); (case a4 => k_is); (case l4 => k_is); (case c4 => k_is); (case k4 => k_is); (case a5 => k_is); (case l5 => k_is)
    (case c5 => k_is); (case k5 => k_is); (case a6 => k_is); (case l6 => k_is); (case c6 => k_is); (case k6 => k_is); (case a7 => k_is); (case l7 => k_is)
    (case c7 => k_is); (case k7 => k_is); (case a8 => k_is); (case l8 => k_is); (case c8 => k_is); (case k8 => k_is); (case a9 => k_is); (case l9 => k_is)
    (case c9 => k_is); (case k9 => k_is); (case a10 => k_is); (case l10 => k_is); (case c10 => k_is); (case k10 => k_is); (case a11 => k_is); (case l11 => k_is)
    (case c11 => k_is); (case k11 => k_is); (case a12 => k_is); (case l12 => k_is); (case c12 => k_is); (case k12 => k_is); (case a13 => k_is); (case l13 => k_is)
    (case c13 => k_is); (case k13 => k_is); (case a14 => k_is); (case l14 => k_is); (case c14 => k_is); (case k14 => k_is); (case a15 => k_is); (case l15 => k_is)
    (case c15 => k_is); (case k15 => k_is); (case a16 => k_is); (case l16 => k_is); (case c16 => k_is); (case k16 => k_is); (case a17 => k_is); (case l17 => k_is)
    (case c17 => k_is); (case k17 => k_is); (case a18 => k_is); (case l18 => k_is); (case c18 => k_is); (case k18 => k_is); (case a19 => k_is); (case l19 => k_is)
    (case c19 => k_is); (case k19 => k_is); (case a20 => k_is); (case l20 => k_is); (case c20 => k_is); (case k20 => k_is); (case a21 => k_is); (case l21 => k_is)
    (case c21 => k_is); (case k21 => k_is); (case a22 => k_is); (case l22 => k_is); (case c22 => k_is); (case k22 => k_is); (case a23 => k_is); (case l23 => k_is)
    (case c23 => k_is); (case k23 => k_is); (case a24 => k_is); (case l24 => k_is); (case c24 => k_is); (case k24 => k_is); (case a25 => k_is); (case l25 => k_is)
    (case c25 => k_is); (case k25 => k_is); (case a26 => k_is); (case l26 => k_is); (case c26 => k_is); (case k26 => k_is); (case a27 => k_is); (case l27 => k_is)
    (case c27 => k_is); (case k27 => k_is); (case a28 => k_is); (case l28 => k_is); (case c28 => k_is); (case k28 => k_is); (case a29 => k_is); (case l29 => k_is)
    (case c29 => k_is); (case k29 => k_is); (case a30 => k_is); (case l30 => k_is); (case c30 => k_is); (case k30 => k_is); (case a31 => k_is); (case l31 => k_is)
    (case c31 => k_is); (case k31 => k_is); (case a32 => k_is); (case l32 => k_is); (case c32 => k_is); (case k32 => k_is); (case a33 => k_is); (case l33 => k_is)
    (case c33 => k_is); (case k33 => k_is); (case a34 => k_is); (case l34 => k_is); (case c34 => k_is); (case k34 => k_is); (case a35 => k_is); (case l35 => k_is)
    (case c35 => k_is); (case k35 => k_is); (case a36 => k_is); (case l36 => k_is); (case c36 => k_is); (case k36 => k_is); (case a37 => k_is); (case l37 => k_is)
    (case c37 => k_is); (case k37 => k_is); (case a38 => k_is); (case l38 => k_is); (case c38 => k_is); (case k38 => k_is); (case a39 => k_is); (case l39 => k_is)
    (case c39 => k_is); (case k39 => k_is); (case a40 => k_is); (case l40 => k_is); (case c40 => k_is); (case k40 => k_is); (case a41 => k_is); (case l41 => k_is)
    (case c41 => k_is); (case k41 => k_is); (case a42 => k_is); (case l42 => k_is); (case c42 => k_is); (case k42 => k_is)

