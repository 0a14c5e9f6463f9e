import PyProof.Rows.All
import Wide.All
import OpenK.AllK
import Wide.FinOn
import HandS.Iter
import PyProof.LongRange
import HandS.ForMost
import KE.GoesEnum
import PySem.Challenge.RW_ringstairs_k33_maps_of_classes_are_round
import HandS.ForExc
import HandS.Wide
import HandS.SortInts
import HandS.Zip
import HandS.Style
import HandS.Rev
import HandS.TupMul
import HandS.IsInst
import HandS.Evl
import HandS.Gcd
import HandS.RevRange
import HandS.Small
import HandS.Conv
import HandS.Walk
import HandS.List
import HandS.SetFor
import HandS.Strs
import HandS.Dict
import HandS.TupAny
import HandS.Property
set_option Elab.async false
set_option linter.all false
set_option maxRecDepth 100000
set_option maxHeartbeats 4000000
/-! own rule: range(i, j) with ends of any size, walked -/
namespace LR
open PySem PySem.Spec PyProof.Rows L2
theorem turn_long {P : Program} {w : World} {K : PySem.W.Frag} {tg : Expr} (it : Addr) (lo : Int) (n : Nat) : Turn P w K tg (Itr lo n) [it] it (fun i h => IsLongIter h it (lo + (i : Nat) * 1) ((n : Int) - (i : Nat)) 1) where
  mem := by simp
  obj := fun i h st b hb => by
    have e : b = it := by simpa using hb
    subst e
    exact ⟨_, st, fun v z => nomatch z⟩
  keep := fun i h h' st k => k it (by simp) _ st
  item := by
    intro X hP hw hK hc i pins s σ H E I hf st hg
    subst hP hw hK
    obtain ⟨f0, f1, f2, f3, f4, f5⟩ := hf it (by simp)
    have W := Walks.longrange (prog := X.prog) (w := X.w) (I.ok.hd hc) it lo 1 n
    refine W.item i s _ _ hg st fun v h' tk hv st' kk => ?_
    obtain ⟨t, rfl⟩ := hv
    have I1 : Inv X pins σ H { s with heap := h', toks := tk } := I.turned (fun b o hb e => kk b o (by simpa using hb) e) f0 f1 f3 f4 f5
    exact ⟨_, rfl, go_of (s := { s with heap := h', toks := tk }) (n := "longrange_iterator") st' rfl rfl (by decide) ⟨.int (lo + (i : Nat) * 1), H, I1, ⟨t, rfl⟩, ⟨rfl, by simp⟩, st', fun b hb => (hf b hb).1⟩⟩
  done := by
    intro X hP hw hK hc i pins s σ H E I hf st hg
    subst hP hw hK
    obtain ⟨f0, f1, f2, f3, f4, f5⟩ := hf it (by simp)
    exact wpAny_pyNext_long_end (I.ok.hd hc) st (by have : n ≤ i := hg; omega) fun h' eb => ⟨rfl, I.turned (t' := s.toks) (fun b o hb e => eb b o hb e) f0 f1 f3 f4 f5⟩
  self := fun A i s Q E st h => wpAny_pyIter_longiter st h
theorem range_itL {X : Cx} {tg : Expr} {pins : List (Addr × Obj)} {σ : L2.St} {H : Hp} {s : Shared} {R : It → Hp → Prop} {E : Value → Shared → Prop} {lo hi : Int} {t u v : Tok} {tk : Nat} (I : Inv X pins σ H s) (hb : Builtin.Range.small lo hi 1 = false)
    (q : R (Itr lo (hi - lo).toNat) H) : wpAny (model X.prog X.w) X.A (pyIter (.ref s.heap.objs.size)) (PIE X pins σ tg R) E { s with heap := s.heap.push { cls := .type "range", data := .fields #[.int lo t, .int hi u, .int 1 v] }, toks := tk } := by
  refine wpAny_pyIter_longrange (IsRange.new ..) hb ?_
  have I1 : Inv X pins σ H { s with heap := s.heap.push { cls := .type "range", data := .fields #[.int lo t, .int hi u, .int 1 v] }, toks := tk } := I.kept fun b o e => Heap.get?_push_of_some _ e
  refine ⟨(s.heap.push { cls := .type "range", data := .fields #[.int lo t, .int hi u, .int 1 v] }).objs.size, [(s.heap.push { cls := .type "range", data := .fields #[.int lo t, .int hi u, .int 1 v] }).objs.size], _, _, H, rfl,
    I1.kept (t' := tk) fun b o e => Heap.get?_push_of_some _ e, turn_long _ lo (hi - lo).toNat, ?_, fun b hb => ?_, q⟩
  · have e1 : lo + ((0 : Nat) : Int) * 1 = lo := by simp
    have e2 : (((hi - lo).toNat : Nat) : Int) - ((0 : Nat) : Int) = Builtin.Range.rangeSize lo hi 1 := by rw [rangeSize_one]; split <;> omega
    show IsLongIter _ _ (lo + ((0 : Nat) : Int) * 1) ((((hi - lo).toNat : Nat) : Int) - ((0 : Nat) : Int)) 1
    rw [e1, e2]
    exact Heap.get?_push_size _ rfl
  · have e : b = (s.heap.push { cls := .type "range", data := .fields #[.int lo t, .int hi u, .int 1 v] }).objs.size := by simpa using hb
    subst e
    exact I1.fpOk (Nat.le_refl _) (I1.hok.fresh (Nat.le_refl _))
/-- small or not -/
theorem range_itS {X : Cx} {tg : Expr} {pins : List (Addr × Obj)} {σ : L2.St} {H : Hp} {s : Shared} {R : It → Hp → Prop} {E : Value → Shared → Prop} {lo hi : Int} {t u v : Tok} {tk : Nat} (I : Inv X pins σ H s) (hb : Builtin.Range.small lo hi 1 = true)
    (q : R (Itr lo (hi - lo).toNat) H) : wpAny (model X.prog X.w) X.A (pyIter (.ref s.heap.objs.size)) (PIE X pins σ tg R) E { s with heap := s.heap.push { cls := .type "range", data := .fields #[.int lo t, .int hi u, .int 1 v] }, toks := tk } := by
  refine wpAny_pyIter_range (IsRange.new ..) hb ?_
  have I1 : Inv X pins σ H { s with heap := s.heap.push { cls := .type "range", data := .fields #[.int lo t, .int hi u, .int 1 v] }, toks := tk } := I.kept fun b o e => Heap.get?_push_of_some _ e
  refine ⟨(s.heap.push { cls := .type "range", data := .fields #[.int lo t, .int hi u, .int 1 v] }).objs.size, [(s.heap.push { cls := .type "range", data := .fields #[.int lo t, .int hi u, .int 1 v] }).objs.size], _, _, H, rfl,
    I1.kept (t' := tk) fun b o e => Heap.get?_push_of_some _ e, turn_range _ lo (hi - lo).toNat, ?_, fun b hb => ?_, q⟩
  · have e1 : lo + ((0 : Nat) : Int) * 1 = lo := by simp
    have e2 : (((hi - lo).toNat : Nat) : Int) - ((0 : Nat) : Int) = Builtin.Range.rangeSize lo hi 1 := by rw [rangeSize_one]; split <;> omega
    show IsRangeIter _ _ (lo + ((0 : Nat) : Int) * 1) ((((hi - lo).toNat : Nat) : Int) - ((0 : Nat) : Int)) 1
    rw [e1, e2]
    exact Heap.get?_push_size _ rfl
  · have e : b = (s.heap.push { cls := .type "range", data := .fields #[.int lo t, .int hi u, .int 1 v] }).objs.size := by simpa using hb
    subst e
    exact I1.fpOk (Nat.le_refl _) (I1.hok.fresh (Nat.le_refl _))
def iRng2L (ta : TA) : TI := fun σ H R => ta σ H fun vs H1 => ∃ i j : Int, vs = [.int i, .int j] ∧ R (Itr i (j - i).toNat) H1
theorem pi_range2L {X : Cx} {tg : Expr} {a b : Expr} {ta : TA} {p pos : Pos} (hg : Gl X "range") (hm : X.mg "range" = none) (ha : PA X [a, b] ta) (hs : starEach [a, b] X.env = [(false, eval a X.env), (false, eval b X.env)] := by rfl) (hs2 : starEach [b] X.env = [(false, eval b X.env)] := by rfl) :
    PI X tg (.Call (.Name "range" p) [a, b] [] pos) (iRng2L ta) := by
  refine ⟨fun pins s σ H R I h => ?_⟩
  refine Call_ (ld_blt I hg hm boot_range (PyProof.Rows.callWith_type1 (thn (ha.run pos pins s σ H _ I h) fun us s1 ⟨vs, H1, I1, r1, q1⟩ => ?_) (by rw [hs, hs2]) (by rw [hs2]; rfl)))
  obtain ⟨i, j, e, q⟩ := q1
  subst e
  cases r1 with
  | cons r rr =>
    cases rr with
    | cons r' rr =>
      cases rr
      obtain ⟨t, rfl⟩ := r
      obtain ⟨t', rfl⟩ := r'
      cases hb : Builtin.Range.small i j 1 with
      | true => exact call_range_2 (range_itS I1 hb q)
      | false => exact call_range_2 (range_itL I1 hb q)
end LR

/-! plain mathematics for the orders and the diagonals -/
namespace K1M
/-- the step: the i-th place on the way from the right door by the left door -/
theorem dvd_iff {n s i : Nat} (hn : 0 < n) : (i * s) % n = 0 ↔ (n / Nat.gcd n s) ∣ i := by
  have hg : 0 < Nat.gcd n s := Nat.gcd_pos_of_pos_left _ hn
  have hc : Nat.Coprime (n / Nat.gcd n s) (s / Nat.gcd n s) := Nat.coprime_div_gcd_div_gcd hg
  have hn' : n = Nat.gcd n s * (n / Nat.gcd n s) := (Nat.mul_div_cancel' (Nat.gcd_dvd_left n s)).symm
  have hs' : s = Nat.gcd n s * (s / Nat.gcd n s) := (Nat.mul_div_cancel' (Nat.gcd_dvd_right n s)).symm
  constructor
  · intro h
    have d : n ∣ i * s := Nat.dvd_of_mod_eq_zero h
    have d2 : Nat.gcd n s * (n / Nat.gcd n s) ∣ Nat.gcd n s * (i * (s / Nat.gcd n s)) := by
      rw [← hn']
      have e : Nat.gcd n s * (i * (s / Nat.gcd n s)) = i * s := by
        rw [Nat.mul_left_comm, ← hs']
      rw [e]
      exact d
    have d3 := Nat.dvd_of_mul_dvd_mul_left hg d2
    exact hc.dvd_of_dvd_mul_right d3
  · rintro ⟨c, rfl⟩
    apply Nat.mod_eq_zero_of_dvd
    refine ⟨c * (s / Nat.gcd n s), ?_⟩
    have e : n / Nat.gcd n s * c * s = n / Nat.gcd n s * c * (Nat.gcd n s * (s / Nat.gcd n s)) := by rw [← hs']
    rw [e]
    have e2 : n * (c * (s / Nat.gcd n s)) = Nat.gcd n s * (n / Nat.gcd n s) * (c * (s / Nat.gcd n s)) := by rw [← hn']
    rw [e2]
    simp only [Nat.mul_assoc, Nat.mul_left_comm, Nat.mul_comm]
def ord (n s : Nat) : Nat := n / Nat.gcd n s
theorem ord_pos {n s : Nat} (hn : 0 < n) : 0 < ord n s := Nat.div_pos (Nat.gcd_le_left s hn) (Nat.gcd_pos_of_pos_left _ hn)
theorem ord_le {n s : Nat} : ord n s ≤ n := Nat.div_le_self _ _
theorem ord_ge2 {n s : Nat} (h1 : 1 ≤ s) (h2 : s < n) : 2 ≤ ord n s := by
  have hn : 0 < n := by omega
  have hg : 0 < Nat.gcd n s := Nat.gcd_pos_of_pos_left _ hn
  have hle : Nat.gcd n s ≤ s := Nat.le_of_dvd h1 (Nat.gcd_dvd_right n s)
  have hn' : n = Nat.gcd n s * ord n s := (Nat.mul_div_cancel' (Nat.gcd_dvd_left n s)).symm
  rcases Nat.lt_or_ge (ord n s) 2 with h | h
  · exfalso
    have hp := ord_pos (s := s) hn
    have e1 : ord n s = 1 := by omega
    rw [e1, Nat.mul_one] at hn'
    omega
  · exact h
/-- the way: while the next is not 0 and there are fewer than n -/
def stp (n s i : Nat) : Nat := (i * s) % n
theorem stp_zero_iff {n s i : Nat} (hn : 0 < n) : stp n s i = 0 ↔ ord n s ∣ i := dvd_iff hn
theorem stp_mod {n s i : Nat} (hn : 0 < n) : stp n s (i % ord n s) = stp n s i := by
  have h0 : (ord n s * s) % n = 0 := (stp_zero_iff (i := ord n s) hn).mpr (Nat.dvd_refl _)
  have e : i = ord n s * (i / ord n s) + i % ord n s := (Nat.div_add_mod i (ord n s)).symm
  have e2 : i * s = (i / ord n s) * (ord n s * s) + (i % ord n s) * s := by
    have : (ord n s * (i / ord n s) + i % ord n s) * s = (i / ord n s) * (ord n s * s) + (i % ord n s) * s := by
      rw [Nat.add_mul]
      congr 1
      simp only [Nat.mul_assoc, Nat.mul_left_comm, Nat.mul_comm]
    rw [← this, ← e]
  obtain ⟨q, hq⟩ := Nat.dvd_of_mod_eq_zero h0
  unfold stp
  rw [e2, hq, Nat.mul_left_comm, Nat.add_comm, Nat.add_mul_mod_self_left]
/-- the same for integers: the diagonal's place -/
theorem istp {n s : Nat} (hn : 0 < n) (c : Int) : (c * (s : Int)) % (n : Int) = ((stp n s (c % (ord n s : Int)).toNat : Nat) : Int) := by
  have hm : 0 < ord n s := ord_pos hn
  have hm' : (0 : Int) < (ord n s : Int) := by exact_mod_cast hm
  have hr0 : 0 ≤ c % (ord n s : Int) := Int.emod_nonneg _ (by omega)
  have h0 : ((ord n s : Int) * (s : Int)) % (n : Int) = 0 := by
    have h0 : (ord n s * s) % n = 0 := (stp_zero_iff (i := ord n s) hn).mpr (Nat.dvd_refl _)
    have := congrArg (fun x : Nat => (x : Int)) h0
    simpa using this
  have e : c = (ord n s : Int) * (c / (ord n s : Int)) + c % (ord n s : Int) := (Int.mul_ediv_add_emod c (ord n s : Int)).symm
  have e2 : c * (s : Int) = (c / (ord n s : Int)) * ((ord n s : Int) * (s : Int)) + (c % (ord n s : Int)) * (s : Int) := by
    have : ((ord n s : Int) * (c / (ord n s : Int)) + c % (ord n s : Int)) * (s : Int) = (c / (ord n s : Int)) * ((ord n s : Int) * (s : Int)) + (c % (ord n s : Int)) * (s : Int) := by
      rw [Int.add_mul]
      congr 1
      rw [Int.mul_assoc, Int.mul_left_comm]
    rw [← this, ← e]
  rw [e2, Int.add_emod, Int.mul_emod, h0, Int.mul_zero, Int.zero_emod, Int.zero_add, Int.emod_emod]
  unfold stp
  have e3 : c % (ord n s : Int) = (((c % (ord n s : Int)).toNat : Nat) : Int) := (Int.toNat_of_nonneg hr0).symm
  conv => lhs; rw [e3]
  simp
/-- does_let tells just the place -/
theorem lets_iff {n : Nat} {x p : Int} (hn : 0 < n) (h0 : 0 ≤ p) (h1 : p < n) : (x - p) % (n : Int) = 0 ↔ x % (n : Int) = p := by
  have hn' : (0 : Int) < n := by exact_mod_cast hn
  constructor
  · intro h
    have e := Int.emod_emod_of_dvd x (Int.dvd_refl (n : Int))
    have h2 : x = (n : Int) * ((x - p) / n) + p := by
      have := Int.mul_ediv_add_emod (x - p) n
      omega
    rw [h2, Int.add_comm, Int.add_mul_emod_self_left]
    exact Int.emod_eq_of_lt h0 h1
  · intro h
    have h2 := Int.mul_ediv_add_emod x n
    have h3 : x - p = (n : Int) * (x / n) := by omega
    rw [h3, Int.mul_emod_right]
/-- the stop of the loop is the order -/
theorem stop_is {n s k : Nat} (hn : 0 < n) (hk : 1 ≤ k) (hkn : k ≤ n) (hlow : ∀ i, 0 < i → i < k → stp n s i ≠ 0) (hstop : stp n s k = 0 ∨ k = n) : k = ord n s := by
  have hm := ord_pos (s := s) hn
  have hmn : ord n s ≤ n := ord_le
  have h1 : k ≤ ord n s := by
    rcases Nat.lt_or_ge (ord n s) k with h | h
    · exact absurd ((stp_zero_iff hn).mpr (Nat.dvd_refl _)) (hlow _ hm h)
    · exact h
  rcases hstop with h | h
  · have d := (stp_zero_iff hn).mp h
    have := Nat.le_of_dvd hk d
    omega
  · omega
end K1M

/-! plain mathematics for the written names -/
namespace K1N
def nAt (rs : List (Int × Int)) (j : Nat) : Nat := (rs.getD j (0, 0)).1.toNat
def sAt (rs : List (Int × Int)) (j : Nat) : Int := (rs.getD j (0, 0)).2
def row (j n : Nat) : List (Int × Int) := (List.range n).map fun (q : Nat) => ((j : Int), (q : Int))
def pre (rs : List (Int × Int)) : Nat → List (Int × Int)
  | 0 => []
  | i + 1 => pre rs i ++ row i (nAt rs i)
/-- a place that is its own written name -/
def own (rs : List (Int × Int)) (p : Int × Int) : Bool := !(decide (0 < p.1) && decide (p.2 = sAt rs p.1.toNat))
def names (rs : List (Int × Int)) : List (Int × Int) := (pre rs rs.length).filter (own rs)
def sumTo (rs : List (Int × Int)) : Nat → Nat
  | 0 => 0
  | i + 1 => sumTo rs i + nAt rs i
theorem row_succ (j n : Nat) : row j (n + 1) = row j n ++ [((j : Int), (n : Int))] := by
  unfold row
  rw [List.range_succ, List.map_append]
  rfl
theorem row_len (j n : Nat) : (row j n).length = n := by
  unfold row
  rw [List.length_map, List.length_range]
theorem pre_len {rs : List (Int × Int)} (h : ∀ j, nAt rs j ≤ 60) : ∀ i, (pre rs i).length ≤ 60 * i
  | 0 => Nat.le_refl _
  | i + 1 => by
    show (pre rs i ++ row i (nAt rs i)).length ≤ 60 * (i + 1)
    rw [List.length_append, row_len]
    have := pre_len h i
    have := h i
    omega
theorem row0 (rs : List (Int × Int)) : ∀ n, ((row 0 n).filter (own rs)).length = n
  | 0 => rfl
  | n + 1 => by
    rw [row_succ, List.filter_append, List.length_append, row0 rs n]
    have : own rs (((0 : Nat) : Int), (n : Int)) = true := rfl
    rw [List.filter_cons, if_pos this]
    rfl
theorem rowS (rs : List (Int × Int)) (j : Nat) (s : Nat) (hs : sAt rs (j + 1) = (s : Int)) : ∀ n, ((row (j + 1) n).filter (own rs)).length = if s < n then n - 1 else n
  | 0 => rfl
  | n + 1 => by
    rw [row_succ, List.filter_append, List.length_append, rowS rs j s hs n]
    by_cases c : n = s
    · have e : own rs (((j + 1 : Nat) : Int), (n : Int)) = false := by
        unfold own
        rw [show (((j + 1 : Nat) : Int)).toNat = j + 1 by omega, hs, decide_eq_true (show (0 : Int) < ((j + 1 : Nat) : Int) by omega), decide_eq_true (show (n : Int) = (s : Int) by omega)]
        rfl
      have e2 : [(((j + 1 : Nat) : Int), (n : Int))].filter (own rs) = [] := by
        rw [List.filter_cons, if_neg (show ¬ own rs (((j + 1 : Nat) : Int), (n : Int)) = true by rw [e]; decide)]
        rfl
      rw [e2, if_neg (show ¬ s < n by omega), if_pos (show s < n + 1 by omega)]
      show n + 0 = n + 1 - 1
      omega
    · have e : own rs (((j + 1 : Nat) : Int), (n : Int)) = true := by
        unfold own
        rw [show (((j + 1 : Nat) : Int)).toNat = j + 1 by omega, hs, decide_eq_false (show ¬ (n : Int) = (s : Int) by omega), Bool.and_false]
        rfl
      rw [List.filter_cons, if_pos e]
      show (if s < n then n - 1 else n) + 1 = _
      by_cases c2 : s < n
      · rw [if_pos c2, if_pos (by omega)]
        omega
      · rw [if_neg c2, if_neg (by omega)]
/-- how many written names -/
theorem count_to {rs : List (Int × Int)} (h : ∀ j, j < rs.length → 1 ≤ sAt rs j ∧ sAt rs j < (nAt rs j : Int)) : ∀ i, 1 ≤ i → i ≤ rs.length → ((pre rs i).filter (own rs)).length + i = sumTo rs i + 1
  | 0, z, _ => absurd z (by decide)
  | 1, _, h1 => by
    show (([] ++ row 0 (nAt rs 0)).filter (own rs)).length + 1 = 0 + nAt rs 0 + 1
    rw [List.nil_append, row0]
    omega
  | i + 2, _, h1 => by
    have ih := count_to h (i + 1) (by omega) (by omega)
    have hs := h (i + 1) (by omega)
    have hr := rowS rs i (sAt rs (i + 1)).toNat (by omega) (nAt rs (i + 1))
    rw [if_pos (by omega)] at hr
    show ((pre rs (i + 1) ++ row (i + 1) (nAt rs (i + 1))).filter (own rs)).length + (i + 2) = sumTo rs (i + 1) + nAt rs (i + 1) + 1
    rw [List.filter_append, List.length_append, hr]
    omega
theorem nAt_left {a b : List (Int × Int)} {j : Nat} (h : j < a.length) : nAt (a ++ b) j = nAt a j := by
  unfold nAt
  rw [List.getD_eq_getElem?_getD, List.getD_eq_getElem?_getD, List.getElem?_append_left h]
theorem nAt_right {a b : List (Int × Int)} {j : Nat} : nAt (a ++ b) (a.length + j) = nAt b j := by
  unfold nAt
  rw [List.getD_eq_getElem?_getD, List.getD_eq_getElem?_getD, List.getElem?_append_right (by omega), Nat.add_sub_cancel_left]
theorem sum_left {a b : List (Int × Int)} : ∀ i, i ≤ a.length → sumTo (a ++ b) i = sumTo a i
  | 0, _ => rfl
  | i + 1, h => by
    show sumTo (a ++ b) i + nAt (a ++ b) i = sumTo a i + nAt a i
    rw [sum_left i (by omega), nAt_left (by omega)]
theorem sum_right {a b : List (Int × Int)} : ∀ i, sumTo (a ++ b) (a.length + i) = sumTo a a.length + sumTo b i
  | 0 => by
    rw [Nat.add_zero, sum_left _ (Nat.le_refl _)]
    rfl
  | i + 1 => by
    show sumTo (a ++ b) (a.length + i) + nAt (a ++ b) (a.length + i) = sumTo a a.length + (sumTo b i + nAt b i)
    rw [sum_right i, nAt_right, Nat.add_assoc]
theorem names_joined {a b : List (Int × Int)} (ha : 1 ≤ a.length) (hb : 1 ≤ b.length) (h1 : ∀ j, j < a.length → 1 ≤ sAt a j ∧ sAt a j < (nAt a j : Int)) (h2 : ∀ j, j < b.length → 1 ≤ sAt b j ∧ sAt b j < (nAt b j : Int))
    (h3 : ∀ j, j < (a ++ b).length → 1 ≤ sAt (a ++ b) j ∧ sAt (a ++ b) j < (nAt (a ++ b) j : Int)) : (names (a ++ b)).length + 1 = (names a).length + (names b).length := by
  unfold names
  have e1 := count_to h1 a.length ha (Nat.le_refl _)
  have e2 := count_to h2 b.length hb (Nat.le_refl _)
  have e3 := count_to h3 (a ++ b).length (by rw [List.length_append]; omega) (Nat.le_refl _)
  have e4 := sum_right (a := a) (b := b) b.length
  rw [List.length_append] at e3 ⊢
  omega
end K1N

/-! enumerate over a tuple, one argument -/
namespace EnT
open PySem PySem.Spec PyProof.Rows L2
theorem made {v : Value} {o : Obj} {Hy : Heap → Prop} (B : Begins v o Hy) : Meets (Builtin.«enumerate.__new__» ⟨[.type "enumerate", v], []⟩) (fun _ R s => Hy s.heap ∧
      R (.ok (.ret (.ref (s.heap.push o).objs.size))) { s with heap := (s.heap.push o).push { cls := .type "enumerate", data := .fields #[.none, .bool false, .ref s.heap.objs.size, rawInt 0, .none, .none] } }) :=
  .of_wp fun prog w A R s z => by
    obtain ⟨hp, gs, dr, tk, os⟩ := s
    obtain ⟨z1, z2⟩ := z
    have sb := sub_enumerate
    have it1 : ∀ {A2 : Around} {E2 : Value → Shared → Prop} {Q2 : Value → Shared → Prop}, Q2 (.ref hp.objs.size) ⟨hp.push o, gs, dr, tk, os⟩ → wpAny (model prog w) A2 (pyIter v) Q2 E2 ⟨hp, gs, dr, tk, os⟩ :=
      fun y => B.iter prog w _ _ ⟨hp, gs, dr, tk, os⟩ _ z1 y
    wp_walk using it1
    refine wpAny_stack_any fun _ => wpAny_pure ?_
    split
    · rename_i c _ _ _ _ _
      cases (c == Value.type "enumerate")
      · wp_walk using it1
        exact ⟨_, rfl, z2⟩
      · wp_walk using it1
        exact ⟨_, rfl, z2⟩
    · wp_walk using it1
      exact ⟨_, rfl, z2⟩
section
variable {prog : Program} {w : World} {A : Around} {E : Value → Shared → Prop} {s : Shared}
theorem call_made {v : Value} {o : Obj} {Hy : Heap → Prop} {Q : Value → Shared → Prop} (B : Begins v o Hy) (h1 : Hy s.heap)
    (k : ∀ h2, IsEnum h2 (s.heap.objs.size + 1) s.heap.objs.size 0 .none → h2.get? s.heap.objs.size = some o → (∀ b u, s.heap.get? b = some u → h2.get? b = some u) → Q (.ref (s.heap.objs.size + 1)) { s with heap := h2 }) :
    wpAny (model prog w) A (call (.type "enumerate") [v]) Q E s := by
  refine callType_new F.called_enumerate (by decide) (F.typeCall_enumerate_1 _) (F.newCall_enumerate_1 _) (fun obj => F.args_object_init_2 obj _) F.entry_enumerate_new (made B) ⟨h1, ?_⟩
  have sz : (s.heap.push o).objs.size = s.heap.objs.size + 1 := by rw [Heap.size_push]
  show _ ∧ _
  rw [sz]
  have en := Heap.get?_push_size (s.heap.push o) (o := { cls := .type "enumerate", data := .fields #[.none, .bool false, .ref s.heap.objs.size, rawInt 0, .none, .none] }) rfl
  rw [sz] at en
  exact ⟨⟨_, en, rfl⟩, k _ en (Heap.get?_push_of_some _ (Heap.get?_push_size _ B.free)) fun b u y => Heap.get?_push_of_some _ (Heap.get?_push_of_some _ y)⟩
end
/-- the tuple at a, each item in a new pair with its number -/
def IteT (K : PySem.W.Frag) (a : Addr) : It :=
  ⟨fun i H => ∃ (ts : List V) (x : V), SqT K H a ts ∧ ts[i]? = some x, fun i H v H' => ∃ T x, v = .ref T ∧ H T = none ∧ H' = upd H T (.tup [.int (i : Nat), x]) ∧ ∀ ts, SqT K H a ts → ts[i]? = some x, fun i H => ∃ ts : List V, SqT K H a ts ∧ ts.length = i⟩
theorem tup_inj {X : Cx} {pins : List (Addr × Obj)} {σ : L2.St} {H : Hp} {s : Shared} {a : Addr} {xs ys : List V} (I : Inv X pins σ H s) (h1 : SqT X.K H a xs) (h2 : SqT X.K H a ys) : xs = ys := by
  obtain ⟨i1, r1, ⟨o1, g1, c1, n1, d1⟩, _⟩ := I.tuple h1
  obtain ⟨i2, r2, ⟨o2, g2, c2, n2, d2⟩, _⟩ := I.tuple h2
  rw [g1] at g2
  have e := Option.some.inj g2
  subst e
  rw [d1] at d2
  injection d2 with e1 _
  have e3 : i1 = i2 := by simpa using e1
  subst e3
  exact Vals.inj r1 r2
theorem turn {P : Program} {w : World} {K : PySem.W.Frag} {elts : List Expr} {kk : Nat} {tpos : Pos} (a e it : Addr) :
    Turn P w K (.Tuple elts kk tpos) (IteT K a) [e, it] e (fun i h => (∃ old, IsEnum h e it ((i : Nat) : Int) old) ∧ h.IsTupleIter it a i ∧ e ≠ it ∧ a ≠ e ∧ a ≠ it) where
  mem := by simp
  obj := fun i h st b hb => by
    obtain ⟨⟨old, he⟩, ⟨o, ho, hc, hd⟩, _⟩ := st
    rcases (show b = e ∨ b = it by simpa using hb) with z | z
    · rw [z]
      exact ⟨_, he, fun v q => nomatch q⟩
    · rw [z]
      exact ⟨o, ho, fun v q => by rw [hd] at q; cases q⟩
  keep := fun i h h' st k => by
    obtain ⟨⟨old, he⟩, ⟨o, ho, hc, hd⟩, n1, n2, n3⟩ := st
    exact ⟨⟨old, k e (by simp) _ he⟩, ⟨o, k it (by simp) _ ho, hc, hd⟩, n1, n2, n3⟩
  item := by
    intro X hP hw hK hc i pins s σ H E I hf st hg
    subst hP hw hK
    obtain ⟨⟨old, he⟩, hit, n1, n2, n3⟩ := st
    obtain ⟨xs, x, hq, hx⟩ := hg
    obtain ⟨its, rv, p, _⟩ := I.tuple hq
    obtain ⟨u, hu, ru⟩ := rv.get hx
    have hel : e < s.heap.objs.size := Heap.lt_size he
    have hil : it < s.heap.objs.size := by
      obtain ⟨_, q, _⟩ := hit
      exact Heap.lt_size q
    have hlt : i < its.toArray.size := by
      have := (List.getElem?_eq_some_iff.mp hu).1
      simpa using this
    have hh : X.A.in1.handled = none := I.ok.hd hc
    have DT := Draws.tuple (prog := X.prog) (w := X.w) hh it a n3 its.toArray
    refine wpAny_pyNext_enum_itemD DT he ⟨hit, p⟩ hlt n1 (by simp [n1, Ne.symm n2]) fun y h1 tk hy ho hst hT hsz hk => ?_
    have ey : y = u := by
      have q : its.toArray[i]? = some u := by simpa using hu
      exact Option.some.inj (hy.symm.trans q)
    subst ey
    refine ⟨_, rfl, wpAny_letOwnedTupleGo_enum (s := { s with heap := h1, toks := tk + 1 }) ho fun h2 he2 sb => ?_⟩
    have hT2 : h2.get? s.heap.objs.size = some { cls := .type "tuple", data := .seq #[.int i tk, y] } := (sb.2 _ (Nat.ne_of_gt hel)).trans hT
    have new : ObjOk X.prog X.w (upd H s.heap.objs.size (.tup [.int (i : Nat), x])) h2 s.heap.objs.size (.tup [.int (i : Nat), x]) :=
      ⟨show 2 ≤ sizeLine by decide, [.int i tk, y], .cons ⟨_, rfl⟩ (.cons ru .nil), ⟨_, hT2, rfl, _, rfl⟩⟩
    have I1 : Inv X pins σ (upd H s.heap.objs.size (.tup [.int (i : Nat), x])) { s with heap := h2, toks := tk + 1 } :=
      I.turnedNew (ch := [e, it]) (fun b ob hb q => (sb.2 b (fun z => hb (by simp [z]))).trans (hk b ob (fun z => hb (by simp [z])) (fun z => hb (by simp [z])) q)) hf (Nat.le_refl _) new
    obtain ⟨oi, g1, g2, g3⟩ := hst.1
    refine ⟨.ref s.heap.objs.size, _, I1, rfl, ⟨_, x, rfl, I.hok.fresh (Nat.le_refl _), rfl, fun ys hys => by rw [tup_inj I hys hq]; exact hx⟩, ⟨⟨y, ?_⟩, ⟨oi, (sb.2 it (Ne.symm n1)).trans g1, g2, g3⟩, n1, n2, n3⟩, fun b hb => ?_⟩
    · rw [show ((i + 1 : Nat) : Int) = (i : Int) + 1 by omega]
      exact he2
    · have hb2 : b < s.heap.objs.size := by
        rcases (show b = e ∨ b = it by simpa using hb) with z | z
        · rw [z]
          exact hel
        · rw [z]
          exact hil
      rw [upd_ne (Nat.ne_of_lt hb2)]
      exact (hf b hb).1
  done := by
    intro X hP hw hK hc i pins s σ H E I hf st hg
    subst hP hw hK
    obtain ⟨⟨old, he⟩, hit, n1, n2, n3⟩ := st
    obtain ⟨xs, hq, hx⟩ := hg
    obtain ⟨its, rv, p, _⟩ := I.tuple hq
    obtain ⟨f0, f1, f2, f3, f4, f5⟩ := hf it (by simp)
    have hl := rv.length
    have hn : its.toArray.size = i := by
      rw [List.size_toArray]
      omega
    have hh : X.A.in1.handled = none := I.ok.hd hc
    have DT := Draws.tuple (prog := X.prog) (w := X.w) hh it a n3 its.toArray
    refine wpAny_pyNext_enum_endD DT he ⟨?_, p⟩ fun h1 eb => ⟨rfl, I.turned (t' := s.toks) (fun b o hb q => eb b o hb q) f0 f1 f3 f4 f5⟩
    rw [hn]
    exact hit
  self := fun A i s Q E st h => by
    obtain ⟨⟨_, he⟩, _⟩ := st
    exact wpAny_pyIter_enum he h
def iEnumT (K : PySem.W.Frag) (ta : TA) : TI := fun σ H R => ta σ H fun vs H1 => ∃ a xs, vs = [.ref a] ∧ SqT K H1 a xs ∧ R (IteT K a) H1
theorem pi_enumT {X : Cx} {e : Expr} {ta : TA} {p pos tpos : Pos} {elts : List Expr} {kk : Nat} (hg : Gl X "enumerate") (hm : X.mg "enumerate" = none) (ha : PA X [e] ta) (hs : starEach [e] X.env = [(false, eval e X.env)] := by rfl) :
    PI X (.Tuple elts kk tpos) (.Call (.Name "enumerate" p) [e] [] pos) (iEnumT X.K ta) := by
  refine ⟨fun pins s σ H R I h => ?_⟩
  refine Call_ (ld_blt I hg hm boot_enumerate (PyProof.Rows.callWith_type1 (thn (ha.run pos pins s σ H _ I h) fun us s1 ⟨vs, H1, I1, r1, y1⟩ => ?_) hs rfl))
  obtain ⟨a, xs, ex, hq, q⟩ := y1
  subst ex
  cases r1 with
  | cons r rr =>
    cases rr
    cases r
    obtain ⟨its, rv, p2, _⟩ := I1.tuple hq
    have hal : a < s1.heap.objs.size := by
      obtain ⟨o, g, _⟩ := p2
      exact Heap.lt_size g
    refine call_made (begins_tuple a its.toArray) p2 fun h2 he hit hk => wpAny_pyIter_enum he ?_
    have I2 : Inv X pins σ H1 { s1 with heap := h2 } := I1.kept (t' := s1.toks) hk
    refine ⟨s1.heap.objs.size + 1, [s1.heap.objs.size + 1, s1.heap.objs.size], _, _, H1, rfl, I2, turn a (s1.heap.objs.size + 1) s1.heap.objs.size, ⟨⟨.none, he⟩, ⟨_, hit, rfl, rfl⟩, Nat.succ_ne_self _, Nat.ne_of_lt (Nat.lt_succ_of_lt hal), Nat.ne_of_lt hal⟩, fun b hb => ?_, q⟩
    have hle : s1.heap.objs.size ≤ b := by
      rcases (show b = s1.heap.objs.size + 1 ∨ b = s1.heap.objs.size by simpa using hb) with z | z
      · rw [z]
        exact Nat.le_add_right _ _
      · rw [z]
        exact Nat.le_refl _
    exact I1.fpOk hle (I1.hok.fresh hle)
end EnT

namespace K1
open PySem PySem.Spec PyProof.Rows L2 Evl
def topS (i : Nat) : Stmt := PySem.Challenge.pw_ringstairs_k33_maps_of_classes_are_round.main.body.getD i (.Pass ⟨0, 0, 0, 0⟩)
abbrev sWall : Stmt := topS 1
abbrev nWall : List Str := ["k"]
theorem scWall : FnScope nWall ["k"] (defScope sWall) := ⟨rfl, rfl, rfl, by decide +kernel, rfl, by decide +kernel, by decide +kernel⟩
abbrev sIsInteger : Stmt := topS 10
abbrev nIsInteger : List Str := ["value"]
theorem scIsInteger : FnScope nIsInteger ["value"] (defScope sIsInteger) := ⟨rfl, rfl, rfl, by decide +kernel, rfl, by decide +kernel, by decide +kernel⟩
abbrev sCheckInteger : Stmt := topS 11
abbrev nCheckInteger : List Str := ["value"]
theorem scCheckInteger : FnScope nCheckInteger ["value"] (defScope sCheckInteger) := ⟨rfl, rfl, rfl, by decide +kernel, rfl, by decide +kernel, by decide +kernel⟩
abbrev sCheckDigits : Stmt := topS 12
abbrev nCheckDigits : List Str := ["numbers", "number"]
theorem scCheckDigits : FnScope nCheckDigits ["numbers"] (defScope sCheckDigits) := ⟨rfl, rfl, rfl, by decide +kernel, rfl, by decide +kernel, by decide +kernel⟩
abbrev sIsRound : Stmt := topS 15
abbrev nIsRound : List Str := ["value", "many", "number"]
theorem scIsRound : FnScope nIsRound ["value"] (defScope sIsRound) := ⟨rfl, rfl, rfl, by decide +kernel, rfl, by decide +kernel, by decide +kernel⟩
abbrev sValueIn : Stmt := topS 17
abbrev nValueIn : List Str := ["values", "i", "rest"]
theorem scValueIn : FnScope nValueIn ["values", "i"] (defScope sValueIn) := ⟨rfl, rfl, rfl, by decide +kernel, rfl, by decide +kernel, by decide +kernel⟩
abbrev sShiftIn : Stmt := topS 18
abbrev nShiftIn : List Str := ["values", "many"]
theorem scShiftIn : FnScope nShiftIn ["values"] (defScope sShiftIn) := ⟨rfl, rfl, rfl, by decide +kernel, rfl, by decide +kernel, by decide +kernel⟩
abbrev sFallsIn : Stmt := topS 19
abbrev nFallsIn : List Str := ["values", "many", "late", "early"]
theorem scFallsIn : FnScope nFallsIn ["values"] (defScope sFallsIn) := ⟨rfl, rfl, rfl, by decide +kernel, rfl, by decide +kernel, by decide +kernel⟩
abbrev sCountedIn : Stmt := topS 20
abbrev nCountedIn : List Str := ["values", "a", "b", "many", "rounds", "rest", "value", "often"]
theorem scCountedIn : FnScope nCountedIn ["values", "a", "b"] (defScope sCountedIn) := ⟨rfl, rfl, rfl, by decide +kernel, rfl, by decide +kernel, by decide +kernel⟩
abbrev sValuesBack : Stmt := topS 21
abbrev nValuesBack : List Str := ["values", "many", "spots", "spot", "value", "rest"]
theorem scValuesBack : FnScope nValuesBack ["values"] (defScope sValuesBack) := ⟨rfl, rfl, rfl, by decide +kernel, rfl, by decide +kernel, by decide +kernel⟩
abbrev sAreEqual : Stmt := topS 22
abbrev nAreEqual : List Str := ["values", "others", "places", "i"]
theorem scAreEqual : FnScope nAreEqual ["values", "others"] (defScope sAreEqual) := ⟨rfl, rfl, rfl, by decide +kernel, rfl, by decide +kernel, by decide +kernel⟩
abbrev sToldRound : Stmt := topS 23
abbrev nToldRound : List Str := ["values"]
theorem scToldRound : FnScope nToldRound ["values"] (defScope sToldRound) := ⟨rfl, rfl, rfl, by decide +kernel, rfl, by decide +kernel, by decide +kernel⟩
abbrev sLDice : Stmt := topS 25
abbrev nLDice : List Str := ["_law_script", "_law_at", "_law_cell", "_law_great", "_law_left", "_law_mixed"]
theorem scLDice : FnScope nLDice ["_law_script", "_law_at"] (defScope sLDice) := ⟨rfl, rfl, rfl, by decide +kernel, rfl, by decide +kernel, by decide +kernel⟩
abbrev sLRoll : Stmt := topS 26
abbrev nLRoll : List Str := ["_law_dice_here", "_law_total", "_law_size", "_law_drawn", "_law_one", "_law_two"]
theorem scLRoll : FnScope nLRoll ["_law_dice_here", "_law_total"] (defScope sLRoll) := ⟨rfl, rfl, rfl, by decide +kernel, rfl, by decide +kernel, by decide +kernel⟩
abbrev sLOneOf : Stmt := topS 27
abbrev nLOneOf : List Str := ["_law_dice_here", "_law_items"]
theorem scLOneOf : FnScope nLOneOf ["_law_dice_here", "_law_items"] (defScope sLOneOf) := ⟨rfl, rfl, rfl, by decide +kernel, rfl, by decide +kernel, by decide +kernel⟩
abbrev sLCommon : Stmt := topS 28
abbrev nLCommon : List Str := ["_law_one", "_law_other"]
theorem scLCommon : FnScope nLCommon ["_law_one", "_law_other"] (defScope sLCommon) := ⟨rfl, rfl, rfl, by decide +kernel, rfl, by decide +kernel, by decide +kernel⟩
abbrev sLOrder : Stmt := topS 29
abbrev nLOrder : List Str := ["_law_ring_here"]
theorem scLOrder : FnScope nLOrder ["_law_ring_here"] (defScope sLOrder) := ⟨rfl, rfl, rfl, by decide +kernel, rfl, by decide +kernel, by decide +kernel⟩
abbrev sLRing : Stmt := topS 30
abbrev nLRing : List Str := ["_law_dice_here", "_law_most", "_law_n"]
theorem scLRing : FnScope nLRing ["_law_dice_here", "_law_most"] (defScope sLRing) := ⟨rfl, rfl, rfl, by decide +kernel, rfl, by decide +kernel, by decide +kernel⟩
abbrev sLRingOf : Stmt := topS 31
abbrev nLRingOf : List Str := ["_law_dice_here", "_law_k", "_law_times", "_law_more", "_law_steps", "_law_one"]
theorem scLRingOf : FnScope nLRingOf ["_law_dice_here", "_law_k", "_law_times"] (defScope sLRingOf) := ⟨rfl, rfl, rfl, by decide +kernel, rfl, by decide +kernel, by decide +kernel⟩
abbrev sLChain : Stmt := topS 32
abbrev nLChain : List Str := ["_law_dice_here", "_law_rings", "_law_most", "_law_k", "_law_turn"]
theorem scLChain : FnScope nLChain ["_law_dice_here", "_law_rings", "_law_most"] (defScope sLChain) := ⟨rfl, rfl, rfl, by decide +kernel, rfl, by decide +kernel, by decide +kernel⟩
abbrev sLEqualChain : Stmt := topS 33
abbrev nLEqualChain : List Str := ["_law_dice_here", "_law_rings", "_law_k", "_law_turn"]
theorem scLEqualChain : FnScope nLEqualChain ["_law_dice_here", "_law_rings", "_law_k"] (defScope sLEqualChain) := ⟨rfl, rfl, rfl, by decide +kernel, rfl, by decide +kernel, by decide +kernel⟩
abbrev sLTuple : Stmt := topS 34
abbrev nLTuple : List Str := ["_law_dice_here", "_law_chain_here", "_law_found", "_law_n", "_law_s"]
theorem scLTuple : FnScope nLTuple ["_law_dice_here", "_law_chain_here"] (defScope sLTuple) := ⟨rfl, rfl, rfl, by decide +kernel, rfl, by decide +kernel, by decide +kernel⟩
abbrev sLGrown : Stmt := topS 35
abbrev nLGrown : List Str := ["_law_heap_here", "_law_ring_here", "_law_x", "_law_n", "_law_s", "_law_found", "_law_column", "_law_height", "_law_can_rise"]
theorem scLGrown : FnScope nLGrown ["_law_heap_here", "_law_ring_here", "_law_x"] (defScope sLGrown) := ⟨rfl, rfl, rfl, by decide +kernel, rfl, by decide +kernel, by decide +kernel⟩
abbrev sLHeap : Stmt := topS 36
abbrev nLHeap : List Str := ["_law_chain_here", "_law_x", "_law_heap_here", "_law_ring_here", "_law_place"]
theorem scLHeap : FnScope nLHeap ["_law_chain_here", "_law_x"] (defScope sLHeap) := ⟨rfl, rfl, rfl, by decide +kernel, rfl, by decide +kernel, by decide +kernel⟩
abbrev sLRich : Stmt := topS 37
abbrev nLRich : List Str := ["_law_heap_here", "_law_rings", "_law_total", "_law_k", "_law_rows"]
theorem scLRich : FnScope nLRich ["_law_heap_here", "_law_rings", "_law_total"] (defScope sLRich) := ⟨rfl, rfl, rfl, by decide +kernel, rfl, by decide +kernel, by decide +kernel⟩
abbrev sLH : Stmt := topS 38
abbrev nLH : List Str := ["_law_chain_here", "_law_total", "_law_x", "_law_a", "_law_b", "_law_moved_tuple", "_law_ring_here", "_law_place"]
theorem scLH : FnScope nLH ["_law_chain_here", "_law_total", "_law_x", "_law_a", "_law_b"] (defScope sLH) := ⟨rfl, rfl, rfl, by decide +kernel, rfl, by decide +kernel, by decide +kernel⟩
abbrev sLMap : Stmt := topS 39
abbrev nLMap : List Str := ["_law_chain_here", "_law_total", "_law_x", "_law_first", "_law_last", "_law_size", "_law_i", "_law_values", "_law_j", "_law_n", "_law_s"]
theorem scLMap : FnScope nLMap ["_law_chain_here", "_law_total", "_law_x", "_law_first", "_law_last"] (defScope sLMap) := ⟨rfl, rfl, rfl, by decide +kernel, rfl, by decide +kernel, by decide +kernel⟩
abbrev sLMultiple : Stmt := topS 40
abbrev nLMultiple : List Str := ["_law_numbers", "_law_found", "_law_one"]
theorem scLMultiple : FnScope nLMultiple ["_law_numbers"] (defScope sLMultiple) := ⟨rfl, rfl, rfl, by decide +kernel, rfl, by decide +kernel, by decide +kernel⟩
abbrev sLRight : Stmt := topS 41
abbrev nLRight : List Str := ["_law_dice_here", "_law_chain_here", "_law_size", "_law_x", "_law_total", "_law_values", "_law_row", "_law_one", "_law_lets", "_law_turn", "_law_a", "_law_b", "_law_ring_here", "_law_i"]
theorem scLRight : FnScope nLRight ["_law_dice_here"] (defScope sLRight) := ⟨rfl, rfl, rfl, by decide +kernel, rfl, by decide +kernel, by decide +kernel⟩
abbrev sLaw : Stmt := topS 42
abbrev nLaw : List Str := ["_law_script", "_law_at"]
theorem scLaw : FnScope nLaw ["_law_script"] (defScope sLaw) := ⟨rfl, rfl, rfl, by decide +kernel, rfl, by decide +kernel, by decide +kernel⟩
/-- a def of the text at its place, and how its arguments bind -/
structure DefAt (K : PySem.W.Frag) (mg : Str → Option Value) (x : Str) (st : Stmt) (ps : List Str) (f : Addr) (fd : FuncData) : Prop where
  F : Fun K x x st f fd
  g : mg x = some (.ref f)
  b : Binds K fd ps []
/-- what the top has written -/
structure Txt (K : PySem.W.Frag) (mg : Str → Option Value) : Prop where
  z_abs : mg "abs" = none
  z_all : mg "all" = none
  z_bool : mg "bool" = none
  z_dict : mg "dict" = none
  z_enumerate : mg "enumerate" = none
  z_int : mg "int" = none
  z_isinstance : mg "isinstance" = none
  z_len : mg "len" = none
  z_list : mg "list" = none
  z_max : mg "max" = none
  z_min : mg "min" = none
  z_range : mg "range" = none
  z_sorted : mg "sorted" = none
  z_sum : mg "sum" = none
  z_tuple : mg "tuple" = none
  z_zip : mg "zip" = none
  v_BOUND : ∃ t, mg "BOUND" = some (.int (10 ^ 60) t)
  v_MAX_ROUND : ∃ t, mg "MAX_ROUND" = some (.int 60 t)
  d_is_integer : ∃ f fd, DefAt K mg "is_integer" sIsInteger ["value"] f fd
  d_check_integer : ∃ f fd, DefAt K mg "check_integer" sCheckInteger ["value"] f fd
  d_is_round : ∃ f fd, DefAt K mg "is_round" sIsRound ["value"] f fd
  d_shift_in : ∃ f fd, DefAt K mg "shift_in" sShiftIn ["values"] f fd
  d_falls_in : ∃ f fd, DefAt K mg "falls_in" sFallsIn ["values"] f fd
  d_counted_in : ∃ f fd, DefAt K mg "counted_in" sCountedIn ["values", "a", "b"] f fd
  d_l_dice : ∃ f fd, DefAt K mg "_law_dice" sLDice ["_law_script", "_law_at"] f fd
  d_l_roll : ∃ f fd, DefAt K mg "_law_roll" sLRoll ["_law_dice_here", "_law_total"] f fd
  d_l_one_of : ∃ f fd, DefAt K mg "_law_one_of" sLOneOf ["_law_dice_here", "_law_items"] f fd
  d_l_common : ∃ f fd, DefAt K mg "_law_common" sLCommon ["_law_one", "_law_other"] f fd
  d_l_order : ∃ f fd, DefAt K mg "_law_order" sLOrder ["_law_ring_here"] f fd
  d_l_ring : ∃ f fd, DefAt K mg "_law_ring" sLRing ["_law_dice_here", "_law_most"] f fd
  d_l_ring_of : ∃ f fd, DefAt K mg "_law_ring_of" sLRingOf ["_law_dice_here", "_law_k", "_law_times"] f fd
  d_l_chain : ∃ f fd, DefAt K mg "_law_chain" sLChain ["_law_dice_here", "_law_rings", "_law_most"] f fd
  d_l_equal_chain : ∃ f fd, DefAt K mg "_law_equal_chain" sLEqualChain ["_law_dice_here", "_law_rings", "_law_k"] f fd
  d_l_tuple : ∃ f fd, DefAt K mg "_law_tuple" sLTuple ["_law_dice_here", "_law_chain_here"] f fd
  d_l_grown : ∃ f fd, DefAt K mg "_law_grown" sLGrown ["_law_heap_here", "_law_ring_here", "_law_x"] f fd
  d_l_heap : ∃ f fd, DefAt K mg "_law_heap" sLHeap ["_law_chain_here", "_law_x"] f fd
  d_l_rich : ∃ f fd, DefAt K mg "_law_rich" sLRich ["_law_heap_here", "_law_rings", "_law_total"] f fd
  d_l_h : ∃ f fd, DefAt K mg "_law_h" sLH ["_law_chain_here", "_law_total", "_law_x", "_law_a", "_law_b"] f fd
  d_l_map : ∃ f fd, DefAt K mg "_law_map" sLMap ["_law_chain_here", "_law_total", "_law_x", "_law_first", "_law_last"] f fd
  d_l_multiple : ∃ f fd, DefAt K mg "_law_multiple" sLMultiple ["_law_numbers"] f fd
  d_l_right : ∃ f fd, DefAt K mg "_law_right" sLRight ["_law_dice_here"] f fd
end K1

namespace K1
open PySem PySem.Spec PyProof.Rows L2 Evl
/-! ### great powers -/
def CPowW (i j : Int) : Prop := 0 ≤ j ∧ (Builtin.Int.intBits i : Int) * j ≤ 2 ^ 27
theorem op_powW {X : Cx} : OpR X (binaryOp .Pow) (rI CPowW fun i j => .int (i ^ j.toNat)) := opI fun _ _ _ _ _ _ _ hc q => pow_int hc.1 hc.2 q
/-! ### values that are looked at -/
/-- no int -/
inductive NotInt (K : PySem.W.Frag) (H : Hp) : V → Prop where
  | bl (b : Bool) : NotInt K H (.bl b)
  | non : NotInt K H .non
  | str (x : Str) : NotInt K H (.str x)
  | lst {a : Addr} {xs : List V} (e : H a = some (.lst xs)) : NotInt K H (.ref a)
  | tup {a : Addr} {xs : List V} (e : H a = some (.tup xs)) : NotInt K H (.ref a)
  | dK {a : Addr} {kvs : List (Key × V)} (e : H a = some (.dK kvs)) : NotInt K H (.ref a)
inductive IntB (K : PySem.W.Frag) (H : Hp) : V → Bool → Prop where
  | int (i : Int) : IntB K H (.int i) (decide (-(10 ^ 60) < i) && decide (i < 10 ^ 60))
  | no {x : V} (h : NotInt K H x) : IntB K H x false
/-- between two ints -/
inductive BtwB (K : PySem.W.Frag) (H : Hp) (lo hi : Int) : V → Bool → Prop where
  | int (i : Int) : BtwB K H lo hi (.int i) ((decide (-(10 ^ 60) < i) && decide (i < 10 ^ 60)) && (decide (lo ≤ i) && decide (i ≤ hi)))
  | no {x : V} (h : NotInt K H x) : BtwB K H lo hi x false
theorem NotInt.ty {K : PySem.W.Frag} {H : Hp} {x : V} (h : NotInt K H x) : ∃ t : Value, TyX K H x t ∧ ((PySem.W.kitOne K t (.type "int") = some false) ∨ (t = .type "bool")) := by
  cases h with
  | bl b => exact ⟨_, .base (.bl b), .inr rfl⟩
  | non => exact ⟨_, .base .non, .inl (kit_ty (by decide +kernel))⟩
  | str x => exact ⟨_, .base (.str x), .inl (kit_ty (by decide +kernel))⟩
  | lst e => exact ⟨_, .base (.lst e), .inl (kit_ty (by decide +kernel))⟩
  | tup e => exact ⟨_, .base (.tup e), .inl (kit_ty (by decide +kernel))⟩
  | dK e => exact ⟨_, .base (.dK e), .inl (kit_ty (by decide +kernel))⟩
theorem NotInt.mono {K : PySem.W.Frag} {H H' : Hp} {x : V} (e : Ex H H') (h : NotInt K H x) : NotInt K H' x := by
  cases h with
  | bl b => exact .bl b
  | non => exact .non
  | str x => exact .str x
  | lst q => exact .lst (e _ _ q)
  | tup q => exact .tup (e _ _ q)
  | dK q => exact .dK (e _ _ q)
section
variable {P : Program} {w : World} {K : PySem.W.Frag} {mg : Str → Option Value} {base : Heap}
def spIsInteger (K : PySem.W.Frag) : Sp := fun vs H Q _ => ∃ x b, vs = [x] ∧ IntB K H x b ∧ ∀ H', Ex H H' → Q (.bl b) H'
theorem ok_is_integer (T : Txt K mg) {f : Addr} {fd : FuncData} (D : DefAt K mg "is_integer" sIsInteger ["value"] f fd) : FnOk P w K mg base CX0 1 f fd ["value"] (spIsInteger K) := by
  refine D.F.ok scIsInteger (fun vs H Q E h => ?_) (fun cdv A outer s H vs Q E hr h => ?_)
  · obtain ⟨x, b, rfl, _⟩ := h
    rfl
  · obtain ⟨x, b, rfl, hb, q⟩ := h
    obtain ⟨tB, vB⟩ := T.v_BOUND
    refine ⟨_, pss_one (ps_ret (pe_and (pe_callB call_isi (by rfl) T.z_isinstance (by decide +kernel) (pa_cons (pv 0) (pa_cons (pe_bltn (v := .ty "int") (by rfl) T.z_int (by decide +kernel) rfl) pa_nil)))
      (pe_and (pe_not (pe_callB call_isi (by rfl) T.z_isinstance (by decide +kernel) (pa_cons (pv 0) (pa_cons (pe_bltn (v := .ty "bool") (by rfl) T.z_bool (by decide +kernel) rfl) pa_nil))))
      (pe_one (pe_chain op_lt op_lt (pe_un un_neg (pe_glob (v := .int (10 ^ 60)) rfl vB ⟨_, rfl⟩)) (pv 0) (pe_glob (v := .int (10 ^ 60)) rfl vB ⟨_, rfl⟩)))))), ?_⟩
    cases hb with
    | int i =>
      refine ⟨.int i, rfl, .int i, .ty "int", .type "int", .type "int", true, rfl, .ty _, .base (.int i), kit_ty (by decide +kernel), true, rfl, iteT ?_⟩
      refine ⟨.int i, rfl, .int i, .ty "bool", .type "int", .type "bool", false, rfl, .ty _, .base (.int i), kit_ty (by decide +kernel), false, rfl, true, rfl, iteT ?_⟩
      refine ⟨_, rfl, .int i, rfl, _, _, rfl, rfl, _, rfl, ite2 (fun c => ?_) (fun c => ?_)⟩
      · refine ⟨_, _, rfl, rfl, ?_⟩
        have e : decide (-(10 ^ 60) < i) = true := c
        rw [e, Bool.true_and] at q
        exact q _ (Ex.refl _)
      · have e : decide (-(10 ^ 60) < i) = false := Bool.eq_false_iff.mpr c
        rw [e, Bool.false_and] at q
        exact q _ (Ex.refl _)
    | no hn =>
      obtain ⟨t, ty, h | rfl⟩ := hn.ty
      · exact ⟨x, rfl, x, .ty "int", t, .type "int", false, rfl, .ty _, ty, h, false, rfl, iteF (q _ (Ex.refl _))⟩
      · refine ⟨x, rfl, x, .ty "int", .type "bool", .type "int", true, rfl, .ty _, ty, kit_ty (by decide +kernel), true, rfl, iteT ?_⟩
        exact ⟨x, rfl, x, .ty "bool", .type "bool", .type "bool", true, rfl, .ty _, ty, kit_ty (by decide +kernel), true, rfl, false, rfl, iteF (q _ (Ex.refl _))⟩
def spIsBetween (K : PySem.W.Frag) : Sp := fun vs H Q _ => ∃ x lo hi b, vs = [x, .int lo, .int hi] ∧ BtwB K H lo hi x b ∧ ∀ H', Ex H H' → Q (.bl b) H'
end
end K1

namespace K1
open PySem PySem.Spec PyProof.Rows L2 Evl
/-! ### the dice -/
def Dice (H : Hp) (d : Addr) : Prop := ∃ l m c : Int, H d = some (.lst [.int l, .int m, .int c])
/-- all but the dice is as it was -/
def Keep (d : Addr) (H H' : Hp) : Prop := ∀ b o, b ≠ d → H b = some o → H' b = some o
theorem Keep.refl (d : Addr) (H : Hp) : Keep d H H := fun _ _ _ h => h
theorem Keep.trans {d : Addr} {H H1 H2 : Hp} (a : Keep d H H1) (b : Keep d H1 H2) : Keep d H H2 := fun x o n h => b x o n (a x o n h)
theorem Keep.ex {d : Addr} {H H' : Hp} (e : Ex H H') : Keep d H H' := fun b o _ h => e b o h
theorem Keep.dice {d : Addr} {H : Hp} {o : HO} : Keep d H (upd H d o) := fun b u n h => by
  rw [upd_ne n]
  exact h
theorem Keep.new {d p : Addr} {H : Hp} {o : HO} (h : H p = none) : Keep d H (upd H p o) := .ex (.new h)
/-- a thing that H did not know may change -/
theorem Keep.mut {d p : Addr} {H H' : Hp} {o : HO} (e : Keep d H H') (h : H p = none) : Keep d H (upd H' p o) := fun b u n q => by
  rw [upd_ne (ne_of_none q h)]
  exact e b u n q
theorem Keep.free {d p : Addr} {H H' : Hp} (e : Keep d H H') (n : p ≠ d) (h : H' p = none) : H p = none := by
  cases q : H p with
  | none => rfl
  | some o =>
    rw [e p o n q] at h
    cases h
theorem Dice.ex {d : Addr} {H H' : Hp} (e : Ex H H') (h : Dice H d) : Dice H' d := by
  obtain ⟨l, m, c, q⟩ := h
  exact ⟨l, m, c, e _ _ q⟩
theorem Dice.upd {d p : Addr} {H : Hp} {o : HO} (n : d ≠ p) (h : Dice H d) : Dice (L2.upd H p o) d := by
  obtain ⟨l, m, c, q⟩ := h
  exact ⟨l, m, c, by rw [upd_ne n]; exact q⟩
theorem Dice.ne_new {d p : Addr} {H : Hp} (h : Dice H d) (n : H p = none) : d ≠ p := by
  obtain ⟨l, m, c, q⟩ := h
  exact ne_of_none q n
theorem Dice.ne_tup {d p : Addr} {H : Hp} {xs : List V} (h : Dice H d) (n : H p = some (.tup xs)) : p ≠ d := by
  obtain ⟨l, m, c, q⟩ := h
  exact ne_of n q (by intro z; cases z)
theorem Keep.tup {d p : Addr} {H H' : Hp} {xs : List V} (e : Keep d H H') (h : Dice H d) (n : H p = some (.tup xs)) : H' p = some (.tup xs) := e _ _ (h.ne_tup n) n
theorem wide_n {n : Int} (h : 1 ≤ n) (h2 : n ≤ 10 ^ 12) {i : Int} : CDivW i n := wide_div (b := 40) (by omega) (by omega) (by decide) (by decide)
section
variable {P : Program} {w : World} {K : PySem.W.Frag} {mg : Str → Option Value} {base : Heap}
def spRoll : Sp := fun vs H Q _ => ∃ (d : Addr) (n : Int), vs = [.ref d, .int n] ∧ Dice H d ∧ 1 ≤ n ∧ n ≤ 10 ^ 12 ∧ ∀ (r : Int) H', 0 ≤ r → r < n → Dice H' d → Keep d H H' → Q (.int r) H'
theorem ok_roll (T : Txt K mg) {f : Addr} {fd : FuncData} (D : DefAt K mg "_law_roll" sLRoll ["_law_dice_here", "_law_total"] f fd) : FnOk P w K mg base CX0 1 f fd ["_law_dice_here", "_law_total"] spRoll := by
  refine D.F.ok scLRoll (fun vs H Q E h => ?_) (fun cdv A outer s H vs Q E hr h => ?_)
  · obtain ⟨d, n, rfl, _⟩ := h
    rfl
  · obtain ⟨d, n, rfl, ⟨l, m, c, hd⟩, h1, h2, q⟩ := h
    refine ⟨_, pss_cons (ps_set (i := 2) scLRoll.nd rfl (.inl rfl) (pe_callTy call_int1 (by rfl) T.z_int (by decide +kernel) (pa_cons (pv 1) pa_nil)))
      (pss_cons (ps_if (pt_cmpR op_gt (pe_ix ix_list (pv 0) pe_int (fun _ _ => rfl)) pe_int (nomark _))
        (pss_cons (ps_set (i := 3) scLRoll.nd rfl (.inl rfl) (pe_op op_mod (pe_ix ix_list (pv 0) pe_int (fun _ _ => rfl)) (pv 2)))
        (pss_cons (ps_asg (pe_op op_fdivW (pe_ix ix_list (pv 0) pe_int (fun _ _ => rfl)) (pv 2)) (pg_sub (pv 0) pe_int set_list))
        (pss_one (ps_ret (pe_callTy call_int1 (by rfl) T.z_int (by decide +kernel) (pa_cons (pv 3) pa_nil)))))) pss_nil)
      (pss_cons (ps_asg (pe_op op_add (pe_ix ix_list (pv 0) pe_int (fun _ _ => rfl)) pe_int) (pg_sub (pv 0) pe_int set_list))
      (pss_cons (ps_set (i := 4) scLRoll.nd rfl (.inl rfl) (pe_op op_mod (pe_op op_add (pe_ix ix_list (pv 0) pe_int (fun _ _ => rfl)) (pe_op op_mul pe_int (pe_ix ix_list (pv 0) pe_int (fun _ _ => rfl)))) pe_int))
      (pss_cons (ps_set (i := 5) scLRoll.nd rfl (.inl rfl) (pe_op op_add (pe_op op_mul (pe_op op_mod (pe_op op_mul (pv 4) (pv 4)) pe_int) (pv 4)) (pe_op op_mul pe_int (pe_ix ix_list (pv 0) pe_int (fun _ _ => rfl)))))
      (pss_cons (ps_set (i := 5) scLRoll.nd rfl (.inl rfl) (pe_op op_mod (pv 5) pe_int))
      (pss_one (ps_ret (pe_callTy call_int1 (by rfl) T.z_int (by decide +kernel) (pa_cons (pe_op op_mod (pe_op op_fdiv (pv 5) pe_int) (pv 2)) pa_nil))))))))), ?_⟩
    refine ⟨.int n, rfl, .inl ⟨n, rfl, ?_⟩⟩
    have S0 : SqL K H d [.int l, .int m, .int c] := SqL.of hd
    refine ⟨.ref d, rfl, d, _, 0, .int l, rfl, rfl, S0, rfl, l, 0, rfl, rfl, _, rfl, ite2 (fun cc => ?_) (fun cc => ?_)⟩
    · refine ⟨.ref d, rfl, d, _, 0, .int l, rfl, rfl, S0, rfl, .int n, rfl, l, n, rfl, rfl, by omega, ?_⟩
      refine ⟨.ref d, rfl, d, _, 0, .int l, rfl, rfl, S0, rfl, .int n, rfl, l, n, rfl, rfl, wide_n h1 h2, .ref d, rfl, d, _, 0, 0, rfl, rfl, hd, rfl, ?_⟩
      refine ⟨_, rfl, .inl ⟨l % n, rfl, ?_⟩⟩
      exact q _ _ (Int.emod_nonneg _ (by omega)) (Int.emod_lt_of_pos _ (by omega)) ⟨_, _, _, upd_same⟩ Keep.dice
    · refine ⟨.ref d, rfl, d, _, 2, .int c, rfl, rfl, S0, rfl, c, 1, rfl, rfl, .ref d, rfl, d, _, 2, 2, rfl, rfl, hd, rfl, ?_⟩
      generalize hH1 : upd H d _ = H1
      have hd1 : H1 d = some (.lst [.int l, .int m, .int (c + 1)]) := by
        rw [← hH1]
        exact upd_same
      have k1 : Keep d H H1 := by
        rw [← hH1]
        exact Keep.dice
      have S1 : SqL K H1 d [.int l, .int m, .int (c + 1)] := SqL.of hd1
      refine ⟨.ref d, rfl, d, _, 1, .int m, rfl, rfl, S1, rfl, .ref d, rfl, d, _, 2, .int (c + 1), rfl, rfl, S1, rfl, _, _, rfl, rfl, .inl (by decide), _, _, rfl, rfl, _, _, rfl, rfl, by show (0 : Int) < _; decide, ?_⟩
      refine ⟨_, rfl, _, rfl, (m + 1000409 * (c + 1)) % 2305843009213693951, (m + 1000409 * (c + 1)) % 2305843009213693951, rfl, rfl, .inl (by constructor <;> omega), _, _, rfl, rfl, by show (0 : Int) < _; decide, _, rfl, _, (m + 1000409 * (c + 1)) % 2305843009213693951, rfl, rfl, .inr (by constructor <;> omega), ?_⟩
      refine ⟨.ref d, rfl, d, _, 2, .int (c + 1), rfl, rfl, S1, rfl, _, _, rfl, rfl, .inl (by decide), _, _, rfl, rfl, ?_⟩
      refine ⟨_, rfl, _, _, rfl, rfl, by show (0 : Int) < _; decide, ?_⟩
      refine ⟨_, rfl, _, _, rfl, rfl, ⟨by decide, by decide⟩, .int n, rfl, _, n, rfl, rfl, by omega, .inl ⟨_, rfl, ?_⟩⟩
      exact q _ _ (Int.emod_nonneg _ (by omega)) (Int.emod_lt_of_pos _ (by omega)) ⟨_, _, _, hd1⟩ k1
def spOneOf (K : PySem.W.Frag) : Sp := fun vs H Q _ => ∃ (d a : Addr) (xs : List V), vs = [.ref d, .ref a] ∧ Dice H d ∧ H a = some (.lst xs) ∧ a ≠ d ∧ 1 ≤ xs.length ∧ xs.length ≤ 1000 ∧ ∀ x H', x ∈ xs → Dice H' d → Keep d H H' → Q x H'
theorem ok_one_of (T : Txt K mg) {f : Addr} {fd : FuncData} (D : DefAt K mg "_law_one_of" sLOneOf ["_law_dice_here", "_law_items"] f fd) : FnOk P w K mg base CX0 2 f fd ["_law_dice_here", "_law_items"] (spOneOf K) := by
  refine D.F.ok scLOneOf (fun vs H Q E h => ?_) (fun cdv A outer s H vs Q E hr h => ?_)
  · obtain ⟨d, a, xs, rfl, _⟩ := h
    rfl
  · obtain ⟨d, a, xs, rfl, hd, ha, nad, h1, h2, q⟩ := h
    obtain ⟨f1, fd1, D1⟩ := T.d_l_roll
    refine ⟨_, pss_one (ps_ret (pe_ix ix_list (pv 1) (pe_call (ok_roll T D1) hr (by rfl) D1.g D1.F.kp D1.b .nil pass0 (pa_cons (pv 0) (pa_cons (pe_callB call_len_seq (by rfl) T.z_len PySem.boot_len (pa_cons (pv 1) pa_nil)) pa_nil))) (fun _ _ => rfl))), ?_⟩
    refine ⟨.ref a, rfl, .ref d, rfl, .ref a, rfl, a, xs, rfl, .inl (SqL.of ha), d, _, rfl, hd, by omega, by omega, fun r H1 r0 r1 hd1 k1 => ?_⟩
    have hx : xs[r.toNat]? = some (xs[r.toNat]'(by omega)) := List.getElem?_eq_getElem _
    refine ⟨a, xs, r, _, rfl, rfl, SqL.of (k1 _ _ nad ha), ?_, q (xs[r.toNat]'(by omega)) H1 (List.getElem_mem _) hd1 k1⟩
    exact at_of (show r = ((r.toNat : Nat) : Int) by omega) hx
/-- a drawn ring -/
def RingAt (H : Hp) (most : Int) (x : V) (n s : Int) : Prop := ∃ t, x = .ref t ∧ H t = some (.tup [.int n, .int s]) ∧ 2 ≤ n ∧ n ≤ most ∧ 1 ≤ s ∧ s < n
def spRing : Sp := fun vs H Q _ => ∃ (d : Addr) (most : Int), vs = [.ref d, .int most] ∧ Dice H d ∧ 2 ≤ most ∧ most ≤ 1000 ∧ ∀ x n s H', RingAt H' most x n s → Dice H' d → Keep d H H' → Q x H'
theorem ok_ring (T : Txt K mg) {f : Addr} {fd : FuncData} (D : DefAt K mg "_law_ring" sLRing ["_law_dice_here", "_law_most"] f fd) : FnOk P w K mg base CX0 2 f fd ["_law_dice_here", "_law_most"] spRing := by
  refine D.F.ok scLRing (fun vs H Q E h => ?_) (fun cdv A outer s H vs Q E hr h => ?_)
  · obtain ⟨d, a, rfl, _⟩ := h
    rfl
  · obtain ⟨d, most, rfl, hd, h1, h2, q⟩ := h
    obtain ⟨f1, fd1, D1⟩ := T.d_l_roll
    refine ⟨_, pss_cons (ps_set (i := 2) scLRing.nd rfl (.inl rfl) (pe_op op_add pe_int (pe_call (ok_roll T D1) hr (by rfl) D1.g D1.F.kp D1.b .nil pass0 (pa_cons (pv 0) (pa_cons (pe_op op_sub (pv 1) pe_int) pa_nil)))))
      (pss_one (ps_ret (pe_tup (pa_cons (pv 2) (pa_cons (pe_op op_add pe_int (pe_call (ok_roll T D1) hr (by rfl) D1.g D1.F.kp D1.b .nil pass0 (pa_cons (pv 0) (pa_cons (pe_op op_sub (pv 2) pe_int) pa_nil)))) pa_nil))))), ?_⟩
    refine ⟨.ref d, rfl, .int most, rfl, _, _, rfl, rfl, d, _, rfl, hd, by omega, by omega, fun r H1 r0 r1 hd1 k1 => ?_⟩
    refine ⟨2, r, rfl, rfl, _, rfl, .ref d, rfl, .int (2 + r), rfl, _, _, rfl, rfl, d, _, rfl, hd1, by omega, by omega, fun r' H2 r0' r1' hd2 k2 => ?_⟩
    refine ⟨1, r', rfl, rfl, by show 2 ≤ sizeLine; decide, fun t ht => ?_⟩
    exact q _ (2 + r) (1 + r') _ ⟨t, rfl, upd_same, by omega, by omega, by omega, by omega⟩ (hd2.upd (hd2.ne_new ht)) ((k1.trans k2).trans (Keep.new ht))
end
end K1

namespace K1
open PySem PySem.Spec PyProof.Rows L2 Evl
section
variable {P : Program} {w : World} {K : PySem.W.Frag} {mg : Str → Option Value} {base : Heap}
def spDice (K : PySem.W.Frag) : Sp := fun vs H Q _ => ∃ (a : Addr) (ns : List Int) (i : Nat), vs = [.ref a, .int i] ∧ SqL K H a (ns.map V.int) ∧ ∀ p H', H p = none → Ex H H' → Dice H' p → Q (.ref p) H'
theorem ok_dice (T : Txt K mg) {f : Addr} {fd : FuncData} (D : DefAt K mg "_law_dice" sLDice ["_law_script", "_law_at"] f fd) : FnOk P w K mg base CX0 1 f fd ["_law_script", "_law_at"] (spDice K) := by
  refine D.F.ok scLDice (fun vs H Q E h => ?_) (fun cdv A outer s H vs Q E hr h => ?_)
  · obtain ⟨d, n, i, rfl, _⟩ := h
    rfl
  · obtain ⟨a, ns, i, rfl, hS, q⟩ := h
    refine ⟨_, pss_cons (ps_set (i := 2) scLDice.nd rfl (.inl rfl) (pe_op op_add (pe_op op_mul pe_int (pv 1)) pe_int))
      (pss_cut (ps_if (pt_cmpR op_lt (pv 1) (pe_callB call_len_seq (by rfl) T.z_len PySem.boot_len (pa_cons (pv 0) pa_nil)) (nomark _))
        (pss_one (ps_set (i := 2) scLDice.nd rfl (.inl rfl) (pe_ix ix_list (pv 0) (pv 1) (fun _ _ => rfl)))) pss_nil)
      (pss_cons (ps_set (i := 3) scLDice.nd rfl (.inl rfl) (pe_op op_mod (pe_callTy call_int1 (by rfl) T.z_int (by decide +kernel) (pa_cons (pe_callB call_abs (by rfl) T.z_abs (by decide +kernel) (pa_cons (pv 2) pa_nil)) pa_nil)) (pe_op op_powW (pe_op op_pow pe_int pe_int) pe_int)))
      (pss_cons (ps_set (i := 4) scLDice.nd rfl (.inl rfl) (pe_op op_fdivW (pv 3) (pe_op op_pow pe_int pe_int)))
      (pss_cons (ps_set (i := 5) scLDice.nd rfl (.inl rfl) (pe_op op_add (pe_op op_add (pe_op op_add (pe_op op_mul (pe_op op_mod (pv 3) pe_int) pe_int) (pe_op op_mul pe_int (pv 1))) (pe_op op_mul pe_int (pe_callTy call_int1 (by rfl) T.z_int (by decide +kernel) (pa_cons (pe_cmpR op_lt (pv 2) pe_int (nomark _)) pa_nil)))) pe_int))
      (pss_one (ps_ret (pe_lst (pa_cons (pv 4) (pa_cons (pe_op op_mod (pv 5) pe_int) (pa_cons pe_int pa_nil))))))))) ), ?_⟩
    refine ⟨_, rfl, _, _, rfl, rfl, .inl (by decide), _, _, rfl, rfl, ?_⟩
    refine ⟨fun σ' H' => ∃ cell : Int, σ' = [some (.ref a), some (.int i), some (.int cell), none, none, none] ∧ H' = H, ?_, ?_⟩
    · refine ⟨_, rfl, .ref a, rfl, a, _, rfl, .inl hS, _, _, rfl, rfl, _, rfl, ite2 (fun c => ?_) (fun c => ⟨_, rfl, rfl⟩)⟩
      have c' : (i : Int) < ((ns.map V.int).length : Int) := of_decide_eq_true c
      rw [List.length_map] at c'
      have hx : (ns.map V.int)[i]? = some (.int (ns[i]'(by omega))) := by
        rw [List.getElem?_map, List.getElem?_eq_getElem (by omega)]
        rfl
      exact ⟨.ref a, rfl, _, rfl, a, _, _, _, rfl, rfl, hS, atI_nat hx, _, rfl, rfl⟩
    · rintro σ' H' ⟨cell, rfl, rfl⟩
      refine ⟨_, rfl, _, rfl, .inl ⟨_, rfl, _, _, rfl, rfl, ⟨by decide, by decide, by decide⟩, _, _, rfl, rfl, ⟨by decide, by decide +kernel⟩, _, _, rfl, rfl, by show (0 : Int) < (10 ^ Int.toNat 60) ^ Int.toNat 10; decide +kernel, ?_⟩⟩
      refine ⟨_, rfl, _, _, rfl, rfl, ⟨by decide, by decide, by decide⟩, _, _, rfl, rfl, wide_div (b := 60) (by decide +kernel) (by decide +kernel) (by decide) (by decide), ?_⟩
      refine ⟨_, rfl, _, _, rfl, rfl, by show (0 : Int) < _; decide, _, _, rfl, rfl, .inr (by decide), _, rfl, _, _, rfl, rfl, .inl (by decide), _, _, rfl, rfl, _, rfl, _, _, rfl, rfl, .inr ⟨_, rfl, _, _, rfl, rfl, .inl (by decide), _, _, rfl, rfl, _, _, rfl, rfl, ?_⟩⟩
      refine ⟨_, rfl, _, rfl, _, _, rfl, rfl, by show (0 : Int) < _; decide, by show 3 ≤ sizeLine; decide, fun p hp => ?_⟩
      exact q p _ hp (Ex.new hp) ⟨_, _, _, upd_same⟩
/-- the greatest common divisor -/
def spCommon : Sp := fun vs H Q _ => ∃ (a b : Nat), vs = [.int a, .int b] ∧ ∀ H', Ex H H' → Q (.int (Nat.gcd a b : Nat)) H'
theorem ok_common (T : Txt K mg) {f : Addr} {fd : FuncData} (D : DefAt K mg "_law_common" sLCommon ["_law_one", "_law_other"] f fd) : FnOk P w K mg base CX0 1 f fd ["_law_one", "_law_other"] spCommon := by
  refine D.F.ok scLCommon (fun vs H Q E h => ?_) (fun cdv A outer s H vs Q E hr h => ?_)
  · obtain ⟨d, n, rfl, _⟩ := h
    rfl
  · obtain ⟨a, b, rfl, q⟩ := h
    refine ⟨_, pss_cons (ps_while PassesOwn.never (pt_cmpR op_ne (pv 1) pe_int (nomark _))
        (pss_one (ps_par (i := 0) (j := 1) (by rfl) scLCommon.nd rfl rfl (by decide) rfl rfl (pa_cons (pv 1) (pa_cons (pe_op op_mod (pv 0) (pv 1)) pa_nil)) (by rfl))))
      (pss_one (ps_ret (pv 0))), ?_⟩
    refine q_while (fun m σ' H' => ∃ x y : Nat, σ' = [some (.int x), some (.int y)] ∧ m = y ∧ Nat.gcd x y = Nat.gcd a b ∧ Ex H H') b ⟨a, b, rfl, rfl, rfl, Ex.refl _⟩ (fun m σ' H' hW => ?_)
    obtain ⟨x, y, rfl, rfl, hg, e1⟩ := hW
    refine ⟨_, et_test (ev_op (ev_var (v := .int (m : Int)) rfl) ev_c (rv_ne rfl)), fun hb H1 e2 => ?_, fun hb H1 e2 => ?_⟩
    · have hy : m ≠ 0 := fun z => by
        subst z
        exact absurd hb (by decide)
      have hm : (x : Int) % (m : Int) = ((x % m : Nat) : Int) := by simp
      refine ⟨fun σ2 H2 => σ2 = [some (.int m), some (.int ((x % m : Nat) : Int))] ∧ H2 = H1, fun σ2 H2 hN => ?_, ?_⟩
      · obtain ⟨rfl, rfl⟩ := hN
        refine ⟨x % m, Nat.mod_lt _ (by omega), m, x % m, rfl, rfl, ?_, e1.trans e2⟩
        rw [← hg, Nat.gcd_comm m (x % m), ← Nat.gcd_rec, Nat.gcd_comm]
      · refine ⟨_, rfl, _, rfl, _, rfl, (x : Int), (m : Int), rfl, rfl, by omega, _, _, rfl, ?_⟩
        refine ⟨?_, rfl⟩
        show [some (V.int (m : Int)), some (V.int ((x : Int) % (m : Int)))] = _
        rw [hm]
    · have hy : m = 0 := by
        by_cases z : m = 0
        · exact z
        · exfalso
          have : (!decide (V.int (m : Int) = V.int 0)) = true := by
            rw [decide_eq_false (fun q => z (by have := V.int.inj q; omega))]
            rfl
          rw [this] at hb
          cases hb
      subst hy
      refine ⟨_, rfl, ?_⟩
      rw [Nat.gcd_zero_right] at hg
      rw [hg]
      exact q _ (e1.trans e2)
/-- a drawn ring of one order -/
def spRingOf : Sp := fun vs H Q _ => ∃ (d : Addr) (k t : Int), vs = [.ref d, .int k, .int t] ∧ Dice H d ∧ 2 ≤ k ∧ k ≤ 100 ∧ 1 ≤ t ∧ t ≤ 1000 ∧ ∀ x n s H', RingAt H' (k * t) x n s → Dice H' d → Keep d H H' → Q x H'
theorem ok_ring_of (T : Txt K mg) {f : Addr} {fd : FuncData} (D : DefAt K mg "_law_ring_of" sLRingOf ["_law_dice_here", "_law_k", "_law_times"] f fd) : FnOk P w K mg base CX0 3 f fd ["_law_dice_here", "_law_k", "_law_times"] spRingOf := by
  refine D.F.ok scLRingOf (fun vs H Q E h => ?_) (fun cdv A outer s H vs Q E hr h => ?_)
  · obtain ⟨d, n, t, rfl, _⟩ := h
    rfl
  · obtain ⟨d, k, t, rfl, hd, h1, h2, h3, h4, q⟩ := h
    obtain ⟨f1, fd1, D1⟩ := T.d_l_roll
    obtain ⟨f2, fd2, D2⟩ := T.d_l_common
    obtain ⟨f3, fd3, D3⟩ := T.d_l_one_of
    have hr1 : Room 1 _ := hr.mono (by decide)
    refine ⟨_, pss_cons (ps_set (i := 3) scLRingOf.nd rfl (.inl rfl) (pe_op op_add pe_int (pe_call (ok_roll T D1) hr1 (by rfl) D1.g D1.F.kp D1.b .nil pass0 (pa_cons (pv 0) (pa_cons (pv 2) pa_nil)))))
      (pss_cons (ps_setLc (i := 4) (own := [("_law_one", 5)]) (g := gName 5) (by rfl) scLRingOf.nd rfl rfl (sw_true rfl rfl rfl (by decide +kernel)) (pi_range2 (by rfl) T.z_range (pa_cons pe_int (pa_cons (pv 1) pa_nil)))
        (blkOk_by (N := nLRingOf) (sc := defScope sLRingOf) (by decide +kernel)) (fun _ _ _ _ _ => pg_name (i := 5) scLRingOf.nd rfl (Or.inl rfl))
        (fun _ _ _ _ _ => pts_one (pt_cmpR op_eq (pe_call (ok_common T D2) hr1 (by rfl) D2.g D2.F.kp D2.b .nil pass0 (pa_cons (pv 1) (pa_cons (pv 5) pa_nil))) pe_int (nomark _))) (fun _ _ _ _ _ => pv 5))
      (pss_one (ps_ret (pe_tup (pa_cons (pe_op op_mul (pv 1) (pv 3)) (pa_cons (pe_op op_mul (pv 3) (pe_call (ok_one_of T D3) hr (by rfl) D3.g D3.F.kp D3.b .nil pass0 (pa_cons (pv 0) (pa_cons (pv 4) pa_nil)))) pa_nil)))))), ?_⟩
    refine ⟨.ref d, rfl, .int t, rfl, d, _, rfl, hd, by omega, by omega, fun r H1 r0 r1 hd1 k1 => ?_⟩
    refine ⟨1, r, rfl, rfl, .int k, rfl, 1, k, rfl, by omega, fun Dl hD => ?_⟩
    have ndl : d ≠ Dl := hd1.ne_new hD
    have hD0 : H Dl = none := k1.free ndl.symm hD
    refine lc_range (lo := 1) (n := (k - 1).toNat) (fun i H' => ∃ js : List Int, H' Dl = some (.lst (js.map V.int)) ∧ js.length ≤ i ∧ (∀ j ∈ js, 1 ≤ j ∧ j < k) ∧ (1 ≤ i → 1 ≤ js.length) ∧ Keep d H H' ∧ Dice H' d)
      ⟨[], upd_same, Nat.le_refl _, by simp, by omega, k1.trans (Keep.new hD), hd1.upd (hd1.ne_new hD)⟩ (fun i H' hi hp => ?_) (fun H' hp => ?_)
    · obtain ⟨js, a1, a2, a3, a4, a5, a6⟩ := hp
      refine ⟨rfl, .int k, rfl, .int (1 + (i : Int)), rfl, k.toNat, 1 + i, ?_, fun H2 e2 => ?_⟩
      · show [V.int k, V.int (1 + (i : Int))] = [V.int ((k.toNat : Nat) : Int), V.int (((1 + i : Nat)) : Int)]
        rw [show ((k.toNat : Nat) : Int) = k by omega, show (((1 + i : Nat)) : Int) = 1 + (i : Int) by omega]
      · refine ⟨rfl, _, rfl, ite2 (fun c => ?_) (fun c => ?_)⟩
        · refine ⟨_, rfl, js.map V.int, e2 _ _ a1, ?_, js ++ [1 + (i : Int)], ?_, ?_, ?_, ?_, ?_, ?_⟩
          · rw [List.length_map]
            exact small1000 (by omega)
          · rw [List.map_append]
            exact upd_same
          · rw [List.length_append]
            exact Nat.add_le_add_right a2 1
          · intro j hj
            rcases List.mem_append.mp hj with hj | hj
            · exact a3 j hj
            · have := List.mem_singleton.mp hj
              omega
          · intro _
            rw [List.length_append]
            exact Nat.le_add_left _ _
          · exact (a5.trans (Keep.ex e2)).mut hD0
          · exact (a6.ex e2).upd ndl
        · refine ⟨js, e2 _ _ a1, by omega, a3, fun _ => ?_, a5.trans (Keep.ex e2), a6.ex e2⟩
          by_cases z : i = 0
          · subst z
            refine absurd ?_ c
            rw [show k.toNat.gcd (1 + 0) = 1 from Nat.gcd_one_right k.toNat]
            rfl
          · exact a4 (by omega)
    · obtain ⟨js, a1, a2, a3, a4, a5, a6⟩ := hp
      have hl : 1 ≤ js.length := a4 (by omega)
      have hb : 1 ≤ 1 + r ∧ 1 + r ≤ t := by omega
      have hkm : k * (1 + r) ≤ k * t := Int.mul_le_mul_of_nonneg_left hb.2 (by omega)
      have hk2 : 2 ≤ k * (1 + r) := by
        have := Int.mul_le_mul_of_nonneg_left hb.1 (show (0 : Int) ≤ k by omega)
        omega
      refine ⟨.int k, rfl, .int (1 + r), rfl, k, 1 + r, rfl, rfl, .inl (by constructor <;> omega), .int (1 + r), rfl, .ref d, rfl, .ref Dl, rfl, d, Dl, _, rfl, a6, a1, ndl.symm, by rw [List.length_map]; exact hl, by rw [List.length_map]; omega, fun x H2 hx hd2 k2 => ?_⟩
      obtain ⟨j, hj, rfl⟩ := List.mem_map.mp hx
      obtain ⟨j1, j2⟩ := a3 j hj
      refine ⟨1 + r, j, rfl, rfl, .inl (by constructor <;> omega), by show 2 ≤ sizeLine; decide, fun p hp => ?_⟩
      have c1 : 1 ≤ (1 + r) * j := by
        have := Int.mul_le_mul_of_nonneg_left j1 (show (0 : Int) ≤ 1 + r by omega)
        omega
      have c2 : (1 + r) * j < k * (1 + r) := by
        rw [Int.mul_comm k (1 + r)]
        exact Int.mul_lt_mul_of_pos_left j2 (by omega)
      exact q _ _ _ _ ⟨p, rfl, upd_same, hk2, hkm, c1, c2⟩ (hd2.upd (hd2.ne_new hp)) ((a5.trans k2).trans (Keep.new hp))
end
end K1

namespace K1
open PySem PySem.Spec PyProof.Rows L2 Evl
/-! ### chains -/
theorem RingAt.keep {d : Addr} {H H' : Hp} {most n s : Int} {x : V} (e : Keep d H H') (h : Dice H d) (r : RingAt H most x n s) : RingAt H' most x n s := by
  obtain ⟨t, rfl, ht, q⟩ := r
  exact ⟨t, rfl, e.tup h ht, q⟩
theorem RingAt.ex {H H' : Hp} {most n s : Int} {x : V} (e : Ex H H') (r : RingAt H most x n s) : RingAt H' most x n s := by
  obtain ⟨t, rfl, ht, q⟩ := r
  exact ⟨t, rfl, e _ _ ht, q⟩
theorem RingAt.upd {H : Hp} {most n s : Int} {x : V} {p : Addr} {o : HO} (h : ∀ t, x = .ref t → t ≠ p) (r : RingAt H most x n s) : RingAt (upd H p o) most x n s := by
  obtain ⟨t, rfl, ht, q⟩ := r
  exact ⟨t, rfl, by rw [upd_ne (h t rfl)]; exact ht, q⟩
theorem RingAt.most {H : Hp} {m m' n s : Int} {x : V} (h : m ≤ m') (r : RingAt H m x n s) : RingAt H m' x n s := by
  obtain ⟨t, rfl, ht, q1, q2, q3, q4⟩ := r
  exact ⟨t, rfl, ht, q1, by omega, q3, q4⟩
/-- rings at values, one by one -/
abbrev RingsAt (H : Hp) (most : Int) (xs : List V) (rs : List (Int × Int)) : Prop := Paired (fun x (r : Int × Int) => RingAt H most x r.1 r.2) xs rs
theorem paired_snoc {α β : Type} {R : α → β → Prop} {x : α} {y : β} (h : R x y) : ∀ {xs : List α} {ys : List β}, Paired R xs ys → Paired R (xs ++ [x]) (ys ++ [y])
  | _, _, .nil => .cons h .nil
  | _, _, .cons r t => .cons r (paired_snoc h t)
theorem paired_imp {α β : Type} {R S : α → β → Prop} (h : ∀ x y, R x y → S x y) : ∀ {xs : List α} {ys : List β}, Paired R xs ys → Paired S xs ys
  | _, _, .nil => .nil
  | _, _, .cons r t => .cons (h _ _ r) (paired_imp h t)
theorem paired_append {α β : Type} {R : α → β → Prop} : ∀ {xs xs' : List α} {ys ys' : List β}, Paired R xs ys → Paired R xs' ys' → Paired R (xs ++ xs') (ys ++ ys')
  | _, _, _, _, .nil, s => s
  | _, _, _, _, .cons r t, s => .cons r (paired_append t s)
theorem paired_get {α β : Type} {R : α → β → Prop} : ∀ {xs : List α} {ys : List β} {i : Nat} {x : α}, Paired R xs ys → xs[i]? = some x → ∃ y, ys[i]? = some y ∧ R x y
  | _, _, _, _, .nil, e => by simp at e
  | _, _, 0, _, .cons r _, e => by simp at e; subst e; exact ⟨_, rfl, r⟩
  | _, _, i + 1, x, .cons _ t, e => by
    obtain ⟨u, h1, h2⟩ := paired_get (i := i) (x := x) t (by simpa using e)
    exact ⟨u, by simpa using h1, h2⟩
theorem paired_len {α β : Type} {R : α → β → Prop} {xs : List α} {ys : List β} (h : Paired R xs ys) : xs.length = ys.length := Paired.length h
section
variable {P : Program} {w : World} {K : PySem.W.Frag} {mg : Str → Option Value} {base : Heap}
def spChain : Sp := fun vs H Q _ => ∃ (d : Addr) (g most : Int), vs = [.ref d, .int g, .int most] ∧ Dice H d ∧ 1 ≤ g ∧ g ≤ 100 ∧ 2 ≤ most ∧ most ≤ 60 ∧
  ∀ p xs rs H', H' p = some (.tup xs) → RingsAt H' most xs rs → (xs.length : Int) = g → Dice H' d → Keep d H H' → Q (.ref p) H'
/-- what stands behind i rings of the list at D -/
def ChW (d Dl : Addr) (H : Hp) (most : Int) (i : Nat) (H' : Hp) : Prop := ∃ xs rs, H' Dl = some (.lst xs) ∧ RingsAt H' most xs rs ∧ xs.length = i ∧ Keep d H H' ∧ Dice H' d
theorem ChW.turn {d Dl : Addr} {H H' H2 : Hp} {most n s : Int} {x : V} {i : Nat} (W : ChW d Dl H most i H') (ndl : d ≠ Dl) (hD0 : H Dl = none) (k : Keep d H' H2) (hd : Dice H2 d) (r : RingAt H2 most x n s) (hi : i < 1000) :
    ∃ acc, H2 Dl = some (.lst acc) ∧ acc.length < sizeLine ∧ ChW d Dl H most (i + 1) (upd H2 Dl (.lst (acc ++ [x]))) := by
  obtain ⟨xs, rs, a1, a2, a3, a4, a5⟩ := W
  have e1 : H2 Dl = some (.lst xs) := k _ _ ndl.symm a1
  have nt : ∀ {y : V} {n s : Int}, RingAt H2 most y n s → RingAt (upd H2 Dl (.lst (xs ++ [x]))) most y n s := fun {y n s} q => q.upd fun t ht => by
    obtain ⟨t', rfl, ht', _⟩ := q
    cases ht
    exact ne_of ht' e1 (by intro z; cases z)
  refine ⟨xs, e1, small1000 (by omega), xs ++ [x], rs ++ [(n, s)], upd_same, paired_snoc (R := fun x (r : Int × Int) => RingAt (upd H2 Dl (.lst (xs ++ [_]))) most x r.1 r.2) (y := (n, s)) (nt r) (paired_imp (R := fun x (r : Int × Int) => RingAt H' most x r.1 r.2) (fun y r' q => nt (q.keep k a5)) a2), ?_, (a4.trans k).mut hD0, hd.upd ndl⟩
  rw [List.length_append, a3]
  rfl
theorem ok_chain (T : Txt K mg) {f : Addr} {fd : FuncData} (D : DefAt K mg "_law_chain" sLChain ["_law_dice_here", "_law_rings", "_law_most"] f fd) : FnOk P w K mg base CX0 4 f fd ["_law_dice_here", "_law_rings", "_law_most"] spChain := by
  refine D.F.ok scLChain (fun vs H Q E h => ?_) (fun cdv A outer s H vs Q E hr h => ?_)
  · obtain ⟨d, n, t, rfl, _⟩ := h
    rfl
  · obtain ⟨d, g, most, rfl, hd, h1, h2, h3, h4, q⟩ := h
    obtain ⟨f1, fd1, D1⟩ := T.d_l_roll
    obtain ⟨f2, fd2, D2⟩ := T.d_l_ring_of
    obtain ⟨f3, fd3, D3⟩ := T.d_l_ring
    have hr1 : Room 1 _ := hr.mono (by decide)
    have hr2 : Room 2 _ := hr.mono (by decide)
    refine ⟨_, pss_cons (ps_if (pt_cmpR op_eq (pe_call (ok_roll T D1) hr1 (by rfl) D1.g D1.F.kp D1.b .nil pass0 (pa_cons (pv 0) (pa_cons pe_int pa_nil))) pe_int (nomark _))
        (pss_cons (ps_set (i := 3) scLChain.nd rfl (.inr rfl) (pe_op op_add pe_int (pe_call (ok_roll T D1) hr1 (by rfl) D1.g D1.F.kp D1.b .nil pass0 (pa_cons (pv 0) (pa_cons (pe_callB (call_min2 rfl) (by rfl) T.z_min (by decide +kernel) (pa_cons pe_int (pa_cons (pe_op op_sub (pv 2) pe_int) pa_nil))) pa_nil)))))
        (pss_one (ps_ret (pe_callTy call_tuple_of (by rfl) T.z_tuple (by decide +kernel) (pa_cons (pe_lc (own := [("_law_turn", 4)]) (g := gName 4) (tt := tYes) rfl scLChain.nd (pi_range1 (by rfl) T.z_range (pa_cons (pv 1) pa_nil))
          (blkOk_by (N := nLChain) (sc := defScope sLChain) (by decide +kernel)) (fun _ _ _ _ _ => pg_name (i := 4) scLChain.nd rfl (Or.inl rfl)) (fun _ _ _ _ _ => pts_nil)
          (fun _ _ _ _ _ => pe_call (ok_ring_of T D2) hr (by rfl) D2.g D2.F.kp D2.b .nil pass0 (pa_cons (pv 0) (pa_cons (pv 3) (pa_cons (pe_op op_fdiv (pv 2) (pv 3)) pa_nil))))) pa_nil))))) pss_nil)
      (pss_one (ps_ret (pe_callTy call_tuple_of (by rfl) T.z_tuple (by decide +kernel) (pa_cons (pe_lc (own := [("_law_turn", 4)]) (g := gName 4) (tt := tYes) rfl scLChain.nd (pi_range1 (by rfl) T.z_range (pa_cons (pv 1) pa_nil))
          (blkOk_by (N := nLChain) (sc := defScope sLChain) (by decide +kernel)) (fun _ _ _ _ _ => pg_name (i := 4) scLChain.nd rfl (Or.inl rfl)) (fun _ _ _ _ _ => pts_nil)
          (fun _ _ _ _ _ => pe_call (ok_ring T D3) hr2 (by rfl) D3.g D3.F.kp D3.b .nil pass0 (pa_cons (pv 0) (pa_cons (pv 2) pa_nil)))) pa_nil)))), ?_⟩
    refine ⟨.ref d, rfl, d, 3, rfl, hd, by omega, by omega, fun r H1 r0 r1 hd1 k1 => ?_⟩
    refine ⟨rfl, _, rfl, ite2 (fun c => ?_) (fun c => ?_)⟩
    · refine ⟨.ref d, rfl, .int most, rfl, most, 1, rfl, rfl, 3, most - 1, rfl, d, _, rfl, hd1, ?_, ?_, fun r' H2 r0' r1' hd2 k2 => ?_⟩
      · split <;> omega
      · split <;> omega
      have hk : 2 + r' ≤ most ∧ 2 + r' ≤ 4 := by
        split at r1' <;> omega
      refine ⟨2, r', rfl, rfl, .int g, rfl, g, rfl, by omega, by omega, fun Dl hD => ?_⟩
      have ndl : d ≠ Dl := hd2.ne_new hD
      have k12 := k1.trans k2
      have hD0 : H Dl = none := k12.free ndl.symm hD
      refine lc_range (lo := 0) (n := g.toNat) (ChW d Dl H most) ⟨[], [], upd_same, .nil, rfl, k12.trans (Keep.new hD), hd2.upd ndl⟩ (fun i H' hi W => ?_) (fun H' W => ?_)
      · have hd' := W.choose_spec.choose_spec.2.2.2.2
        have hq : 1 ≤ most / (2 + r') := Int.le_ediv_of_mul_le (by omega) (by omega)
        have hq2 : most / (2 + r') ≤ most := Int.ediv_le_self _ (by omega)
        have hq3 : (2 + r') * (most / (2 + r')) ≤ most := Int.mul_ediv_self_le (by omega)
        refine ⟨rfl, ?_⟩
        dsimp only [tYes]
        rw [if_pos rfl]
        refine ⟨.ref d, rfl, .int (2 + r'), rfl, .int most, rfl, .int (2 + r'), rfl, most, 2 + r', rfl, rfl, ⟨by omega, by omega⟩, d, 2 + r', most / (2 + r'), rfl, hd', by omega, by omega, hq, by omega, fun x n s H3 hx hd3 k3 => ?_⟩
        exact W.turn ndl hD0 k3 hd3 (hx.most hq3) (by omega)
      · obtain ⟨xs, rs, a1, a2, a3, a4, a5⟩ := W
        refine ⟨Dl, xs, rfl, .inl ⟨SqL.of a1, fun p hp => q p xs rs _ upd_same (paired_imp (fun y r' z => RingAt.ex (.new hp) z) a2) (by omega) (a5.upd (a5.ne_new hp)) (a4.trans (Keep.new hp))⟩⟩
    · refine ⟨.int g, rfl, g, rfl, by omega, by omega, fun Dl hD => ?_⟩
      have ndl : d ≠ Dl := hd1.ne_new hD
      have hD0 : H Dl = none := k1.free ndl.symm hD
      refine lc_range (lo := 0) (n := g.toNat) (ChW d Dl H most) ⟨[], [], upd_same, .nil, rfl, k1.trans (Keep.new hD), hd1.upd ndl⟩ (fun i H' hi W => ?_) (fun H' W => ?_)
      · have hd' := W.choose_spec.choose_spec.2.2.2.2
        refine ⟨rfl, ?_⟩
        dsimp only [tYes]
        rw [if_pos rfl]
        refine ⟨.ref d, rfl, .int most, rfl, d, most, rfl, hd', by omega, by omega, fun x n s H3 hx hd3 k3 => ?_⟩
        exact W.turn ndl hD0 k3 hd3 hx (by omega)
      · obtain ⟨xs, rs, a1, a2, a3, a4, a5⟩ := W
        refine ⟨Dl, xs, rfl, .inl ⟨SqL.of a1, fun p hp => q p xs rs _ upd_same (paired_imp (fun y r' z => RingAt.ex (.new hp) z) a2) (by omega) (a5.upd (a5.ne_new hp)) (a4.trans (Keep.new hp))⟩⟩
end
end K1

namespace K1
open PySem PySem.Spec PyProof.Rows L2 Evl
/-! ### judges of rings and chains -/
/-- no tuple -/
inductive NotTup (K : PySem.W.Frag) (H : Hp) : V → Prop where
  | bl (b : Bool) : NotTup K H (.bl b)
  | non : NotTup K H .non
  | int (i : Int) : NotTup K H (.int i)
  | str (x : Str) : NotTup K H (.str x)
  | lst {a : Addr} {xs : List V} (e : H a = some (.lst xs)) : NotTup K H (.ref a)
  | dK {a : Addr} {kvs : List (Key × V)} (e : H a = some (.dK kvs)) : NotTup K H (.ref a)
theorem NotTup.ty {K : PySem.W.Frag} {H : Hp} {x : V} (h : NotTup K H x) : ∃ t : Value, TyX K H x t ∧ PySem.W.kitOne K t (.type "tuple") = some false := by
  cases h with
  | bl b => exact ⟨_, .base (.bl b), (kit_ty (by decide +kernel))⟩
  | non => exact ⟨_, .base .non, (kit_ty (by decide +kernel))⟩
  | int x => exact ⟨_, .base (.int x), (kit_ty (by decide +kernel))⟩
  | str x => exact ⟨_, .base (.str x), (kit_ty (by decide +kernel))⟩
  | lst e => exact ⟨_, .base (.lst e), (kit_ty (by decide +kernel))⟩
  | dK e => exact ⟨_, .base (.dK e), (kit_ty (by decide +kernel))⟩
theorem NotTup.mono {K : PySem.W.Frag} {H H' : Hp} {x : V} (e : Ex H H') (h : NotTup K H x) : NotTup K H' x := by
  cases h with
  | bl b => exact .bl b
  | non => exact .non
  | int x => exact .int x
  | str x => exact .str x
  | lst q => exact .lst (e _ _ q)
  | dK q => exact .dK (e _ _ q)
theorem BtwB.mono {K : PySem.W.Frag} {H H' : Hp} {lo hi : Int} {x : V} {b : Bool} (e : Ex H H') (h : BtwB K H lo hi x b) : BtwB K H' lo hi x b := by
  cases h with
  | int i => exact .int i
  | no h => exact .no (h.mono e)
theorem BtwB.yes {K : PySem.W.Frag} {H : Hp} {lo hi i : Int} (h1 : lo ≤ i) (h2 : i ≤ hi) (h3 : -(10 ^ 60) < i) (h4 : i < 10 ^ 60) : BtwB K H lo hi (.int i) true := by
  have := BtwB.int (K := K) (H := H) (lo := lo) (hi := hi) i
  rw [decide_eq_true h1, decide_eq_true h2, decide_eq_true h3, decide_eq_true h4] at this
  exact this
theorem BtwB.out {K : PySem.W.Frag} {H : Hp} {lo hi i : Int} (h1 : ¬ (lo ≤ i ∧ i ≤ hi)) : BtwB K H lo hi (.int i) false := by
  have := BtwB.int (K := K) (H := H) (lo := lo) (hi := hi) i
  have e : (decide (lo ≤ i) && decide (i ≤ hi)) = false := by
    by_cases c : lo ≤ i
    · have c2 : ¬ i ≤ hi := fun z => h1 ⟨c, z⟩
      rw [decide_eq_false c2, Bool.and_false]
    · rw [decide_eq_false c, Bool.false_and]
  rw [e, Bool.and_false] at this
  exact this
inductive PairB (K : PySem.W.Frag) (H : Hp) : V → Bool → Prop where
  | no {x : V} (h : NotTup K H x) : PairB K H x false
  | tup {a : Addr} {xs : List V} (e : H a = some (.tup xs)) : PairB K H (.ref a) (decide (xs.length = 2))
inductive RingB (K : PySem.W.Frag) (H : Hp) : V → Bool → Prop where
  | no {x : V} (h : NotTup K H x) : RingB K H x false
  | len {a : Addr} {xs : List V} (e : H a = some (.tup xs)) (h : xs.length ≠ 2) : RingB K H (.ref a) false
  | first {a : Addr} {x y : V} (e : H a = some (.tup [x, y])) (h : BtwB K H 2 60 x false) : RingB K H (.ref a) false
  | both {a : Addr} {n : Int} {y : V} {b : Bool} (e : H a = some (.tup [.int n, y])) (h1 : 2 ≤ n) (h2 : n ≤ 60) (h : BtwB K H 1 (n - 1) y b) : RingB K H (.ref a) b
theorem RingB.mono {K : PySem.W.Frag} {H H' : Hp} {x : V} {b : Bool} (e : Ex H H') (h : RingB K H x b) : RingB K H' x b := by
  cases h with
  | no h => exact .no (h.mono e)
  | len q h => exact .len (e _ _ q) h
  | first q h => exact .first (e _ _ q) (h.mono e)
  | both q h1 h2 h => exact .both (e _ _ q) h1 h2 (h.mono e)
inductive ChainB (K : PySem.W.Frag) (H : Hp) : V → Bool → Prop where
  | no {x : V} (h : NotTup K H x) : ChainB K H x false
  | len {a : Addr} {xs : List V} (e : H a = some (.tup xs)) (h : ¬ (1 ≤ xs.length ∧ xs.length ≤ 12)) : ChainB K H (.ref a) false
  | tup {a : Addr} {xs : List V} {bs : List Bool} (e : H a = some (.tup xs)) (h : 1 ≤ xs.length ∧ xs.length ≤ 12) (hb : Paired (RingB K H) xs bs) : ChainB K H (.ref a) (bs.all id)
theorem RingAt.ring {K : PySem.W.Frag} {H : Hp} {most n s : Int} {x : V} (h : RingAt H most x n s) (hm : most ≤ 60) : RingB K H x true := by
  obtain ⟨t, rfl, ht, h1, h2, h3, h4⟩ := h
  exact .both ht h1 (by omega) (.yes h3 (by omega) (by omega) (by omega))
section
variable {P : Program} {w : World} {K : PySem.W.Frag} {mg : Str → Option Value} {base : Heap}
def spIsPair (K : PySem.W.Frag) : Sp := fun vs H Q _ => ∃ x b, vs = [x] ∧ PairB K H x b ∧ ∀ H', Ex H H' → Q (.bl b) H'
def spIsRing (K : PySem.W.Frag) : Sp := fun vs H Q _ => ∃ x b, vs = [x] ∧ RingB K H x b ∧ ∀ H', Ex H H' → Q (.bl b) H'
def spIsChain (K : PySem.W.Frag) : Sp := fun vs H Q _ => ∃ x b, vs = [x] ∧ ChainB K H x b ∧ ∀ H', Ex H H' → Q (.bl b) H'
end
end K1

namespace K1
open PySem PySem.Spec PyProof.Rows L2 Evl
/-! ### orders and diagonals -/
section
variable {P : Program} {w : World} {K : PySem.W.Frag} {mg : Str → Option Value} {base : Heap}
def spCheckInteger (K : PySem.W.Frag) : Sp := fun vs H Q _ => ∃ i : Int, vs = [.int i] ∧ -(10 ^ 60) < i ∧ i < 10 ^ 60 ∧ ∀ H', Ex H H' → Q .non H'
theorem ok_check_integer (T : Txt K mg) {f : Addr} {fd : FuncData} (D : DefAt K mg "check_integer" sCheckInteger ["value"] f fd) : FnOk P w K mg base CX0 2 f fd ["value"] (spCheckInteger K) := by
  refine D.F.ok scCheckInteger (fun vs H Q E h => ?_) (fun cdv A outer s H vs Q E hr h => ?_)
  · obtain ⟨x, rfl, _⟩ := h
    rfl
  · obtain ⟨i, rfl, h1, h2, q⟩ := h
    obtain ⟨f1, fd1, D1⟩ := T.d_is_integer
    refine ⟨_, pss_one (ps_if (pt_not (pt_val (pe_call (ok_is_integer T D1) hr (by rfl) D1.g D1.F.kp D1.b .nil pass0 (pa_cons (pv 0) pa_nil)))) pss_never pss_nil), ?_⟩
    refine ⟨_, rfl, .int i, true, rfl, ?_, fun H1 e1 => ⟨true, rfl, iteF (q _ e1)⟩⟩
    have := IntB.int (K := K) (H := H) i
    rw [decide_eq_true h1, decide_eq_true h2] at this
    exact this
def spCheckRing (K : PySem.W.Frag) : Sp := fun vs H Q _ => ∃ x, vs = [x] ∧ RingB K H x true ∧ ∀ H', Ex H H' → Q .non H'
def spCheckChain (K : PySem.W.Frag) : Sp := fun vs H Q _ => ∃ x, vs = [x] ∧ ChainB K H x true ∧ ∀ H', Ex H H' → Q .non H'
def spOrderOf : Sp := fun vs H Q _ => ∃ x n s, vs = [x] ∧ RingAt H 60 x n s ∧ ∀ H', Ex H H' → Q (.int (K1M.ord n.natAbs s.natAbs : Nat)) H'
def spLets : Sp := fun vs H Q _ => ∃ x n s p c, vs = [x, .int p, .int c] ∧ RingAt H 60 x n s ∧ ∀ H', Ex H H' → Q (.bl (decide ((c * s - p) % n = 0))) H'
def spDoesLet : Sp := fun vs H Q _ => ∃ x n s p c, vs = [x, .int p, .int c] ∧ RingAt H 60 x n s ∧ 0 ≤ p ∧ p < n ∧ -(10 ^ 60) < c ∧ c < 10 ^ 60 ∧ ∀ H', Ex H H' → Q (.bl (decide ((c * s) % n = p))) H'
end
end K1

/-! plain mathematics of heaps: heights of columns that do not ascend -/
namespace HM
def hAt (h : List Nat) (c : Nat) : Nat := h.getD c 0
theorem hAt_lt {h : List Nat} {c : Nat} (hc : c < h.length) : h[c]? = some (hAt h c) := by
  unfold hAt
  rw [List.getD_eq_getElem?_getD, List.getElem?_eq_getElem hc]
  rfl
theorem hAt_ge {h : List Nat} {c : Nat} (hc : h.length ≤ c) : hAt h c = 0 := by
  unfold hAt
  rw [List.getD_eq_getElem?_getD, List.getElem?_eq_none hc]
  rfl
structure IsHeap (h : List Nat) : Prop where
  pos : ∀ c, c < h.length → 0 < hAt h c
  fall : ∀ c, hAt h (c + 1) ≤ hAt h c
theorem IsHeap.nil : IsHeap [] := ⟨fun c hc => absurd hc (Nat.not_lt_zero c), fun c => by rw [hAt_ge (Nat.zero_le _), hAt_ge (Nat.zero_le _)]; exact Nat.le_refl _⟩
theorem IsHeap.le {h : List Nat} (H : IsHeap h) {c : Nat} : ∀ {d : Nat}, c ≤ d → hAt h d ≤ hAt h c
  | 0, hd => by
    have : c = 0 := by omega
    rw [this]
    exact Nat.le_refl _
  | d + 1, hd => by
    by_cases e : c = d + 1
    · rw [e]
      exact Nat.le_refl _
    · exact Nat.le_trans (H.fall d) (H.le (by omega))
/-- two heaps with the same heights are one -/
theorem heap_ext {h h' : List Nat} (H : IsHeap h) (H' : IsHeap h') (e : ∀ c, hAt h c = hAt h' c) : h = h' := by
  have l : h.length = h'.length := by
    rcases Nat.lt_trichotomy h.length h'.length with q | q | q
    · have a := H'.pos _ q
      rw [← e, hAt_ge (Nat.le_refl _)] at a
      omega
    · exact q
    · have a := H.pos _ q
      rw [e, hAt_ge (Nat.le_refl _)] at a
      omega
  refine List.ext_getElem? fun c => ?_
  by_cases hc : c < h.length
  · rw [hAt_lt hc, hAt_lt (by omega), e]
  · rw [List.getElem?_eq_none (by omega), List.getElem?_eq_none (by omega)]
/-- a square can be added on top of the column -/
def opn (h : List Nat) (c : Nat) : Bool := decide (c = 0) || decide (hAt h c < hAt h (c - 1))
theorem opn_le {h : List Nat} {c : Nat} (o : opn h c = true) : c ≤ h.length := by
  unfold opn at o
  by_cases hc : c ≤ h.length
  · exact hc
  · rw [decide_eq_false (show ¬ c = 0 by omega), hAt_ge (show h.length ≤ c by omega), hAt_ge (show h.length ≤ c - 1 by omega)] at o
    exact absurd o (by decide)
theorem opn_lt {h : List Nat} {c : Nat} (o : opn h (c + 1) = true) : hAt h (c + 1) < hAt h c := by
  unfold opn at o
  rw [decide_eq_false (show ¬ c + 1 = 0 by omega), Bool.false_or] at o
  exact of_decide_eq_true o
def b2n (b : Bool) : Nat := if b = true then 1 else 0
theorem b2n_le (b : Bool) : b2n b ≤ 1 := by cases b <;> decide
def grow (h : List Nat) (g : Nat → Bool) : List Nat := (List.range h.length).map (fun c => hAt h c + b2n (g c)) ++ (if g h.length = true then [1] else [])
theorem grow_len (h : List Nat) (g : Nat → Bool) : (grow h g).length = h.length + b2n (g h.length) := by
  unfold grow b2n
  rw [List.length_append, List.length_map, List.length_range]
  split <;> rfl
theorem hAt_grow {h : List Nat} {g : Nat → Bool} (hg : ∀ c, g c = true → opn h c = true) (c : Nat) : hAt (grow h g) c = hAt h c + b2n (g c) := by
  unfold hAt
  rw [List.getD_eq_getElem?_getD, List.getD_eq_getElem?_getD]
  unfold grow
  by_cases hc : c < h.length
  · rw [List.getElem?_append_left (by rw [List.length_map, List.length_range]; exact hc), List.getElem?_map, List.getElem?_range hc, hAt_lt hc]
    rfl
  · rw [List.getElem?_append_right (by rw [List.length_map, List.length_range]; omega), List.length_map, List.length_range, List.getElem?_eq_none (show h.length ≤ c by omega)]
    by_cases e : c = h.length
    · subst e
      rw [Nat.sub_self]
      unfold b2n
      by_cases q : g h.length = true
      · rw [if_pos q, if_pos q]
        rfl
      · rw [if_neg q, if_neg q]
        rfl
    · have q : g c = false := by
        cases q : g c with
        | false => rfl
        | true => exact absurd (opn_le (hg c q)) (by omega)
      rw [q]
      have l : (if g h.length = true then [1] else []).length ≤ 1 := by split <;> decide
      rw [List.getElem?_eq_none (by omega)]
      rfl
theorem grow_heap {h : List Nat} {g : Nat → Bool} (H : IsHeap h) (hg : ∀ c, g c = true → opn h c = true) : IsHeap (grow h g) := by
  refine ⟨fun c hc => ?_, fun c => ?_⟩
  · rw [hAt_grow hg]
    rw [grow_len] at hc
    by_cases q : c < h.length
    · have := H.pos c q
      omega
    · have : c = h.length := by
        have := b2n_le (g h.length)
        omega
      subst this
      omega
  · rw [hAt_grow hg, hAt_grow hg]
    have := H.fall c
    cases q : g (c + 1) with
    | false =>
      show hAt h (c + 1) + 0 ≤ _
      omega
    | true =>
      have := opn_lt (hg _ q)
      show hAt h (c + 1) + 1 ≤ _
      omega
/-- heights and one more, 0, with some more -/
def hts (h : List Nat) (f : Nat → Nat) : List Nat := (List.range (h.length + 1)).map fun c => hAt h c + f c
theorem hts_len (h : List Nat) (f : Nat → Nat) : (hts h f).length = h.length + 1 := by
  unfold hts
  rw [List.length_map, List.length_range]
theorem hts_get {h : List Nat} {f : Nat → Nat} {c : Nat} (hc : c ≤ h.length) : (hts h f)[c]? = some (hAt h c + f c) := by
  unfold hts
  rw [List.getElem?_map, List.getElem?_range (by omega)]
  rfl
theorem hts_zero (h : List Nat) : h ++ [0] = hts h fun _ => 0 := by
  refine List.ext_getElem? fun c => ?_
  by_cases q : c < h.length
  · rw [List.getElem?_append_left q, hAt_lt q, hts_get (by omega)]
    rfl
  · by_cases e : c = h.length
    · subst e
      rw [List.getElem?_append_right (Nat.le_refl _), Nat.sub_self, hts_get (Nat.le_refl _), hAt_ge (Nat.le_refl _)]
      rfl
    · rw [List.getElem?_eq_none (by rw [List.length_append]; show h.length + 1 ≤ c; omega), List.getElem?_eq_none (by rw [hts_len]; omega)]
def cnt (cols : List Nat) (c : Nat) : Nat := (cols.filter fun d => d == c).length
theorem cnt_snoc (cols : List Nat) (d c : Nat) : cnt (cols ++ [d]) c = cnt cols c + b2n (d == c) := by
  unfold cnt
  rw [List.filter_append, List.length_append]
  cases q : (d == c) with
  | true =>
    rw [List.filter_cons, if_pos q]
    rfl
  | false =>
    rw [List.filter_cons, if_neg (by rw [q]; decide)]
    rfl
theorem hts_set {h : List Nat} {cols : List Nat} {d : Nat} (hd : d ≤ h.length) : (hts h (cnt cols)).set d (hAt h d + cnt cols d + 1) = hts h (cnt (cols ++ [d])) := by
  refine List.ext_getElem? fun c => ?_
  rw [List.getElem?_set]
  by_cases e : d = c
  · subst e
    rw [if_pos rfl, if_pos (by rw [hts_len]; omega), hts_get hd, cnt_snoc]
    show some _ = some (hAt h d + (cnt cols d + b2n (d == d)))
    rw [beq_self_eq_true]
    rfl
  · rw [if_neg e]
    by_cases q : c ≤ h.length
    · rw [hts_get q, hts_get q, cnt_snoc]
      have : (d == c) = false := by simpa using e
      rw [this]
      rfl
    · rw [List.getElem?_eq_none (by rw [hts_len]; omega), List.getElem?_eq_none (by rw [hts_len]; omega)]
theorem range_filter_cnt (n : Nat) (g : Nat → Bool) (c : Nat) : cnt ((List.range n).filter g) c = b2n (decide (c < n) && g c) := by
  induction n with
  | zero => rfl
  | succ n ih =>
    rw [List.range_succ, List.filter_append]
    have e : cnt ((List.range n).filter g ++ [n].filter g) c = cnt ((List.range n).filter g) c + cnt ([n].filter g) c := by
      unfold cnt
      rw [List.filter_append, List.length_append]
    rw [e, ih]
    by_cases q : g n = true
    · have : [n].filter g = [n] := by
        rw [List.filter_cons, if_pos q]
        rfl
      rw [this]
      unfold cnt
      by_cases z : n = c
      · subst z
        rw [List.filter_cons, if_pos (beq_self_eq_true n), decide_eq_false (Nat.lt_irrefl n), decide_eq_true (Nat.lt_succ_self n), q]
        rfl
      · rw [List.filter_cons, if_neg (show ¬ (n == c) = true by simpa using z)]
        have : decide (c < n) = decide (c < n + 1) := decide_eq_decide.mpr (by omega)
        rw [this]
        rfl
    · have : [n].filter g = [] := by
        rw [List.filter_cons, if_neg q]
        rfl
      rw [this]
      by_cases z : c = n
      · subst z
        have : g c = false := by simpa using q
        rw [this, Bool.and_false, Bool.and_false]
        rfl
      · have : decide (c < n) = decide (c < n + 1) := decide_eq_decide.mpr (by omega)
        rw [this]
        rfl
/-- what heaped makes of columns -/
theorem hts_filter {h : List Nat} (hp : ∀ c, c < h.length → 0 < hAt h c) {g : Nat → Bool} {f : Nat → Nat} (hf : ∀ c, c ≤ h.length → f c = b2n (g c)) : (hts h f).filter (fun x => decide (0 < x)) = grow h g := by
  unfold hts grow
  rw [List.range_succ, List.map_append, List.filter_append]
  have e1 : ((List.range h.length).map fun c => hAt h c + f c).filter (fun x => decide (0 < x)) = (List.range h.length).map fun c => hAt h c + b2n (g c) := by
    have e : ((List.range h.length).map fun c => hAt h c + f c) = (List.range h.length).map fun c => hAt h c + b2n (g c) := by
      refine List.map_congr_left fun c hc => ?_
      rw [hf c (Nat.le_of_lt (List.mem_range.mp hc))]
    rw [e]
    refine List.filter_eq_self.mpr fun x hx => ?_
    obtain ⟨c, hc, rfl⟩ := List.mem_map.mp hx
    have := hp c (List.mem_range.mp hc)
    exact decide_eq_true (by omega)
  rw [e1]
  congr 1
  show [hAt h h.length + f h.length].filter _ = _
  rw [hAt_ge (Nat.le_refl _), hf _ (Nat.le_refl _)]
  unfold b2n
  by_cases q : g h.length = true
  · rw [if_pos q, if_pos q]
    rfl
  · rw [if_neg q, if_neg q]
    rfl
/-- the diagonal of the square on top -/
def dg (h : List Nat) (c : Nat) : Int := (c : Int) - (hAt h c : Int)
theorem dg_lt {h : List Nat} (H : IsHeap h) {c d : Nat} (hcd : c < d) : dg h c < dg h d := by
  unfold dg
  have := H.le (Nat.le_of_lt hcd)
  omega
theorem dg_inj {h : List Nat} (H : IsHeap h) {c d : Nat} (e : dg h c = dg h d) : c = d := by
  rcases Nat.lt_trichotomy c d with q | q | q
  · have := dg_lt H q
    omega
  · exact q
  · have := dg_lt H q
    omega
theorem dg_two {h : List Nat} (H : IsHeap h) {c d : Nat} (hcd : c < d) (o : opn h d = true) : dg h c + 2 ≤ dg h d := by
  obtain ⟨e, rfl⟩ : ∃ e, d = e + 1 := ⟨d - 1, by omega⟩
  have a := opn_lt o
  have b := H.le (show c ≤ e by omega)
  unfold dg
  omega
def oc (h : List Nat) : List Nat := (List.range (h.length + 1)).filter (opn h)
theorem oc_mem {h : List Nat} {c : Nat} : c ∈ oc h ↔ opn h c = true := by
  unfold oc
  rw [List.mem_filter, List.mem_range]
  exact ⟨fun z => z.2, fun z => ⟨Nat.lt_succ_of_le (opn_le z), z⟩⟩
end HM

/-! own rules: xs[i] op= e of a list; range(n) as a value, walked later -/
namespace LX
open PySem PySem.Spec PyProof.Rows L2
section
variable {X : Cx}
/-- xs[i] by values, 0 ≤ i -/
def rGetL (K : PySem.W.Frag) : V → V → Hp → VK → Prop := fun o i H Q => ∃ (a : Addr) (ys : List V) (j : Nat) (v : V), o = .ref a ∧ i = .int (j : Int) ∧ SqL K H a ys ∧ ys[j]? = some v ∧ Q v H
theorem get_list : PGet X (rGetL X.K) := by
  intro pins s σ H o i ov iv Q I ro ri h
  obtain ⟨a, ys, j, v, rfl, rfl, hq, hv, q⟩ := h
  cases ro
  obtain ⟨t, rfl⟩ := ri
  obtain ⟨its, r, pl, hz⟩ := I.list hq
  obtain ⟨u, hu, ru⟩ := r.get hv
  have hn := line63
  have hj := (List.getElem?_eq_some_iff.mp hu).1
  have hl := r.length
  exact wpAny_getItem_list pl.isList (by omega) (by omega) (by simpa using hu) ⟨v, H, I, ru, q⟩
/-- range(n), a new range object -/
theorem cr_range1 : CallR X (.type "range") (fun vs H Q => ∃ j, vs = [V.int j] ∧ ∀ p, H p = none → Q (.ref p) (upd H p (.rng 0 j))) := by
  intro pins s σ H vs us Q I r h
  obtain ⟨j, rfl, q⟩ := h
  obtain ⟨u1, rfl, rj⟩ := vals1 r
  obtain ⟨t, rfl⟩ := rj
  have nw : ObjOk X.prog X.w (upd H s.heap.objs.size (.rng 0 j)) (s.heap.push { cls := .type "range", data := .fields #[.int 0 s.toks, .int j t, .int 1 (s.toks + 1)] }) s.heap.objs.size (.rng 0 j) := ⟨s.toks, t, s.toks + 1, Heap.get?_push_size _ rfl⟩
  exact call_range_1 ⟨.ref s.heap.objs.size, _, I.laid (t' := s.toks + 1 + 1) (fun b o e => Heap.get?_push_of_some _ e) (Nat.le_refl _) nw, rfl, q _ (I.hok.fresh (Nat.le_refl _))⟩
/-- a range object that stands, walked -/
def iRngV (te : TE) : TI := fun σ H R => te σ H fun x H1 => ∃ (p : Addr) (lo hi : Int), x = .ref p ∧ H1 p = some (.rng lo hi) ∧ (-(2 ^ 62) ≤ lo ∧ lo < 2 ^ 62 ∧ -(2 ^ 62) ≤ hi ∧ hi < 2 ^ 62) ∧ R (Itr lo (hi - lo).toNat) H1
theorem pi_rngV {tg e : Expr} {te : TE} (he : PE X e te) : PI X tg e (iRngV te) := by
  refine ⟨fun pins s σ H R I h => ?_⟩
  refine thn (he.run pins s σ H _ I h) fun u s1 ⟨x, H1, I1, r1, p, lo, hi, ex, hp, ⟨b1, b2, b3, b4⟩, q⟩ => ?_
  subst ex
  obtain rfl : u = Value.ref p := r1
  obtain ⟨t, u, v, g⟩ := (show ObjOk X.prog X.w H1 s1.heap p (.rng lo hi) from I1.hok p _ hp)
  refine wpAny_pyIter_range (s := s1) g (small_one b1 b2 b3 b4) ?_
  refine ⟨s1.heap.objs.size, [s1.heap.objs.size], _, _, H1, rfl, I1.kept (t' := s1.toks) fun b o e => Heap.get?_push_of_some _ e, turn_range _ lo (hi - lo).toNat, ?_, fun b hb => ?_, q⟩
  · have e1 : lo + ((0 : Nat) : Int) * 1 = lo := by simp
    have e2 : (((hi - lo).toNat : Nat) : Int) - ((0 : Nat) : Int) = Builtin.Range.rangeSize lo hi 1 := by
      rw [rangeSize_one]
      split <;> omega
    show IsRangeIter _ _ (lo + ((0 : Nat) : Int) * 1) ((((hi - lo).toNat : Nat) : Int) - ((0 : Nat) : Int)) 1
    rw [e1, e2]
    exact Heap.get?_push_size _ rfl
  · obtain rfl : b = s1.heap.objs.size := by simpa using hb
    exact I1.fpOk (Nat.le_refl _) (I1.hok.fresh (Nat.le_refl _))
end
end LX

namespace K1
open PySem PySem.Spec PyProof.Rows L2 Evl HM LX
/-! ### heaps -/
def hv (h : List Nat) : List V := h.map fun (n : Nat) => V.int (n : Int)
theorem hv_len (h : List Nat) : (hv h).length = h.length := List.length_map ..
theorem hv_get {h : List Nat} {c : Nat} (hc : c < h.length) : (hv h)[c]? = some (V.int (hAt h c : Int)) := by
  unfold hv
  rw [List.getElem?_map, hAt_lt hc]
  rfl
def HeapAt (H : Hp) (p : Addr) (h : List Nat) : Prop := H p = some (.tup (hv h))
/-- a heap that the package takes -/
structure Good (h : List Nat) : Prop where
  heap : IsHeap h
  len : h.length ≤ 60
  top : hAt h 0 ≤ 60
theorem Good.all {h : List Nat} (G : Good h) (c : Nat) : hAt h c ≤ 60 := Nat.le_trans (G.heap.le (Nat.zero_le c)) G.top
section
variable {P : Program} {w : World} {K : PySem.W.Frag} {mg : Str → Option Value} {base : Heap}
def spCheckBetween (K : PySem.W.Frag) : Sp := fun vs H Q _ => ∃ i lo hi : Int, vs = [.int i, .int lo, .int hi] ∧ lo ≤ i ∧ i ≤ hi ∧ -(10 ^ 60) < i ∧ i < 10 ^ 60 ∧ ∀ H', Ex H H' → Q .non H'
def spIsHeap (K : PySem.W.Frag) : Sp := fun vs H Q _ => ∃ p h, vs = [.ref p] ∧ HeapAt H p h ∧ Good h ∧ ∀ H', Ex H H' → Q (.bl true) H'
def spCheckHeap (K : PySem.W.Frag) : Sp := fun vs H Q _ => ∃ p h, vs = [.ref p] ∧ HeapAt H p h ∧ Good h ∧ ∀ H', Ex H H' → Q .non H'
def spHeightAt : Sp := fun vs H Q _ => ∃ p h, ∃ c : Nat, vs = [.ref p, .int (c : Int)] ∧ HeapAt H p h ∧ ∀ H', Ex H H' → Q (.int (hAt h c : Int)) H'
/-- the list of columns -/
def spOpenColumns : Sp := fun vs H Q _ => ∃ p h, vs = [.ref p] ∧ HeapAt H p h ∧ h.length ≤ 100 ∧ ∀ a H', Ex H H' → H a = none → H' a = some (.lst (hv (oc h))) → Q (.ref a) H'
theorem oc_snoc (h : List Nat) (i : Nat) : ((List.range (i + 1)).filter (opn h)) = ((List.range i).filter (opn h)) ++ (if opn h i = true then [i] else []) := by
  rw [List.range_succ, List.filter_append]
  by_cases q : opn h i = true
  · rw [if_pos q, List.filter_cons, if_pos q]
    rfl
  · rw [if_neg q, List.filter_cons, if_neg q]
    rfl
theorem hv_snoc (l : List Nat) (c : Nat) : hv (l ++ [c]) = hv l ++ [V.int (c : Int)] := by
  unfold hv
  rw [List.map_append]
  rfl
end
end K1

namespace K1
open PySem PySem.Spec PyProof.Rows L2 Evl HM LX
theorem hv_set {l : List Nat} {d x : Nat} : (hv l).set d (V.int (x : Int)) = hv (l.set d x) := by
  unfold hv
  rw [List.map_set]
theorem hv_at {l : List Nat} {i x : Nat} (h : l[i]? = some x) : (hv l)[i]? = some (V.int (x : Int)) := by
  unfold hv
  rw [List.getElem?_map, h]
  rfl
theorem hv_inv {l : List Nat} {i : Nat} {v : V} (h : (hv l)[i]? = some v) : ∃ x, l[i]? = some x ∧ v = V.int (x : Int) := by
  unfold hv at h
  rw [List.getElem?_map] at h
  cases e : l[i]? with
  | none =>
    rw [e] at h
    cases h
  | some x =>
    rw [e] at h
    exact ⟨x, rfl, (Option.some.inj h).symm⟩
theorem take_filter_snoc {α : Type} {l : List α} {i : Nat} {x : α} (g : α → Bool) (h : l[i]? = some x) : (l.take (i + 1)).filter g = (l.take i).filter g ++ (if g x = true then [x] else []) := by
  rw [List.take_add_one, h, List.filter_append]
  show _ ++ [x].filter g = _
  by_cases q : g x = true
  · rw [if_pos q, List.filter_cons, if_pos q]
    rfl
  · rw [if_neg q, List.filter_cons, if_neg q]
    rfl
section
variable {P : Program} {w : World} {K : PySem.W.Frag} {mg : Str → Option Value} {base : Heap}
def spHeaped : Sp := fun vs H Q _ => ∃ p a h cols, vs = [.ref p, .ref a] ∧ HeapAt H p h ∧ H a = some (.lst (hv cols)) ∧ h.length ≤ 100 ∧ (∀ c ∈ cols, c ≤ h.length) ∧
  ∀ r H', Ex H H' → HeapAt H' r ((hts h (cnt cols)).filter fun x => decide (0 < x)) → Q (.ref r) H'
/-- which columns a ring with a place adds to -/
def gl (h : List Nat) (n s q : Int) (c : Nat) : Bool := opn h c && decide ((dg h c * s - q) % n = 0)
theorem gl_opn {h : List Nat} {n s q : Int} (c : Nat) (z : gl h n s q c = true) : opn h c = true := by
  unfold gl at z
  exact (Bool.and_eq_true_iff.mp z).1
def spGrownBy : Sp := fun vs H Q _ => ∃ p h x n s q, vs = [.ref p, x, .int q] ∧ HeapAt H p h ∧ IsHeap h ∧ h.length ≤ 100 ∧ RingAt H 60 x n s ∧ ∀ r H', Ex H H' → HeapAt H' r (grow h (gl h n s q)) → Q (.ref r) H'
end
end K1

/-! own walks: comprehensions and loops over zip and enumerate of tuples, zip of lists of any lengths -/
namespace ZW
open PySem PySem.Spec PyProof.Rows L2
theorem lc_zipT {K : PySem.W.Frag} {a b : Addr} {xs ys : List V} {n : Nat} {g : TG} {tt : TT} {te : TE} {vs : List Nat} {σ : L2.St} {H1 : Hp} {D : Addr} {Qd : Hp → Prop} (hx : n ≤ xs.length) (hy : n ≤ ys.length) (hn : xs.length ≤ n ∨ ys.length ≤ n)
    (Pv : Nat → Hp → Prop) (h0 : Pv 0 (upd H1 D (.lst []))) (hq : ∀ i H, Pv i H → SqT K H a xs ∧ SqT K H b ys)
    (hs : ∀ i x y T H, i < n → xs[i]? = some x → ys[i]? = some y → Pv i H → H T = none → g (.ref T) (wipe σ vs) (upd H T (.tup [x, y])) fun σ2 H2 => wipe σ2 vs = wipe σ vs ∧ tt σ2 H2 fun c H3 =>
      if c = true then te σ2 H3 fun z H4 => ∃ acc, H4 D = some (.lst acc) ∧ acc.length < sizeLine ∧ Pv (i + 1) (upd H4 D (.lst (acc ++ [z]))) else Pv (i + 1) H3) (hd : ∀ H, Pv n H → Qd H) :
    ∃ W : Nat → Nat → Hp → Prop, (∃ m, W 0 m (upd H1 D (.lst []))) ∧ ∀ i m H, W i m H →
      ((RZ.ItzT K a b).stop i H ∧ Qd H) ∨ ((RZ.ItzT K a b).go i H ∧ ∃ Nx : Hp → Prop, (∀ H', Nx H' → ∃ m', m' < m ∧ W (i + 1) m' H') ∧ ∀ v H', (RZ.ItzT K a b).yld i H v H' → g v (wipe σ vs) H' fun σ2 H2 => wipe σ2 vs = wipe σ vs ∧ tt σ2 H2 fun c H3 =>
        if c = true then te σ2 H3 fun z H4 => ∃ acc, H4 D = some (.lst acc) ∧ acc.length < sizeLine ∧ Nx (upd H4 D (.lst (acc ++ [z]))) else Nx H3) := by
  refine ⟨fun i m H => m = n - i ∧ i ≤ n ∧ Pv i H, ⟨n, (Nat.sub_zero n).symm, Nat.zero_le _, h0⟩, ?_⟩
  rintro i m H ⟨rfl, hi, p⟩
  obtain ⟨qa, qb⟩ := hq i H p
  by_cases hlt : i < n
  · have e1 : xs[i]? = some (xs[i]'(by omega)) := List.getElem?_eq_getElem _
    have e2 : ys[i]? = some (ys[i]'(by omega)) := List.getElem?_eq_getElem _
    refine .inr ⟨⟨xs, ys, _, _, qa, qb, e1, e2⟩, Pv (i + 1), fun H' p' => ⟨n - (i + 1), by omega, rfl, hlt, p'⟩, fun v H' hy' => ?_⟩
    obtain ⟨T, x, y, rfl, nT, rfl, fx, fy⟩ := hy'
    exact hs i x y T H hlt (fx _ qa) (fy _ qb) p nT
  · have e : i = n := by omega
    subst e
    exact .inl ⟨⟨xs, ys, qa, qb, by omega⟩, hd H p⟩
theorem for_zipT {K : PySem.W.Frag} {a b : Addr} {xs ys : List V} {n : Nat} {g : TG} {tb : TS} {D : Ends} {σ : L2.St} {H : Hp} (hx : n ≤ xs.length) (hy : n ≤ ys.length) (hn : xs.length ≤ n ∨ ys.length ≤ n)
    (Pv : Nat → L2.St → Hp → Prop) (h0 : Pv 0 σ H) (hq : ∀ i σ H, Pv i σ H → SqT K H a xs ∧ SqT K H b ys)
    (hs : ∀ i x y T σ H, i < n → xs[i]? = some x → ys[i]? = some y → Pv i σ H → H T = none → g (.ref T) σ (upd H T (.tup [x, y])) fun σ2 H2 => tb { D with nx := Pv (i + 1), ct := Pv (i + 1), bk := D.nx } σ2 H2) (hd : ∀ σ H, Pv n σ H → D.nx σ H) :
    ∃ W : Nat → Nat → L2.St → Hp → Prop, (∃ m, W 0 m σ H) ∧ ∀ i m σ H, W i m σ H →
      ((RZ.ItzT K a b).stop i H ∧ D.nx σ H) ∨ ((RZ.ItzT K a b).go i H ∧ ∃ N : L2.St → Hp → Prop, (∀ σ' H', N σ' H' → ∃ m', m' < m ∧ W (i + 1) m' σ' H') ∧ ∀ v H', (RZ.ItzT K a b).yld i H v H' → g v σ H' fun σ2 H2 => tb { D with nx := N, ct := N, bk := D.nx } σ2 H2) := by
  refine ⟨fun i m σ H => m = n - i ∧ i ≤ n ∧ Pv i σ H, ⟨n, (Nat.sub_zero n).symm, Nat.zero_le _, h0⟩, ?_⟩
  rintro i m σ H ⟨rfl, hi, p⟩
  obtain ⟨qa, qb⟩ := hq i σ H p
  by_cases hlt : i < n
  · have e1 : xs[i]? = some (xs[i]'(by omega)) := List.getElem?_eq_getElem _
    have e2 : ys[i]? = some (ys[i]'(by omega)) := List.getElem?_eq_getElem _
    refine .inr ⟨⟨xs, ys, _, _, qa, qb, e1, e2⟩, Pv (i + 1), fun σ' H' p' => ⟨n - (i + 1), by omega, rfl, hlt, p'⟩, fun v H' hy' => ?_⟩
    obtain ⟨T, x, y, rfl, nT, rfl, fx, fy⟩ := hy'
    exact hs i x y T σ H hlt (fx _ qa) (fy _ qb) p nT
  · have e : i = n := by omega
    subst e
    exact .inl ⟨⟨xs, ys, qa, qb, by omega⟩, hd σ H p⟩
theorem lc_zipL {K : PySem.W.Frag} {a b : Addr} {xs ys : List V} {n : Nat} {g : TG} {tt : TT} {te : TE} {vs : List Nat} {σ : L2.St} {H1 : Hp} {D : Addr} {Qd : Hp → Prop} (hx : n ≤ xs.length) (hy : n ≤ ys.length) (hn : xs.length ≤ n ∨ ys.length ≤ n)
    (Pv : Nat → Hp → Prop) (h0 : Pv 0 (upd H1 D (.lst []))) (hq : ∀ i H, Pv i H → SqL K H a xs ∧ SqL K H b ys)
    (hs : ∀ i x y T H, i < n → xs[i]? = some x → ys[i]? = some y → Pv i H → H T = none → g (.ref T) (wipe σ vs) (upd H T (.tup [x, y])) fun σ2 H2 => wipe σ2 vs = wipe σ vs ∧ tt σ2 H2 fun c H3 =>
      if c = true then te σ2 H3 fun z H4 => ∃ acc, H4 D = some (.lst acc) ∧ acc.length < sizeLine ∧ Pv (i + 1) (upd H4 D (.lst (acc ++ [z]))) else Pv (i + 1) H3) (hd : ∀ H, Pv n H → Qd H) :
    ∃ W : Nat → Nat → Hp → Prop, (∃ m, W 0 m (upd H1 D (.lst []))) ∧ ∀ i m H, W i m H →
      ((Itz K a b).stop i H ∧ Qd H) ∨ ((Itz K a b).go i H ∧ ∃ Nx : Hp → Prop, (∀ H', Nx H' → ∃ m', m' < m ∧ W (i + 1) m' H') ∧ ∀ v H', (Itz K a b).yld i H v H' → g v (wipe σ vs) H' fun σ2 H2 => wipe σ2 vs = wipe σ vs ∧ tt σ2 H2 fun c H3 =>
        if c = true then te σ2 H3 fun z H4 => ∃ acc, H4 D = some (.lst acc) ∧ acc.length < sizeLine ∧ Nx (upd H4 D (.lst (acc ++ [z]))) else Nx H3) := by
  refine ⟨fun i m H => m = n - i ∧ i ≤ n ∧ Pv i H, ⟨n, (Nat.sub_zero n).symm, Nat.zero_le _, h0⟩, ?_⟩
  rintro i m H ⟨rfl, hi, p⟩
  obtain ⟨qa, qb⟩ := hq i H p
  by_cases hlt : i < n
  · have e1 : xs[i]? = some (xs[i]'(by omega)) := List.getElem?_eq_getElem _
    have e2 : ys[i]? = some (ys[i]'(by omega)) := List.getElem?_eq_getElem _
    refine .inr ⟨⟨xs, ys, _, _, qa, qb, e1, e2⟩, Pv (i + 1), fun H' p' => ⟨n - (i + 1), by omega, rfl, hlt, p'⟩, fun v H' hy' => ?_⟩
    obtain ⟨T, x, y, rfl, nT, rfl, fx, fy⟩ := hy'
    exact hs i x y T H hlt (fx _ qa) (fy _ qb) p nT
  · have e : i = n := by omega
    subst e
    exact .inl ⟨⟨xs, ys, qa, qb, by omega⟩, hd H p⟩
theorem for_zipL {K : PySem.W.Frag} {a b : Addr} {xs ys : List V} {n : Nat} {g : TG} {tb : TS} {D : Ends} {σ : L2.St} {H : Hp} (hx : n ≤ xs.length) (hy : n ≤ ys.length) (hn : xs.length ≤ n ∨ ys.length ≤ n)
    (Pv : Nat → L2.St → Hp → Prop) (h0 : Pv 0 σ H) (hq : ∀ i σ H, Pv i σ H → SqL K H a xs ∧ SqL K H b ys)
    (hs : ∀ i x y T σ H, i < n → xs[i]? = some x → ys[i]? = some y → Pv i σ H → H T = none → g (.ref T) σ (upd H T (.tup [x, y])) fun σ2 H2 => tb { D with nx := Pv (i + 1), ct := Pv (i + 1), bk := D.nx } σ2 H2) (hd : ∀ σ H, Pv n σ H → D.nx σ H) :
    ∃ W : Nat → Nat → L2.St → Hp → Prop, (∃ m, W 0 m σ H) ∧ ∀ i m σ H, W i m σ H →
      ((Itz K a b).stop i H ∧ D.nx σ H) ∨ ((Itz K a b).go i H ∧ ∃ N : L2.St → Hp → Prop, (∀ σ' H', N σ' H' → ∃ m', m' < m ∧ W (i + 1) m' σ' H') ∧ ∀ v H', (Itz K a b).yld i H v H' → g v σ H' fun σ2 H2 => tb { D with nx := N, ct := N, bk := D.nx } σ2 H2) := by
  refine ⟨fun i m σ H => m = n - i ∧ i ≤ n ∧ Pv i σ H, ⟨n, (Nat.sub_zero n).symm, Nat.zero_le _, h0⟩, ?_⟩
  rintro i m σ H ⟨rfl, hi, p⟩
  obtain ⟨qa, qb⟩ := hq i σ H p
  by_cases hlt : i < n
  · have e1 : xs[i]? = some (xs[i]'(by omega)) := List.getElem?_eq_getElem _
    have e2 : ys[i]? = some (ys[i]'(by omega)) := List.getElem?_eq_getElem _
    refine .inr ⟨⟨xs, ys, _, _, qa, qb, e1, e2⟩, Pv (i + 1), fun σ' H' p' => ⟨n - (i + 1), by omega, rfl, hlt, p'⟩, fun v H' hy' => ?_⟩
    obtain ⟨T, x, y, rfl, nT, rfl, fx, fy⟩ := hy'
    exact hs i x y T σ H hlt (fx _ qa) (fy _ qb) p nT
  · have e : i = n := by omega
    subst e
    exact .inl ⟨⟨xs, ys, qa, qb, by omega⟩, hd σ H p⟩
theorem for_enumT {K : PySem.W.Frag} {a : Addr} {xs : List V} {g : TG} {tb : TS} {D : Ends} {σ : L2.St} {H : Hp} (Pv : Nat → L2.St → Hp → Prop) (h0 : Pv 0 σ H) (hq : ∀ i σ H, Pv i σ H → SqT K H a xs)
    (hs : ∀ i x T σ H, xs[i]? = some x → Pv i σ H → H T = none → g (.ref T) σ (upd H T (.tup [.int (i : Nat), x])) fun σ2 H2 => tb { D with nx := Pv (i + 1), ct := Pv (i + 1), bk := D.nx } σ2 H2) (hd : ∀ σ H, Pv xs.length σ H → D.nx σ H) :
    ∃ W : Nat → Nat → L2.St → Hp → Prop, (∃ m, W 0 m σ H) ∧ ∀ i m σ H, W i m σ H →
      ((EnT.IteT K a).stop i H ∧ D.nx σ H) ∨ ((EnT.IteT K a).go i H ∧ ∃ N : L2.St → Hp → Prop, (∀ σ' H', N σ' H' → ∃ m', m' < m ∧ W (i + 1) m' σ' H') ∧ ∀ v H', (EnT.IteT K a).yld i H v H' → g v σ H' fun σ2 H2 => tb { D with nx := N, ct := N, bk := D.nx } σ2 H2) := by
  refine ⟨fun i m σ H => m = xs.length - i ∧ i ≤ xs.length ∧ Pv i σ H, ⟨xs.length, (Nat.sub_zero _).symm, Nat.zero_le _, h0⟩, ?_⟩
  rintro i m σ H ⟨rfl, hi, p⟩
  have qa := hq i σ H p
  by_cases hlt : i < xs.length
  · have e1 : xs[i]? = some (xs[i]'hlt) := List.getElem?_eq_getElem _
    refine .inr ⟨⟨xs, _, qa, e1⟩, Pv (i + 1), fun σ' H' p' => ⟨xs.length - (i + 1), by omega, rfl, hlt, p'⟩, fun v H' hy' => ?_⟩
    obtain ⟨T, x, rfl, nT, rfl, fx⟩ := hy'
    exact hs i x T σ H (fx _ qa) p nT
  · have e : i = xs.length := by omega
    subst e
    exact .inl ⟨⟨xs, qa, rfl⟩, hd σ H p⟩
theorem lc_enumT {K : PySem.W.Frag} {a : Addr} {xs : List V} {g : TG} {tt : TT} {te : TE} {vs : List Nat} {σ : L2.St} {H1 : Hp} {D : Addr} {Qd : Hp → Prop} (Pv : Nat → Hp → Prop) (h0 : Pv 0 (upd H1 D (.lst []))) (hq : ∀ i H, Pv i H → SqT K H a xs)
    (hs : ∀ i x T H, xs[i]? = some x → Pv i H → H T = none → g (.ref T) (wipe σ vs) (upd H T (.tup [.int (i : Nat), x])) fun σ2 H2 => wipe σ2 vs = wipe σ vs ∧ tt σ2 H2 fun c H3 =>
      if c = true then te σ2 H3 fun z H4 => ∃ acc, H4 D = some (.lst acc) ∧ acc.length < sizeLine ∧ Pv (i + 1) (upd H4 D (.lst (acc ++ [z]))) else Pv (i + 1) H3) (hd : ∀ H, Pv xs.length H → Qd H) :
    ∃ W : Nat → Nat → Hp → Prop, (∃ m, W 0 m (upd H1 D (.lst []))) ∧ ∀ i m H, W i m H →
      ((EnT.IteT K a).stop i H ∧ Qd H) ∨ ((EnT.IteT K a).go i H ∧ ∃ Nx : Hp → Prop, (∀ H', Nx H' → ∃ m', m' < m ∧ W (i + 1) m' H') ∧ ∀ v H', (EnT.IteT K a).yld i H v H' → g v (wipe σ vs) H' fun σ2 H2 => wipe σ2 vs = wipe σ vs ∧ tt σ2 H2 fun c H3 =>
        if c = true then te σ2 H3 fun z H4 => ∃ acc, H4 D = some (.lst acc) ∧ acc.length < sizeLine ∧ Nx (upd H4 D (.lst (acc ++ [z]))) else Nx H3) := by
  refine ⟨fun i m H => m = xs.length - i ∧ i ≤ xs.length ∧ Pv i H, ⟨xs.length, (Nat.sub_zero _).symm, Nat.zero_le _, h0⟩, ?_⟩
  rintro i m H ⟨rfl, hi, p⟩
  have qa := hq i H p
  by_cases hlt : i < xs.length
  · have e1 : xs[i]? = some (xs[i]'hlt) := List.getElem?_eq_getElem _
    refine .inr ⟨⟨xs, _, qa, e1⟩, Pv (i + 1), fun H' p' => ⟨xs.length - (i + 1), by omega, rfl, hlt, p'⟩, fun v H' hy' => ?_⟩
    obtain ⟨T, x, rfl, nT, rfl, fx⟩ := hy'
    exact hs i x T H (fx _ qa) p nT
  · have e : i = xs.length := by omega
    subst e
    exact .inl ⟨⟨xs, qa, rfl⟩, hd H p⟩
end ZW

namespace K1
open PySem PySem.Spec PyProof.Rows L2 Evl HM LX ZW
theorem grow_good {h : List Nat} {g : Nat → Bool} (G : IsHeap h) (h1 : h.length < 60) (h2 : hAt h 0 < 60) (hg : ∀ c, g c = true → opn h c = true) : Good (grow h g) := by
  refine ⟨grow_heap G hg, ?_, ?_⟩
  · rw [grow_len]
    have := b2n_le (g h.length)
    omega
  · rw [hAt_grow hg]
    have := b2n_le (g 0)
    omega
/-- ints of a tuple of places -/
def PlacesT (H : Hp) (a : Addr) (ps : List Int) : Prop := H a = some (.tup (ps.map V.int))
/-- the heaps behind each ring -/
def hseq (rs : List (Int × Int)) (ps : List Int) : Nat → List Nat
  | 0 => []
  | i + 1 => grow (hseq rs ps i) (gl (hseq rs ps i) (K1N.nAt rs i) (K1N.sAt rs i) (ps.getD i 0))
theorem hseq_ok (rs : List (Int × Int)) (ps : List Int) : ∀ i, IsHeap (hseq rs ps i) ∧ (hseq rs ps i).length ≤ i ∧ hAt (hseq rs ps i) 0 ≤ i
  | 0 => ⟨IsHeap.nil, Nat.le_refl _, Nat.le_refl _⟩
  | i + 1 => by
    obtain ⟨a, b, c⟩ := hseq_ok rs ps i
    refine ⟨grow_heap a gl_opn, ?_, ?_⟩
    · show (grow _ _).length ≤ _
      rw [grow_len]
      have := b2n_le (gl (hseq rs ps i) (K1N.nAt rs i) (K1N.sAt rs i) (ps.getD i 0) (hseq rs ps i).length)
      omega
    · show hAt (grow _ _) 0 ≤ _
      rw [hAt_grow gl_opn]
      have := b2n_le (gl (hseq rs ps i) (K1N.nAt rs i) (K1N.sAt rs i) (ps.getD i 0) 0)
      omega
theorem rings_nth4 {H : Hp} {most : Int} {xs : List V} {rs : List (Int × Int)} (h : RingsAt H most xs rs) {j : Nat} {x : V} (hx : xs[j]? = some x) : RingAt H most x (K1N.nAt rs j : Int) (K1N.sAt rs j) := by
  obtain ⟨r, hr, q⟩ := paired_get h hx
  have e : rs.getD j (0, 0) = r := by
    rw [List.getD_eq_getElem?_getD, hr]
    rfl
  obtain ⟨t, e1, e2, e3, e4, e5, e6⟩ := id q
  unfold K1N.nAt K1N.sAt
  rw [e, show ((r.1.toNat : Nat) : Int) = r.1 by omega]
  exact q
theorem rings_ex4 {H H' : Hp} {most : Int} {xs : List V} {rs : List (Int × Int)} (e : Ex H H') (h : RingsAt H most xs rs) : RingsAt H' most xs rs := paired_imp (fun _ _ z => RingAt.ex e z) h
theorem rings_chain4 {K : PySem.W.Frag} {H : Hp} {a : Addr} {xs : List V} {rs : List (Int × Int)} (h : RingsAt H 60 xs rs) (ha : H a = some (.tup xs)) (h1 : 1 ≤ xs.length) (h2 : xs.length ≤ 12) : ChainB K H (.ref a) true := by
  have p : ∀ {xs : List V} {rs : List (Int × Int)}, RingsAt H 60 xs rs → Paired (RingB K H) xs (List.replicate xs.length true) := by
    intro xs rs h
    induction h with
    | nil => exact .nil
    | cons r _ ih => exact .cons (RingAt.ring r (Int.le_refl _)) ih
  have q := ChainB.tup (K := K) ha ⟨h1, h2⟩ (p h)
  rw [show (List.replicate xs.length true).all id = true by simp] at q
  exact q
section
variable {P : Program} {w : World} {K : PySem.W.Frag} {mg : Str → Option Value} {base : Heap}
def spGrown : Sp := fun vs H Q _ => ∃ p h x n s q, vs = [.ref p, x, .int q] ∧ HeapAt H p h ∧ IsHeap h ∧ h.length < 60 ∧ hAt h 0 < 60 ∧ RingAt H 60 x n s ∧ 0 ≤ q ∧ q < n ∧ ∀ r H', Ex H H' → HeapAt H' r (grow h (gl h n s q)) → Q (.ref r) H'
def spCheckPlaces (K : PySem.W.Frag) : Sp := fun vs H Q _ => ∃ c a xs rs ps, vs = [.ref c, .ref a] ∧ H c = some (.tup xs) ∧ RingsAt H 60 xs rs ∧ xs.length ≤ 12 ∧ PlacesT H a ps ∧ ps.length = xs.length ∧ (∀ j : Nat, j < ps.length → 0 ≤ ps.getD j 0 ∧ ps.getD j 0 < (K1N.nAt rs j : Int)) ∧ ∀ H', Ex H H' → Q .non H'
def spLiesTold (K : PySem.W.Frag) : Sp := fun vs H Q E => spCheckPlaces K vs H (fun _ H' => Q (.bl true) H') E
/-- the list of the heaps -/
def spHeapsOf : Sp := fun vs H Q _ => ∃ c a xs rs ps, vs = [.ref c, .ref a] ∧ H c = some (.tup xs) ∧ RingsAt H 60 xs rs ∧ xs.length ≤ 12 ∧ PlacesT H a ps ∧ ps.length = xs.length ∧
  ∀ (p : Addr) (as : List Addr) (H' : Hp), Ex H H' → H p = none → H' p = some (.lst (as.map V.ref)) → as.length = xs.length + 1 → (∀ i b, as[i]? = some b → HeapAt H' b (hseq rs ps i)) → Q (.ref p) H'
end
end K1

namespace K1
open PySem PySem.Spec PyProof.Rows L2 Evl HM LX ZW
theorem at_end {as : List Addr} {g : Nat} (h : as.length = g + 1) : atI (as.map V.ref) (-1) = some (V.ref (as[g]'(by omega))) := by
  have e : as = as.take g ++ [as[g]'(by omega)] := by
    have := List.take_append_getElem (l := as) (i := g) (by omega)
    rw [this, List.take_of_length_le (by omega)]
  have e2 : as.map V.ref = (as.take g).map V.ref ++ [V.ref (as[g]'(by omega))] := by
    conv => lhs; rw [e]
    rw [List.map_append]
    rfl
  rw [e2]
  exact atI_last _ _
section
variable {P : Program} {w : World} {K : PySem.W.Frag} {mg : Str → Option Value} {base : Heap}
def spHeapOf : Sp := fun vs H Q _ => ∃ c a xs rs ps, vs = [.ref c, .ref a] ∧ H c = some (.tup xs) ∧ RingsAt H 60 xs rs ∧ (1 ≤ xs.length ∧ xs.length ≤ 12) ∧ PlacesT H a ps ∧ ps.length = xs.length ∧ (∀ j : Nat, j < ps.length → 0 ≤ ps.getD j 0 ∧ ps.getD j 0 < (K1N.nAt rs j : Int)) ∧
  ∀ (b : Addr) H', Ex H H' → HeapAt H' b (hseq rs ps xs.length) → Q (.ref b) H'
def spHeapsAlong : Sp := fun vs H Q _ => ∃ c a xs rs ps, vs = [.ref c, .ref a] ∧ H c = some (.tup xs) ∧ RingsAt H 60 xs rs ∧ (1 ≤ xs.length ∧ xs.length ≤ 12) ∧ PlacesT H a ps ∧ ps.length = xs.length ∧ (∀ j : Nat, j < ps.length → 0 ≤ ps.getD j 0 ∧ ps.getD j 0 < (K1N.nAt rs j : Int)) ∧
  ∀ (r : Addr) (as : List Addr) H', Ex H H' → H' r = some (.tup (as.map V.ref)) → as.length = xs.length + 1 → (∀ i b, as[i]? = some b → HeapAt H' b (hseq rs ps i)) → Q (.ref r) H'
/-- how many squares the first columns have -/
def sumT (h : List Nat) : Nat → Nat
  | 0 => 0
  | i + 1 => sumT h i + hAt h i
theorem sumT_le {h : List Nat} (G : Good h) : ∀ i, sumT h i ≤ 60 * i
  | 0 => Nat.le_refl _
  | i + 1 => by
    show sumT h i + hAt h i ≤ _
    have := sumT_le G i
    have := G.all i
    omega
def spSquares : Sp := fun vs H Q _ => ∃ p h, vs = [.ref p] ∧ HeapAt H p h ∧ Good h ∧ ∀ r ys H', Ex H H' → H' r = some (.tup ys) → ys.length = sumT h h.length → Q (.ref r) H'
end
end K1

namespace K1
open PySem PySem.Spec PyProof.Rows L2 Evl HM LX ZW
/-! ### data: ints in lists and tuples -/
theorem dp_ints {K : PySem.W.Frag} {H : Hp} : ∀ ns : List Int, DpAll K H (ns.map V.int) (ns.map PyData.int)
  | [] => .nil
  | n :: r => .cons (.int n) (dp_ints r)
theorem can_ints : ∀ l : List Int, PyData.canLayAll0 (l.map PyData.int) = true
  | [] => rfl
  | b :: r => by simp [PyData.canLayAll0, PyData.canLay0, can_ints r]
theorem shaped_intsL (ns : List Int) : SeqAt.shaped (.list (ns.map PyData.int)) = true := by
  induction ns with
  | nil => rfl
  | cons b r ih => exact ih
theorem depth_ints : ∀ l : List Int, PyData.depthAll (l.map PyData.int) ≤ 60
  | [] => by decide
  | b :: r => by
    have := depth_ints r
    simp only [List.map_cons, PyData.depthAll, PyData.depth]
    omega
theorem shaped_intsT (ns : List Int) : SeqAt.shaped (.tuple (ns.map PyData.int)) = true := by
  unfold SeqAt.shaped
  have h1 : (PyData.tuple (ns.map PyData.int)).canLay0 = true := by simp [PyData.canLay0, can_ints ns]
  have h2 : (PyData.tuple (ns.map PyData.int)).depth ≤ 64 := by
    have := depth_ints ns
    simp only [PyData.depth]
    omega
  rw [h1, decide_eq_true h2]
  rfl
theorem eqv_intsL (ns : List Int) : PyData.eqv (.list (ns.map PyData.int)) (.list (ns.map PyData.int)) = true := SeqAt.eqv_refl _ (by simp [PyData.canLay0, can_ints ns])
theorem eqv_intsT (ns : List Int) : PyData.eqv (.tuple (ns.map PyData.int)) (.tuple (ns.map PyData.int)) = true := SeqAt.eqv_refl _ (by simp [PyData.canLay0, can_ints ns])
theorem eqv_nil : PyData.eqv (.list []) (.list []) = true := eqv_intsL []
theorem eqv_consnil (d : PyData) (ds : List PyData) : PyData.eqv (.list (d :: ds)) (.list []) = false := by simp [PyData.eqv, PyData.eqvAll]
theorem erase_perm {ls : List Int} {i : Nat} {y : Int} (h : ls[i]? = some y) : ls.Perm (y :: ls.eraseIdx i) := by
  induction ls generalizing i with
  | nil => simp at h
  | cons x r ih =>
    cases i with
    | zero =>
      obtain rfl := Option.some.inj h
      exact .refl _
    | succ i =>
      have := ih (i := i) h
      exact (List.Perm.cons x this).trans (List.Perm.swap y x _)
theorem map_erase {α β : Type} (g : α → β) : ∀ (ls : List α) (i : Nat), (ls.eraseIdx i).map g = (ls.map g).eraseIdx i
  | [], _ => rfl
  | _ :: _, 0 => rfl
  | x :: r, i + 1 => congrArg (g x :: ·) (map_erase g r i)
section
variable {P : Program} {w : World} {K : PySem.W.Frag} {mg : Str → Option Value} {base : Heap}
def spMixed : Sp := fun vs H Q _ => ∃ (d a : Addr) (ns : List Int), vs = [.ref d, .ref a] ∧ Dice H d ∧ H a = some (.lst (ns.map V.int)) ∧ ns.length ≤ 1000 ∧
  ∀ (p : Addr) (ms : List Int) H', ms.Perm ns → H' p = some (.lst (ms.map V.int)) → Dice H' d → Keep d H H' → Q (.ref p) H'
end
end K1

namespace K1
open PySem PySem.Spec PyProof.Rows L2 Evl HM LX ZW
theorem getD_snoc_lt {l : List Int} {x : Int} {j : Nat} (h : j < l.length) : (l ++ [x]).getD j 0 = l.getD j 0 := by
  rw [List.getD_eq_getElem?_getD, List.getD_eq_getElem?_getD, List.getElem?_append_left h]
theorem getD_snoc_eq {l : List Int} {x : Int} : (l ++ [x]).getD l.length 0 = x := by
  rw [List.getD_eq_getElem?_getD, List.getElem?_append_right (Nat.le_refl _), Nat.sub_self]
  rfl
def PlOk (rs : List (Int × Int)) (ps : List Int) : Prop := ∀ j : Nat, j < ps.length → 0 ≤ ps.getD j 0 ∧ ps.getD j 0 < (K1N.nAt rs j : Int)
theorem PlOk.snoc {rs : List (Int × Int)} {ps : List Int} {x : Int} (h : PlOk rs ps) (h0 : 0 ≤ x) (h1 : x < (K1N.nAt rs ps.length : Int)) : PlOk rs (ps ++ [x]) := by
  intro j hj
  by_cases c : j < ps.length
  · rw [getD_snoc_lt c]
    exact h j c
  · have e : j = ps.length := by
      rw [List.length_append] at hj
      have : ([x] : List Int).length = 1 := rfl
      omega
    subst e
    rw [getD_snoc_eq]
    exact ⟨h0, h1⟩
section
variable {P : Program} {w : World} {K : PySem.W.Frag} {mg : Str → Option Value} {base : Heap}
def spTuple : Sp := fun vs H Q _ => ∃ d c xs rs, vs = [.ref d, .ref c] ∧ Dice H d ∧ H c = some (.tup xs) ∧ RingsAt H 60 xs rs ∧ xs.length ≤ 12 ∧
  ∀ (a : Addr) (ps : List Int) H', PlacesT H' a ps → ps.length = xs.length → PlOk rs ps → Dice H' d → Keep d H H' → Q (.ref a) H'
theorem ok_tuple (T : Txt K mg) {f : Addr} {fd : FuncData} (D : DefAt K mg "_law_tuple" sLTuple ["_law_dice_here", "_law_chain_here"] f fd) : FnOk P w K mg base CX0 2 f fd ["_law_dice_here", "_law_chain_here"] spTuple := by
  refine D.F.ok scLTuple (fun vs H Q E h => ?_) (fun cdv A outer s₀ H vs Q E hr h => ?_)
  · obtain ⟨d, c, xs, rs, rfl, _⟩ := h
    rfl
  · obtain ⟨d, c, xs, rs, rfl, hd, hc, hR, hl, q⟩ := h
    obtain ⟨f1, fd1, D1⟩ := T.d_l_roll
    refine ⟨_, pss_cons (ps_set (i := 2) scLTuple.nd rfl (.inl rfl) (pe_lst pa_nil))
      (pss_cons (ps_for PassesOwn.never rfl (pi_tup (pv 1)) (pg_tup (by rfl) (pgs_cons (pg_name (i := 3) scLTuple.nd rfl (.inl rfl)) (pgs_cons (pg_name (i := 4) scLTuple.nd rfl (.inl rfl)) pgs_nil)))
        (pss_one (ps_expr (pe_bm PySem.F.plainAttrs_list PySem.F.slot_list_append PySem.F.type_list_append mt_append (pv 2) (pa_cons
          (pe_ifExp (pt_cmpR op_eq (pe_call (ok_roll T D1) hr (by rfl) D1.g D1.F.kp D1.b .nil pass0 (pa_cons (pv 0) (pa_cons pe_int pa_nil))) pe_int (nomark _))
            (pe_call (ok_roll T D1) hr (by rfl) D1.g D1.F.kp D1.b .nil pass0 (pa_cons (pv 0) (pa_cons (pv 3) pa_nil)))
            (pe_op op_mod (pe_op op_mul (pe_op op_sub (pe_call (ok_roll T D1) hr (by rfl) D1.g D1.F.kp D1.b .nil pass0 (pa_cons (pv 0) (pa_cons pe_int pa_nil))) pe_int) (pv 4)) (pv 3))) pa_nil)))))
      (pss_one (ps_ret (pe_callTy call_tuple_of (by rfl) T.z_tuple (by decide +kernel) (pa_cons (pv 2) pa_nil))))), ?_⟩
    refine ⟨by show 0 ≤ sizeLine; decide, fun l hl0 => ?_⟩
    have ndl : d ≠ l := hd.ne_new hl0
    refine ⟨_, rfl, c, rfl, ⟨_, SqT.of (Ex.new hl0 _ _ hc)⟩, for_tup (K := K) (a := c) (xs := xs) (fun i σ' H' => ∃ (y3 y4 : Option V) (ps : List Int), σ' = [some (.ref d), some (.ref c), some (.ref l), y3, y4] ∧ H' l = some (.lst (ps.map V.int)) ∧ ps.length = i ∧ PlOk rs ps ∧ Dice H' d ∧ Keep d H H')
      ⟨none, none, [], rfl, upd_same, rfl, fun j hj => absurd hj (Nat.not_lt_zero j), hd.upd ndl, Keep.new hl0⟩ (fun i σ' H' _ hW => ?_) (fun i x σ' H' hx hW => ?_) (fun σ' H' hW => ?_)⟩
    · obtain ⟨_, _, _, _, _, _, _, _, k⟩ := hW
      exact SqT.of (k.tup hd hc)
    · obtain ⟨y3, y4, ps, rfl, w1, w2, w3, w4, w5⟩ := hW
      have hi : i < xs.length := (List.getElem?_eq_some_iff.mp hx).1
      have hx0 := rings_nth4 hR hx
      have hx1 := hx0.keep w5 hd
      obtain ⟨t, rfl, ht, b1, b2, b3, b4⟩ := hx1
      have fin : ∀ (z : Int) H3, 0 ≤ z → z < (K1N.nAt rs i : Int) → Dice H3 d → Keep d H' H3 → ∃ l' xs' y, V.ref l = .ref l' ∧ [V.int z] = [y] ∧ H3 l' = some (.lst xs') ∧ xs'.length < sizeLine ∧
          (∃ (y3 y4 : Option V) (ps : List Int), [some (V.ref d), some (V.ref c), some (V.ref l), some (V.int (K1N.nAt rs i : Int)), some (V.int (K1N.sAt rs i))] = [some (.ref d), some (.ref c), some (.ref l), y3, y4] ∧ (upd H3 l' (.lst (xs' ++ [y]))) l = some (.lst (ps.map V.int)) ∧ ps.length = i + 1 ∧ PlOk rs ps ∧ Dice (upd H3 l' (.lst (xs' ++ [y]))) d ∧ Keep d H (upd H3 l' (.lst (xs' ++ [y])))) := fun z H3 z0 z1 hd3 k3 => by
        refine ⟨l, ps.map V.int, _, rfl, rfl, k3 _ _ ndl.symm w1, ?_, _, _, ps ++ [z], rfl, ?_, ?_, ?_, hd3.upd ndl, (w5.trans k3).mut hl0⟩
        · rw [List.length_map]
          exact small1000 (by omega)
        · rw [upd_same, List.map_append]
          rfl
        · rw [List.length_append, w2]
          rfl
        · subst w2
          exact w3.snoc z0 z1
      refine ⟨t, _, rfl, SqT.of ht, rfl, .int _, [.int _], rfl, .int _, [], rfl, rfl, ?_⟩
      refine ⟨_, rfl, .inl ⟨rfl, _, SqL.of w1⟩, _, rfl, d, 4, rfl, w4, by decide, by decide, fun r1 H1 r10 r11 hd1 k1 => ?_⟩
      refine ⟨rfl, _, rfl, ite2 (fun cc => ?_) (fun cc => ?_)⟩
      · refine ⟨_, rfl, _, rfl, d, _, rfl, hd1, by omega, by omega, fun r2 H2 r20 r21 hd2 k2 => ?_⟩
        exact fin r2 H2 r20 r21 hd2 (k1.trans k2)
      · refine ⟨_, rfl, d, 5, rfl, hd1, by decide, by decide, fun r2 H2 r20 r21 hd2 k2 => ?_⟩
        refine ⟨_, _, rfl, rfl, _, rfl, _, _, rfl, rfl, .inr (by constructor <;> omega), _, rfl, _, _, rfl, rfl, by omega, ?_⟩
        exact fin _ H2 (Int.emod_nonneg _ (by omega)) (Int.emod_lt_of_pos _ (by omega)) hd2 (k1.trans k2)
    · obtain ⟨y3, y4, ps, rfl, w1, w2, w3, w4, w5⟩ := hW
      refine ⟨_, rfl, l, _, rfl, .inl ⟨SqL.of w1, fun p hp => ?_⟩⟩
      exact q p ps _ upd_same w2 w3 (w4.upd (w4.ne_new hp)) (w5.trans (Keep.new hp))
end
end K1

/-! plain mathematics of heaps, continued: growing column by column, tries, squares added in any order -/
namespace HM
theorem range_hAt (h : List Nat) : (List.range h.length).map (hAt h) = h := by
  refine List.ext_getElem? fun c => ?_
  by_cases q : c < h.length
  · rw [List.getElem?_map, List.getElem?_range q, hAt_lt q]
    rfl
  · rw [List.getElem?_eq_none (by rw [List.length_map, List.length_range]; omega), List.getElem?_eq_none (by omega)]
/-- grown at the first columns -/
def fr (h : List Nat) (g : Nat → Bool) (i : Nat) : List Nat := (List.range h.length).map (fun c => hAt h c + b2n (decide (c < i) && g c)) ++ (if (decide (h.length < i) && g h.length) = true then [1] else [])
theorem fr_zero (h : List Nat) (g : Nat → Bool) : fr h g 0 = h := by
  unfold fr
  rw [decide_eq_false (Nat.not_lt_zero _), Bool.false_and, if_neg (by decide), List.append_nil]
  conv => rhs; rw [← range_hAt h]
  refine List.map_congr_left fun c _ => ?_
  rw [decide_eq_false (Nat.not_lt_zero _), Bool.false_and]
  rfl
theorem fr_end (h : List Nat) (g : Nat → Bool) : fr h g (h.length + 1) = grow h g := by
  unfold fr grow
  rw [decide_eq_true (Nat.lt_succ_self _), Bool.true_and]
  congr 1
  refine List.map_congr_left fun c hc => ?_
  rw [decide_eq_true (show c < h.length + 1 from Nat.lt_succ_of_lt (List.mem_range.mp hc)), Bool.true_and]
theorem fr_skip {h : List Nat} {g : Nat → Bool} {i : Nat} (q : g i = false) : fr h g (i + 1) = fr h g i := by
  have e : ∀ c, (decide (c < i + 1) && g c) = (decide (c < i) && g c) := fun c => by
    by_cases z : c = i
    · subst z
      rw [q, Bool.and_false, Bool.and_false]
    · have : decide (c < i + 1) = decide (c < i) := decide_eq_decide.mpr (by omega)
      rw [this]
  unfold fr
  rw [e]
  congr 1
  exact List.map_congr_left fun c _ => by rw [e]
theorem fr_low {h : List Nat} {g : Nat → Bool} {i : Nat} (hi : i ≤ h.length) : fr h g i = (List.range h.length).map (fun c => hAt h c + b2n (decide (c < i) && g c)) := by
  unfold fr
  rw [decide_eq_false (show ¬ h.length < i by omega), Bool.false_and, if_neg (by decide), List.append_nil]
theorem fr_low_len {h : List Nat} {g : Nat → Bool} {i : Nat} (hi : i ≤ h.length) : (fr h g i).length = h.length := by
  rw [fr_low hi, List.length_map, List.length_range]
theorem fr_set {h : List Nat} {g : Nat → Bool} {i : Nat} (hi : i < h.length) (q : g i = true) : (fr h g i).set i (hAt h i + 1) = fr h g (i + 1) := by
  rw [fr_low (show i ≤ h.length by omega), fr_low (show i + 1 ≤ h.length by omega)]
  refine List.ext_getElem? fun c => ?_
  rw [List.getElem?_set]
  by_cases e : i = c
  · subst e
    rw [if_pos rfl, if_pos (by rw [List.length_map, List.length_range]; exact hi), List.getElem?_map, List.getElem?_range hi]
    show some _ = some (hAt h i + b2n (decide (i < i + 1) && g i))
    rw [decide_eq_true (Nat.lt_succ_self i), q]
    rfl
  · rw [if_neg e, List.getElem?_map, List.getElem?_map]
    have : decide (c < i + 1) = decide (c < i) := decide_eq_decide.mpr (by omega)
    by_cases l : c < h.length
    · rw [List.getElem?_range l]
      show some (hAt h c + b2n (decide (c < i) && g c)) = some (hAt h c + b2n (decide (c < i + 1) && g c))
      rw [this]
    · rw [List.getElem?_eq_none (by rw [List.length_range]; omega)]
      rfl
theorem fr_app {h : List Nat} {g : Nat → Bool} (q : g h.length = true) : fr h g h.length ++ [1] = fr h g (h.length + 1) := by
  rw [fr_end, fr_low (Nat.le_refl _)]
  unfold grow
  rw [if_pos q]
  congr 1
  refine List.map_congr_left fun c hc => ?_
  rw [decide_eq_true (List.mem_range.mp hc), Bool.true_and]
/-! ### tries -/
def Falls (ns : List Int) : Prop := (∀ j, j + 1 < ns.length → ns.getD (j + 1) 0 ≤ ns.getD j 0) ∧ ∀ y ∈ ns, (0 : Int) ≤ y
/-- heights with 0 behind them, one changed -/
def chg (h : List Nat) (st : Int) (c : Nat) : List Int := (List.range (h.length + 1)).map fun x => (hAt h x : Int) + (if x = c then st else 0)
theorem chg_len (h : List Nat) (st : Int) (c : Nat) : (chg h st c).length = h.length + 1 := by
  unfold chg
  rw [List.length_map, List.length_range]
theorem chg_get {h : List Nat} {st : Int} {c x : Nat} (hx : x ≤ h.length) : (chg h st c).getD x 0 = (hAt h x : Int) + (if x = c then st else 0) := by
  unfold chg
  rw [List.getD_eq_getElem?_getD, List.getElem?_map, List.getElem?_range (by omega)]
  rfl
/-- columns at which a try leaves a heap -/
def tr (h : List Nat) (st : Int) (c : Nat) : Bool := if st = 1 then opn h c else decide (hAt h (c + 1) < hAt h c)
theorem chg_falls {h : List Nat} (H : IsHeap h) {st : Int} (hst : st = 1 ∨ st = -1) {c : Nat} (hc : c ≤ h.length) : Falls (chg h st c) ↔ tr h st c = true := by
  have hm : ∀ y, y ∈ chg h st c → ∃ x, x ≤ h.length ∧ y = (hAt h x : Int) + (if x = c then st else 0) := fun y hy => by
    unfold chg at hy
    obtain ⟨x, hx, rfl⟩ := List.mem_map.mp hy
    exact ⟨x, Nat.le_of_lt_succ (List.mem_range.mp hx), rfl⟩
  have hm2 : ∀ x, x ≤ h.length → (hAt h x : Int) + (if x = c then st else 0) ∈ chg h st c := fun x hx => List.mem_map.mpr ⟨x, List.mem_range.mpr (Nat.lt_succ_of_le hx), rfl⟩
  rcases hst with rfl | rfl
  · unfold tr
    rw [if_pos rfl]
    constructor
    · rintro ⟨f1, f2⟩
      unfold opn
      by_cases z : c = 0
      · rw [decide_eq_true z, Bool.true_or]
      · have a := f1 (c - 1) (by rw [chg_len]; omega)
        rw [show c - 1 + 1 = c by omega, chg_get hc, chg_get (by omega), if_pos rfl, if_neg (by omega)] at a
        rw [decide_eq_true (show hAt h c < hAt h (c - 1) by omega), Bool.or_true]
    · intro o
      refine ⟨fun j hj => ?_, fun y hy => ?_⟩
      · rw [chg_len] at hj
        rw [chg_get (show j + 1 ≤ h.length by omega), chg_get (show j ≤ h.length by omega)]
        have := H.fall j
        by_cases z : j + 1 = c
        · subst z
          have := opn_lt o
          rw [if_pos rfl, if_neg (by omega)]
          omega
        · rw [if_neg z]
          split <;> omega
      · obtain ⟨x, _, rfl⟩ := hm y hy
        split <;> omega
  · unfold tr
    rw [if_neg (by decide)]
    constructor
    · rintro ⟨f1, f2⟩
      by_cases z : c = h.length
      · have := f2 _ (hm2 c hc)
        rw [if_pos rfl, z, hAt_ge (Nat.le_refl _)] at this
        exact absurd this (by decide)
      · have a := f1 c (by rw [chg_len]; omega)
        rw [chg_get (by omega), chg_get hc, if_pos rfl, if_neg (by omega)] at a
        exact decide_eq_true (by omega)
    · intro o
      have o' := of_decide_eq_true o
      refine ⟨fun j hj => ?_, fun y hy => ?_⟩
      · rw [chg_len] at hj
        rw [chg_get (show j + 1 ≤ h.length by omega), chg_get (show j ≤ h.length by omega)]
        have := H.fall j
        by_cases z : j = c
        · subst z
          rw [if_pos rfl, if_neg (by omega)]
          omega
        · rw [if_neg z]
          split <;> omega
      · obtain ⟨x, _, rfl⟩ := hm y hy
        split
        · next z =>
          subst z
          omega
        · omega
def tv (h : List Nat) (st : Int) (c : Nat) : Int := if st = 1 then dg h c else dg h c + 1
def trs (h : List Nat) (st : Int) (i : Nat) : List Int := ((List.range i).filter (tr h st)).map (tv h st)
theorem tv_lt {h : List Nat} (H : IsHeap h) {st : Int} {c d : Nat} (hcd : c < d) : tv h st c < tv h st d := by
  have := dg_lt H hcd
  unfold tv
  split <;> omega
theorem range_lt (n : Nat) : (List.range n).Pairwise (· < ·) := List.pairwise_lt_range
theorem trs_sorted {h : List Nat} (H : IsHeap h) (st : Int) (i : Nat) : (trs h st i).Pairwise (· ≤ ·) := by
  unfold trs
  refine List.pairwise_map.mpr ?_
  refine ((range_lt i).filter _).imp fun {a b} hab => ?_
  have := tv_lt H (st := st) hab
  omega
theorem sorted_eq : ∀ {a b : List Int}, a.Perm b → a.Pairwise (· ≤ ·) → b.Pairwise (· ≤ ·) → a = b
  | [], b, p, _, _ => (List.nil_perm.mp p).symm
  | x :: a, [], p, _, _ => absurd p.length_eq (by simp)
  | x :: a, y :: b, p, ha, hb => by
    have e : x = y := by
      have h1 : y ∈ x :: a := p.mem_iff.mpr List.mem_cons_self
      have h2 : x ∈ y :: b := p.mem_iff.mp List.mem_cons_self
      rcases List.mem_cons.mp h1 with z | z
      · exact z.symm
      · rcases List.mem_cons.mp h2 with u | u
        · exact u
        · have q1 := (List.pairwise_cons.mp ha).1 y z
          have q2 := (List.pairwise_cons.mp hb).1 x u
          omega
    subst e
    rw [sorted_eq ((List.perm_cons x).mp p) (List.pairwise_cons.mp ha).2 (List.pairwise_cons.mp hb).2]
theorem trs_add (h : List Nat) : trs h 1 (h.length + 1) = (oc h).map (dg h) := by
  have e : tr h 1 = opn h := funext fun c => if_pos rfl
  have e2 : tv h 1 = dg h := funext fun c => if_pos rfl
  unfold trs oc
  rw [e, e2]
theorem trs_sub (h : List Nat) : trs h (-1) (h.length + 1) = ((List.range h.length).filter fun c => decide (hAt h (c + 1) < hAt h c)).map fun c => dg h c + 1 := by
  have e : tr h (-1) = fun c => decide (hAt h (c + 1) < hAt h c) := funext fun c => if_neg (by decide)
  have e2 : tv h (-1) = fun c => dg h c + 1 := funext fun c => if_neg (by decide)
  unfold trs
  rw [e, e2, List.range_succ, List.filter_append, List.filter_cons, if_neg (by rw [hAt_ge (Nat.le_refl h.length)]; simp)]
  simp
theorem oc_two {h : List Nat} (H : IsHeap h) : ((oc h).map (dg h)).Pairwise (fun a b => a + 2 ≤ b) := by
  refine List.pairwise_map.mpr ?_
  unfold oc
  have : ((List.range (h.length + 1)).filter (opn h)).Pairwise (fun a b => a < b) := (range_lt _).filter _
  refine (List.Pairwise.and_mem.mp this).imp fun {a b} hab => ?_
  exact dg_two H hab.2.2 (List.mem_filter.mp hab.2.1).2
theorem two_next {l : List Int} (h : l.Pairwise (fun a b => a + 2 ≤ b)) {i : Nat} {x y : Int} (hx : l[i]? = some x) (hy : l[i + 1]? = some y) : x + 2 ≤ y := by
  obtain ⟨h1, rfl⟩ := List.getElem?_eq_some_iff.mp hx
  obtain ⟨h2, rfl⟩ := List.getElem?_eq_some_iff.mp hy
  exact List.pairwise_iff_getElem.mp h i (i + 1) h1 h2 (by omega)
/-! ### squares added in any order -/
def adm (h : List Nat) (ms : List Int) (i : Nat) (c : Nat) : Bool := opn h c && decide (dg h c ∈ ms.take i)
theorem adm_opn {h : List Nat} {ms : List Int} {i : Nat} (c : Nat) (z : adm h ms i c = true) : opn h c = true := by
  unfold adm at z
  exact (Bool.and_eq_true_iff.mp z).1
theorem adm_zero (h : List Nat) (ms : List Int) : grow h (adm h ms 0) = h := by
  have e : adm h ms 0 = fun _ => false := funext fun c => by
    unfold adm
    rw [List.take_zero, decide_eq_false (by simp), Bool.and_false]
  rw [e]
  unfold grow
  rw [if_neg (show ¬ false = true by decide), List.append_nil]
  exact range_hAt h
theorem grow_opn {h : List Nat} {g : Nat → Bool} (hg : ∀ c, g c = true → opn h c = true) {c : Nat} (o : opn h c = true) (q : g c = false) : opn (grow h g) c = true := by
  unfold opn
  by_cases z : c = 0
  · rw [decide_eq_true z, Bool.true_or]
  · obtain ⟨e, rfl⟩ : ∃ e, c = e + 1 := ⟨c - 1, by omega⟩
    have a := opn_lt o
    have b : hAt (grow h g) (e + 1) < hAt (grow h g) (e + 1 - 1) := by
      rw [hAt_grow hg, hAt_grow hg, q, show e + 1 - 1 = e by omega]
      have : b2n false = 0 := rfl
      omega
    rw [decide_eq_true b, Bool.or_true]
theorem grow_dg {h : List Nat} {g : Nat → Bool} (hg : ∀ c, g c = true → opn h c = true) {c : Nat} (q : g c = false) : dg (grow h g) c = dg h c := by
  unfold dg
  rw [hAt_grow hg, q]
  rfl
theorem adm_no {h : List Nat} (_ : IsHeap h) {ms : List Int} (nd : ms.Nodup) {i c : Nat} (hi : ms[i]? = some (dg h c)) : adm h ms i c = false := by
  unfold adm
  have : ¬ dg h c ∈ ms.take i := fun z => by
    obtain ⟨j, hj, e⟩ := List.getElem_of_mem z
    rw [List.length_take] at hj
    obtain ⟨hi', e'⟩ := List.getElem?_eq_some_iff.mp hi
    rw [List.getElem_take] at e
    have := (List.nodup_iff_pairwise_ne.mp nd)
    have := List.pairwise_iff_getElem.mp this j i (by omega) hi' (by omega)
    exact this (e.trans e'.symm)
  rw [decide_eq_false this, Bool.and_false]
theorem adm_next {h : List Nat} (H : IsHeap h) {ms : List Int} (nd : ms.Nodup) {i c : Nat} (o : opn h c = true) (hi : ms[i]? = some (dg h c)) {g1 : Nat → Bool} (hg1 : ∀ x, g1 x = (c == x)) :
    grow (grow h (adm h ms i)) g1 = grow h (adm h ms (i + 1)) := by
  have no := adm_no H nd hi
  have h1 : IsHeap (grow h (adm h ms i)) := grow_heap H adm_opn
  have o1 : ∀ x, g1 x = true → opn (grow h (adm h ms i)) x = true := fun x z => by
    rw [hg1] at z
    have e : c = x := by simpa using z
    subst e
    exact grow_opn adm_opn o no
  refine heap_ext (grow_heap h1 o1) (grow_heap H adm_opn) fun x => ?_
  rw [hAt_grow o1, hAt_grow adm_opn, hAt_grow adm_opn, hg1]
  by_cases e : c = x
  · subst e
    have yes : adm h ms (i + 1) c = true := by
      unfold adm
      rw [o, List.take_add_one, hi, decide_eq_true (by simp)]
      rfl
    rw [no, yes, beq_self_eq_true]
    rfl
  · have e2 : (c == x) = false := by simpa using e
    have e3 : adm h ms (i + 1) x = adm h ms i x := by
      unfold adm
      have : (dg h x ∈ ms.take (i + 1)) ↔ dg h x ∈ ms.take i := by
        rw [List.take_add_one, hi, List.mem_append]
        constructor
        · rintro (z | z)
          · exact z
          · have : dg h x = dg h c := by simpa using z
            exact absurd (dg_inj H this).symm e
        · exact Or.inl
      rw [decide_eq_decide.mpr this]
    rw [e2, e3]
    rfl
end HM

namespace K1
open PySem PySem.Spec PyProof.Rows L2 Evl HM LX ZW
section
variable {P : Program} {w : World} {K : PySem.W.Frag} {mg : Str → Option Value} {base : Heap}
def spLGrown : Sp := fun vs H Q _ => ∃ p h x n s q, vs = [.ref p, x, .int q] ∧ HeapAt H p h ∧ h.length ≤ 100 ∧ RingAt H 60 x n s ∧ ∀ r H', Ex H H' → HeapAt H' r (grow h (gl h n s q)) → Q (.ref r) H'
theorem ok_lgrown (T : Txt K mg) {f : Addr} {fd : FuncData} (D : DefAt K mg "_law_grown" sLGrown ["_law_heap_here", "_law_ring_here", "_law_x"] f fd) : FnOk P w K mg base CX0 1 f fd ["_law_heap_here", "_law_ring_here", "_law_x"] spLGrown := by
  refine D.F.ok scLGrown (fun vs H Q E h => ?_) (fun cdv A outer s₀ H vs Q E hr h => ?_)
  · obtain ⟨p, h, x, n, s, q, rfl, _⟩ := h
    rfl
  · obtain ⟨p, h, x, n, s, q, rfl, hp, hl, hx, k⟩ := h
    refine ⟨_, pss_cons (ps_asg (pv 1) (pg_tup (by rfl) (pgs_cons (pg_name (i := 3) scLGrown.nd rfl (.inl rfl)) (pgs_cons (pg_name (i := 4) scLGrown.nd rfl (.inl rfl)) pgs_nil))))
      (pss_cons (ps_set (i := 5) scLGrown.nd rfl (.inl rfl) (pe_callTy call_list_of (by rfl) T.z_list (by decide +kernel) (pa_cons (pv 0) pa_nil)))
      (pss_cons (ps_for PassesOwn.never rfl (pi_range1 (by rfl) T.z_range (pa_cons (pe_op op_add (pe_callB call_len_seq (by rfl) T.z_len PySem.boot_len (pa_cons (pv 0) pa_nil)) pe_int) pa_nil)) (pg_name (i := 6) scLGrown.nd rfl (.inl rfl))
        (pss_cut (ps_set (i := 7) scLGrown.nd rfl (.inl rfl) (pe_ifExp (pt_cmpR op_lt (pv 6) (pe_callB call_len_seq (by rfl) T.z_len PySem.boot_len (pa_cons (pv 0) pa_nil)) (nomark _)) (pe_ix ix_tup (pv 0) (pv 6) (fun _ _ => rfl)) pe_int))
        (pss_cut (ps_set (i := 8) scLGrown.nd rfl (.inl rfl) (pe_or (pe_cmpR op_eq (pv 6) pe_int (nomark _)) (pe_one (pe_cmpR op_gt (pe_ix ix_tup (pv 0) (pe_op op_sub (pv 6) pe_int) (fun _ _ => rfl)) (pv 7) (nomark _)))))
        (pss_one (ps_if (PW.pt (pw_and (pt_val (pv 8)) (pw_and1 (pt_cmpR op_eq (pe_op op_mod (pe_op op_sub (pe_op op_mul (pe_op op_sub (pv 6) (pv 7)) (pv 4)) (pv 2)) (pv 3)) pe_int (nomark _)))))
          (pss_one (ps_if (pt_cmpR op_lt (pv 6) (pe_callB call_len_seq (by rfl) T.z_len PySem.boot_len (pa_cons (pv 0) pa_nil)) (nomark _))
            (pss_one (ps_asg (pe_op op_add (pv 7) pe_int) (pg_sub (pv 5) (pv 6) set_list)))
            (pss_one (ps_expr (pe_bm PySem.F.plainAttrs_list PySem.F.slot_list_append PySem.F.type_list_append mt_append (pv 5) (pa_cons pe_int pa_nil)))))) pss_nil)))))
      (pss_one (ps_ret (pe_callTy call_tuple_of (by rfl) T.z_tuple (by decide +kernel) (pa_cons (pv 5) pa_nil)))))), ?_⟩
    obtain ⟨t, rfl, ht, b1, b2, b3, b4⟩ := id hx
    refine ⟨_, rfl, t, [.int n, .int s], rfl, SqT.of ht, rfl, .int n, [.int s], rfl, .int s, [], rfl, rfl, ?_⟩
    refine ⟨_, rfl, p, hv h, rfl, .inr (SqT.of hp), fun l hl0 => ?_⟩
    have e1 := Ex.new (o := .lst (hv h)) hl0
    have g0 : (upd H l (.lst (hv h))) l = some (.lst (hv (fr h (gl h n s q) 0))) := by
      rw [upd_same, fr_zero]
    generalize upd H l (.lst (hv h)) = H1 at *
    refine ⟨_, rfl, p, _, rfl, .inr (SqT.of (e1 _ _ hp)), _, _, rfl, rfl, _, rfl, by rw [hv_len]; omega, by rw [hv_len]; omega, ?_⟩
    refine for_range (lo := 0) (n := (((hv h).length : Int) + 1).toNat) (fun i σ' H' => ∃ (y6 y7 y8 : Option V), σ' = [some (.ref p), some (.ref t), some (.int q), some (.int n), some (.int s), some (.ref l), y6, y7, y8] ∧ H' l = some (.lst (hv (fr h (gl h n s q) i))) ∧ Ex H H')
      ⟨none, none, none, rfl, g0, e1⟩ (fun i σ' H' hi hW => ?_) (fun σ' H' hW => ?_)
    · obtain ⟨y6, y7, y8, rfl, w1, w2⟩ := hW
      rw [hv_len] at hi
      have hi' : i ≤ h.length := by omega
      have hp2 := w2 _ _ hp
      have e0 : (0 : Int) + (i : Int) = (i : Int) := Int.zero_add _
      refine ⟨fun σ2 H2 => σ2 = [some (.ref p), some (.ref t), some (.int q), some (.int n), some (.int s), some (.ref l), some (.int (0 + (i : Int))), some (.int (hAt h i : Int)), y8] ∧ H2 = H', ?_, ?_⟩
      · refine ⟨_, rfl, _, rfl, p, _, rfl, .inr (SqT.of hp2), _, _, rfl, rfl, _, rfl, ite2 (fun cc => ?_) (fun cc => ?_)⟩
        · have c2 : i < h.length := by
            have := of_decide_eq_true cc
            rw [hv_len] at this
            omega
          exact ⟨_, rfl, _, rfl, p, _, _, _, rfl, rfl, SqT.of hp2, at_of e0 (hv_get c2), rfl, rfl⟩
        · have c2 : h.length ≤ i := by
            have : ¬ ((0 : Int) + (i : Int) < ((hv h).length : Int)) := fun z => cc (decide_eq_true z)
            rw [hv_len] at this
            omega
          refine ⟨?_, rfl⟩
          rw [hAt_ge c2]
          rfl
      · rintro σ2 H2 ⟨rfl, rfl⟩
        refine ⟨fun σ3 H3 => σ3 = [some (.ref p), some (.ref t), some (.int q), some (.int n), some (.int s), some (.ref l), some (.int (0 + (i : Int))), some (.int (hAt h i : Int)), some (.bl (opn h i))] ∧ H3 = H2, ?_, ?_⟩
        · refine ⟨_, rfl, rfl, _, rfl, ite2 (fun cc => ?_) (fun cc => ?_)⟩
          · have c2 : i = 0 := by
              have := V.int.inj (of_decide_eq_true cc)
              omega
            refine ⟨?_, rfl⟩
            have : opn h i = true := by
              unfold opn
              rw [decide_eq_true c2, Bool.true_or]
            rw [this]
            rfl
          · have c2 : i ≠ 0 := fun z => cc (by subst z; rfl)
            refine ⟨_, rfl, _, rfl, _, _, rfl, rfl, p, _, _, _, rfl, rfl, SqT.of hp2, at_of (show (0 + (i : Int)) - 1 = ((i - 1 : Nat) : Int) by omega) (hv_get (by omega)), _, rfl, _, _, rfl, rfl, ?_, rfl⟩
            have : opn h i = decide ((hAt h i : Int) < (hAt h (i - 1) : Int)) := by
              unfold opn
              rw [decide_eq_false c2, Bool.false_or]
              exact decide_eq_decide.mpr (by omega)
            rw [this]
            rfl
        · rintro σ3 H3 ⟨rfl, rfl⟩
          refine ⟨_, rfl, _, rfl, ite2 (fun cc => ?_) (fun cc => ?_)⟩
          · refine ⟨_, rfl, _, rfl, _, _, rfl, rfl, _, rfl, _, _, rfl, rfl, .inr (by constructor <;> omega), _, rfl, _, _, rfl, rfl, _, rfl, _, _, rfl, rfl, by omega, rfl, _, rfl, ite2 (fun c3 => ?_) (fun c3 => ?_)⟩
            · have yes : gl h n s q i = true := by
                unfold gl
                rw [cc, Bool.true_and]
                have z := V.int.inj (of_decide_eq_true c3)
                rw [Int.zero_add] at z
                exact decide_eq_true z
              refine ⟨_, rfl, _, rfl, p, _, rfl, .inr (SqT.of hp2), _, _, rfl, rfl, _, rfl, ite2 (fun c4 => ?_) (fun c4 => ?_)⟩
              · have c5 : i < h.length := by
                  have := of_decide_eq_true c4
                  rw [hv_len] at this
                  omega
                refine ⟨_, rfl, _, _, rfl, rfl, _, rfl, _, rfl, l, _, _, i, rfl, rfl, w1, ?_, _, _, _, rfl, ?_, Ex.mut w2 hl0⟩
                · rw [e0]
                  refine ixN_nat ?_
                  rw [hv_len, fr_low_len hi']
                  exact c5
                · rw [upd_same]
                  dsimp only
                  rw [show ((hAt h i : Int)) + 1 = ((hAt h i + 1 : Nat) : Int) by omega, hv_set, fr_set c5 yes]
              · have c5 : i = h.length := by
                  have : ¬ ((0 : Int) + (i : Int) < ((hv h).length : Int)) := fun z => c4 (decide_eq_true z)
                  rw [hv_len] at this
                  omega
                subst c5
                refine ⟨_, rfl, .inl ⟨rfl, _, SqL.of w1⟩, l, _, _, rfl, rfl, w1, ?_, _, _, _, rfl, ?_, Ex.mut w2 hl0⟩
                · rw [hv_len, fr_low_len (Nat.le_refl _)]
                  exact small1000 (by omega)
                · rw [upd_same, ← fr_app yes, hv_snoc]
                  rfl
            · have no : gl h n s q i = false := by
                unfold gl
                have z : ¬ ((dg h i * s - q) % n = 0) := fun z => c3 (decide_eq_true (congrArg V.int (by rw [Int.zero_add]; exact z)))
                rw [decide_eq_false z, Bool.and_false]
              refine ⟨_, _, _, rfl, ?_, w2⟩
              rw [fr_skip no]
              exact w1
          · have no : gl h n s q i = false := by
              unfold gl
              rw [Bool.eq_false_iff.mpr cc, Bool.false_and]
            refine ⟨_, _, _, rfl, ?_, w2⟩
            rw [fr_skip no]
            exact w1
    · obtain ⟨y6, y7, y8, rfl, w1, w2⟩ := hW
      have e : (((hv h).length : Int) + 1).toNat = h.length + 1 := by
        rw [hv_len]
        omega
      rw [e, fr_end] at w1
      exact ⟨_, rfl, l, _, rfl, .inl ⟨SqL.of w1, fun r hr' => k r _ (w2.trans (Ex.new hr')) upd_same⟩⟩
end
end K1

namespace K1
open PySem PySem.Spec PyProof.Rows L2 Evl HM LX ZW
theorem pair_heap {l : List Nat} (hp : l.Pairwise (fun a b => b ≤ a)) (h0 : ∀ x ∈ l, 0 < x) : IsHeap l := by
  refine ⟨fun c hc => h0 _ (List.mem_of_getElem? (hAt_lt hc)), fun c => ?_⟩
  by_cases q : c + 1 < l.length
  · obtain ⟨h1, e1⟩ := List.getElem?_eq_some_iff.mp (hAt_lt q)
    obtain ⟨h2, e2⟩ := List.getElem?_eq_some_iff.mp (hAt_lt (show c < l.length by omega))
    have := List.pairwise_iff_getElem.mp hp c (c + 1) h2 h1 (by omega)
    rw [e1, e2] at this
    exact this
  · rw [hAt_ge (show l.length ≤ c + 1 by omega)]
    exact Nat.zero_le _
theorem hv_nat {js : List Int} (h : ∀ j ∈ js, 0 ≤ j) : js.map V.int = hv (js.map Int.toNat) := by
  unfold hv
  rw [List.map_map]
  refine List.map_congr_left fun j hj => ?_
  show V.int j = V.int ((j.toNat : Nat) : Int)
  rw [Int.toNat_of_nonneg (h j hj)]
theorem pl_get {ps : List Int} {i : Nat} {x : V} (hx : (ps.map V.int)[i]? = some x) : x = .int (ps.getD i 0) := by
  rw [List.getElem?_map] at hx
  rw [List.getD_eq_getElem?_getD]
  cases e : ps[i]? with
  | none =>
    rw [e] at hx
    cases hx
  | some p =>
    rw [e] at hx
    exact (Option.some.inj hx).symm
section
variable {P : Program} {w : World} {K : PySem.W.Frag} {mg : Str → Option Value} {base : Heap}
def spLHeap : Sp := fun vs H Q _ => ∃ c a xs rs ps, vs = [.ref c, .ref a] ∧ H c = some (.tup xs) ∧ RingsAt H 60 xs rs ∧ xs.length ≤ 12 ∧ PlacesT H a ps ∧ ps.length = xs.length ∧ ∀ b H', Ex H H' → HeapAt H' b (hseq rs ps xs.length) → Q (.ref b) H'
theorem ok_lheap (T : Txt K mg) {f : Addr} {fd : FuncData} (D : DefAt K mg "_law_heap" sLHeap ["_law_chain_here", "_law_x"] f fd) : FnOk P w K mg base CX0 2 f fd ["_law_chain_here", "_law_x"] spLHeap := by
  refine D.F.ok scLHeap (fun vs H Q E h => ?_) (fun cdv A outer s₀ H vs Q E hr h => ?_)
  · obtain ⟨c, a, xs, rs, ps, rfl, _⟩ := h
    rfl
  · obtain ⟨c, a, xs, rs, ps, rfl, hc, hR, hl, ha, hlen, q⟩ := h
    obtain ⟨f1, fd1, D1⟩ := T.d_l_grown
    refine ⟨_, pss_cons (ps_set (i := 2) scLHeap.nd rfl (.inl rfl) (pe_tup pa_nil))
      (pss_cons (ps_for PassesOwn.never rfl (RZ.pi_zipA (by rfl) T.z_zip (pa_cons (pv 0) (pa_cons (pv 1) pa_nil))) (pg_tup (by rfl) (pgs_cons (pg_name (i := 3) scLHeap.nd rfl (.inl rfl)) (pgs_cons (pg_name (i := 4) scLHeap.nd rfl (.inl rfl)) pgs_nil)))
        (pss_one (ps_set (i := 2) scLHeap.nd rfl (.inl rfl) (pe_call (ok_lgrown T D1) hr (by rfl) D1.g D1.F.kp D1.b .nil pass0 (pa_cons (pv 2) (pa_cons (pv 3) (pa_cons (pv 4) pa_nil)))))))
      (pss_one (ps_ret (pv 2)))), ?_⟩
    refine ⟨by show 0 ≤ sizeLine; decide, fun t0 ht0 => ?_⟩
    have e1 := Ex.new (o := .tup []) ht0
    have g0 : HeapAt (upd H t0 (.tup [])) t0 (hseq rs ps 0) := upd_same
    generalize upd H t0 (.tup []) = H1 at *
    refine ⟨_, rfl, _, rfl, c, a, _, _, rfl, .inr ⟨SqT.of (e1 _ _ hc), SqT.of (e1 _ _ ha), ?_⟩⟩
    refine for_zipT (K := K) (a := c) (b := a) (xs := xs) (ys := ps.map V.int) (n := xs.length) (Nat.le_refl _) (by rw [List.length_map]; omega) (.inl (Nat.le_refl _))
      (fun i σ' H' => ∃ (b : Addr) (y3 y4 : Option V), σ' = [some (.ref c), some (.ref a), some (.ref b), y3, y4] ∧ HeapAt H' b (hseq rs ps i) ∧ Ex H H') ⟨t0, none, none, rfl, g0, e1⟩ (fun i σ' H' hW => ?_) (fun i x y Tp σ' H' hi hx hy hW nT => ?_) (fun σ' H' hW => ?_)
    · obtain ⟨_, _, _, _, _, e⟩ := hW
      exact ⟨SqT.of (e _ _ hc), SqT.of (e _ _ ha)⟩
    · obtain ⟨b, y3, y4, rfl, w1, w2⟩ := hW
      have eT := Ex.new (o := .tup [x, y]) nT
      obtain rfl := pl_get hy
      have hx1 := rings_nth4 (rings_ex4 (w2.trans eT) hR) hx
      obtain ⟨ok1, ok2, ok3⟩ := hseq_ok rs ps i
      refine ⟨Tp, _, rfl, SqT.of upd_same, rfl, x, [_], rfl, _, [], rfl, rfl, ?_⟩
      refine ⟨_, rfl, _, rfl, _, rfl, b, hseq rs ps i, x, _, _, _, rfl, eT _ _ w1, by omega, hx1, fun r H4 e4 hr4 => ?_⟩
      exact ⟨r, _, _, rfl, hr4, (w2.trans eT).trans e4⟩
    · obtain ⟨b, y3, y4, rfl, w1, w2⟩ := hW
      exact ⟨_, rfl, q b _ w2 w1⟩
def spDrawnHeap : Sp := fun vs H Q _ => ∃ d, vs = [.ref d] ∧ Dice H d ∧ ∀ b h H', HeapAt H' b h → IsHeap h → h.length ≤ 9 → hAt h 0 ≤ 9 → Dice H' d → Keep d H H' → Q (.ref b) H'
end
end K1

namespace K1
open PySem PySem.Spec PyProof.Rows L2 Evl K1N
/-! ### written names -/
theorem eqv_pair (a b c d : Int) : PyData.eqv (.tuple [.int a, .int b]) (.tuple [.int c, .int d]) = (a == c && b == d) := by
  simp [PyData.eqv, PyData.eqvAll]
def PlaceAt (H : Hp) (x : V) (p : Int × Int) : Prop := ∃ t, x = .ref t ∧ H t = some (.tup [.int p.1, .int p.2])
theorem PlaceAt.ex {H H' : Hp} {x : V} {p : Int × Int} (e : Ex H H') (h : PlaceAt H x p) : PlaceAt H' x p := by
  obtain ⟨t, rfl, ht⟩ := h
  exact ⟨t, rfl, e _ _ ht⟩
theorem PlaceAt.updL {H : Hp} {x : V} {p : Int × Int} {D : Addr} {ys zs : List V} (hD : H D = some (.lst ys)) (h : PlaceAt H x p) : PlaceAt (upd H D (.lst zs)) x p := by
  obtain ⟨t, rfl, ht⟩ := h
  exact ⟨t, rfl, by rw [upd_ne (ne_of ht hD (by intro z; cases z))]; exact ht⟩
abbrev Places (H : Hp) (xs : List V) (ps : List (Int × Int)) : Prop := Paired (PlaceAt H) xs ps
theorem Places.ex {H H' : Hp} {xs : List V} {ps : List (Int × Int)} (e : Ex H H') (h : Places H xs ps) : Places H' xs ps := paired_imp (fun _ _ q => PlaceAt.ex e q) h
theorem Places.updL {H : Hp} {xs : List V} {ps : List (Int × Int)} {D : Addr} {ys zs : List V} (hD : H D = some (.lst ys)) (h : Places H xs ps) : Places (upd H D (.lst zs)) xs ps := paired_imp (fun _ _ q => PlaceAt.updL hD q) h
/-- what the rings of a chain are, by number -/
theorem rings_nth {H : Hp} {most : Int} {xs : List V} {rs : List (Int × Int)} (h : RingsAt H most xs rs) {j : Nat} (hj : j < rs.length) : ∃ x, xs[j]? = some x ∧ RingAt H most x (nAt rs j : Int) (sAt rs j) := by
  have hl := paired_len h
  have hx : xs[j]? = some (xs[j]'(by omega)) := List.getElem?_eq_getElem _
  obtain ⟨r, hr, q⟩ := paired_get h hx
  have e : rs.getD j (0, 0) = r := by rw [List.getD_eq_getElem?_getD, hr]; rfl
  obtain ⟨t, e1, e2, e3, e4, e5, e6⟩ := id q
  refine ⟨_, hx, ?_⟩
  unfold nAt sAt
  rw [e, show ((r.1.toNat : Nat) : Int) = r.1 by omega]
  exact q
theorem rings_ok {H : Hp} {most : Int} {xs : List V} {rs : List (Int × Int)} (h : RingsAt H most xs rs) (j : Nat) (hj : j < rs.length) : 1 ≤ sAt rs j ∧ sAt rs j < (nAt rs j : Int) := by
  obtain ⟨x, _, t, _, _, _, _, e5, e6⟩ := rings_nth h hj
  exact ⟨e5, e6⟩
theorem rings_n {H : Hp} {xs : List V} {rs : List (Int × Int)} (h : RingsAt H 60 xs rs) (j : Nat) : nAt rs j ≤ 60 := by
  by_cases hj : j < rs.length
  · obtain ⟨x, _, t, _, _, _, e4, _⟩ := rings_nth h hj
    omega
  · unfold nAt
    rw [List.getD_eq_getElem?_getD, List.getElem?_eq_none (by omega)]
    decide
theorem rings_chain {K : PySem.W.Frag} {H : Hp} {a : Addr} {xs : List V} {rs : List (Int × Int)} (h : RingsAt H 60 xs rs) (ha : H a = some (.tup xs)) (h1 : 1 ≤ xs.length) (h2 : xs.length ≤ 12) : ChainB K H (.ref a) true := by
  have p : ∀ {xs : List V} {rs : List (Int × Int)}, RingsAt H 60 xs rs → Paired (RingB K H) xs (List.replicate xs.length true) := by
    intro xs rs h
    induction h with
    | nil => exact .nil
    | cons r _ ih => exact .cons (RingAt.ring r (Int.le_refl _)) ih
  have q := ChainB.tup (K := K) ha ⟨h1, h2⟩ (p h)
  have e : (List.replicate xs.length true).all id = true := by simp
  rw [e] at q
  exact q
theorem pre_in (rs : List (Int × Int)) : ∀ (i : Nat) {p : Int × Int}, p ∈ pre rs i → 0 ≤ p.1 ∧ p.1 < (i : Int)
  | 0, p, h => by cases h
  | i + 1, p, h => by
    rcases List.mem_append.mp h with h | h
    · have := pre_in rs i h
      omega
    · unfold row at h
      obtain ⟨q, _, rfl⟩ := List.mem_map.mp h
      show 0 ≤ (i : Int) ∧ (i : Int) < ((i + 1 : Nat) : Int)
      omega
/-- the written name of a place -/
def wn (rs : List (Int × Int)) (p : Int × Int) : Int × Int := if own rs p then p else (p.1 - 1, 0)
section
variable {P : Program} {w : World} {K : PySem.W.Frag} {mg : Str → Option Value} {base : Heap}
def spWrittenName : Sp := fun vs H Q _ => ∃ (c : Addr) (xs : List V) (rs : List (Int × Int)) (x : V) (p : Int × Int), vs = [.ref c, x] ∧ H c = some (.tup xs) ∧ RingsAt H 60 xs rs ∧ PlaceAt H x p ∧ 0 ≤ p.1 ∧ p.1 < (rs.length : Int) ∧
  ∀ y H', Ex H H' → PlaceAt H' y (wn rs p) → Q y H'
def spNamesOf : Sp := fun vs H Q _ => ∃ (c : Addr) (xs : List V) (rs : List (Int × Int)), vs = [.ref c] ∧ H c = some (.tup xs) ∧ RingsAt H 60 xs rs ∧ xs.length ≤ 12 ∧ ∀ p ys H', Ex H H' → H p = none → H' p = some (.lst ys) → Places H' ys (names rs) → Q (.ref p) H'
def spPlacesOf : Sp := fun vs H Q _ => ∃ (c : Addr) (xs : List V) (rs : List (Int × Int)), vs = [.ref c] ∧ H c = some (.tup xs) ∧ RingsAt H 60 xs rs ∧ 1 ≤ xs.length ∧ xs.length ≤ 12 ∧ ∀ p ys H', Ex H H' → H' p = some (.tup ys) → Places H' ys (names rs) → Q (.ref p) H'
end
end K1

/-! own walk: zip of a list and a tuple -/
namespace ZM
open PySem PySem.Spec PyProof.Rows L2
/-- a list and a tuple, their items in new pairs -/
def ItM (K : PySem.W.Frag) (a b : Addr) : It :=
  ⟨fun i H => ∃ (xs ys : List V) (x y : V), SqL K H a xs ∧ SqT K H b ys ∧ xs[i]? = some x ∧ ys[i]? = some y,
    fun i H v H' => ∃ T x y, v = .ref T ∧ H T = none ∧ H' = upd H T (.tup [x, y]) ∧ (∀ xs, SqL K H a xs → xs[i]? = some x) ∧ ∀ ys, SqT K H b ys → ys[i]? = some y,
    fun i H => ∃ xs ys : List V, SqL K H a xs ∧ SqT K H b ys ∧ xs.length = i ∧ ys.length = i⟩
theorem turnM {P : Program} {w : World} {K : PySem.W.Frag} {elts : List Expr} {kk : Nat} {tpos : Pos} {a b z TI TO i1 i2 : Addr} (S : ZipSep2 z TI TO i1 i2 [i1, a] [i2, b]) (na : a ≠ i1) (nb : b ≠ i2) (w1 : z ≠ i1 ∧ z ≠ i2) :
    Turn P w K (.Tuple elts kk tpos) (ItM K a b) [z, TI, TO, i1, i2] z (fun i h => IsZip h z TI TO .none ∧ IsTupOf2 h TI (.ref i1) (.ref i2) ∧ (∃ x y, IsTupOf2 h TO x y) ∧ h.IsListIter i1 a i ∧ h.IsTupleIter i2 b i) where
  mem := by simp
  obj := fun i h st t ht => by
    obtain ⟨hz, hTI, ⟨x, y, hTO⟩, ⟨o1, e1, _, d1⟩, ⟨o2, e2, _, d2⟩⟩ := st
    rcases (show t = z ∨ t = TI ∨ t = TO ∨ t = i1 ∨ t = i2 by simpa using ht) with q | q | q | q | q
    · rw [q]
      exact ⟨_, hz, fun v q => nomatch q⟩
    · rw [q]
      exact ⟨_, hTI, fun v q => nomatch q⟩
    · rw [q]
      exact ⟨_, hTO, fun v q => nomatch q⟩
    · exact ⟨o1, q ▸ e1, fun v q => by rw [d1] at q; cases q⟩
    · exact ⟨o2, q ▸ e2, fun v q => by rw [d2] at q; cases q⟩
  keep := fun i h h' st k => by
    obtain ⟨hz, hTI, ⟨x, y, hTO⟩, h1, h2⟩ := st
    exact ⟨k z (by simp) _ hz, k TI (by simp) _ hTI, ⟨x, y, k TO (by simp) _ hTO⟩, h1.at fun o q => k i1 (by simp) o q, h2.at fun o q => k i2 (by simp) o q⟩
  item := by
    intro X eP eW eK hc i pins s σ H E I hf st hg
    subst eP eW eK
    obtain ⟨hz, hTI, ⟨x0, y0, hTO⟩, h1, h2⟩ := st
    obtain ⟨xs, ys, x, y, qx, qy, gx, gy⟩ := hg
    obtain ⟨t1, r1, p1, _⟩ := I.list qx
    obtain ⟨t2, r2, p2, _⟩ := I.tuple qy
    obtain ⟨v1, m1, rv1⟩ := r1.get gx
    obtain ⟨v2, m2, rv2⟩ := r2.get gy
    have l1 : i < t1.toArray.size := by simpa using (List.getElem?_eq_some_iff.mp m1).1
    have l2 : i < t2.toArray.size := by simpa using (List.getElem?_eq_some_iff.mp m2).1
    have hzl : z < s.heap.objs.size := Heap.lt_size hz
    have hh : X.A.in1.handled = none := I.ok.hd hc
    refine wpAny_pyNext_zipD2_item S (Draws.list hh i1 a na t1.toArray) (Draws.tuple hh i2 b nb t2.toArray) hz hTI hTO ⟨h1, p1.isList⟩ ⟨h2, p2⟩ l1 l2 fun w1' w2' h' tk g1 g2 zz tt s1 s2 hT hsz hk => ?_
    have a1 : w1' = v1 := Option.some.inj (g1.symm.trans (by simpa using m1))
    have a2 : w2' = v2 := Option.some.inj (g2.symm.trans (by simpa using m2))
    subst a1 a2
    refine ⟨_, rfl, wpAny_letOwnedTupleGo_zip (s := { s with heap := h', toks := tk }) zz fun h2' z2 sb => ?_⟩
    have hT2 : h2'.get? s.heap.objs.size = some { cls := .type "tuple", data := .seq #[w1', w2'] } := (sb.2 _ (Nat.ne_of_gt hzl)).trans hT
    have made : ObjOk X.prog X.w (upd H s.heap.objs.size (.tup [x, y])) h2' s.heap.objs.size (.tup [x, y]) :=
      ⟨by show 2 ≤ sizeLine; decide, [w1', w2'], .cons rv1 (.cons rv2 .nil), ⟨_, hT2, rfl, _, rfl⟩⟩
    have I2 : Inv X pins σ (upd H s.heap.objs.size (.tup [x, y])) { s with heap := h2', toks := tk } :=
      I.turnedNew (ch := [z, TI, TO, i1, i2]) (fun t o ht q => (sb.2 t (fun e => ht (by simp [e]))).trans (hk t o (fun e => ht (by simp [e])) (fun e => ht (by simp [e])) (fun e => ht (by simp [e])) (fun e => ht (by simp [e])) q)) hf (Nat.le_refl _) made
    refine ⟨.ref s.heap.objs.size, _, I2, rfl, ⟨_, x, y, rfl, I.hok.fresh (Nat.le_refl _), rfl, fun l hl => by rw [I.list_inj hl qx]; exact gx, fun l hl => by rw [I.tuple_inj hl qy]; exact gy⟩,
      ⟨z2, (sb.2 _ S.TIz).trans (hk _ _ S.TIz S.TITO S.TIi1 S.TIi2 hTI), ⟨w1', w2', (sb.2 _ S.TOz).trans tt⟩, s1.1.at fun o q => (sb.2 _ w1.1.symm).trans q, s2.1.at fun o q => (sb.2 _ w1.2.symm).trans q⟩, fun t ht => ?_⟩
    have lt : t < s.heap.objs.size := by
      rcases (show t = z ∨ t = TI ∨ t = TO ∨ t = i1 ∨ t = i2 by simpa using ht) with q | q | q | q | q
      · exact q ▸ hzl
      · exact q ▸ Heap.lt_size hTI
      · exact q ▸ Heap.lt_size hTO
      · obtain ⟨_, e, _⟩ := h1
        exact q ▸ Heap.lt_size e
      · obtain ⟨_, e, _⟩ := h2
        exact q ▸ Heap.lt_size e
    rw [upd_ne (Nat.ne_of_lt lt)]
    exact (hf t ht).1
  done := by
    intro X eP eW eK hc i pins s σ H E I hf st hg
    subst eP eW eK
    obtain ⟨hz, hTI, ⟨x0, y0, hTO⟩, h1, h2⟩ := st
    obtain ⟨xs, ys, qx, qy, gx, gy⟩ := hg
    obtain ⟨t1, r1, p1, _⟩ := I.list qx
    obtain ⟨t2, r2, p2, _⟩ := I.tuple qy
    have k1 := r1.length
    have k2 := r2.length
    have hh : X.A.in1.handled = none := I.ok.hd hc
    exact wpAny_pyNext_zipD2_end S (Draws.list hh i1 a na t1.toArray) (Draws.tuple hh i2 b nb t2.toArray) hz hTI hTO ⟨h1, p1.isList⟩ ⟨h2, p2⟩ (by rw [List.size_toArray]; omega) (by rw [List.size_toArray]; omega) (.inl (by rw [List.size_toArray]; omega))
      fun h' tk hk => ⟨rfl, I.turnedL (ch := [z, TI, TO, i1, i2]) (fun t o ht q => hk t o (fun e => ht (by simp [e])) (fun e => ht (by simp [e])) (fun e => ht (by simp [e])) (fun e => ht (by simp [e])) q) hf⟩
  self := fun A i s Q E st h => wpAny_pyIter_zip st.1 h
def iZipM (K : PySem.W.Frag) (ta : TA) : TI := fun σ H R => ta σ H fun vs H1 => ∃ a b xs ys, vs = [.ref a, .ref b] ∧ SqL K H1 a xs ∧ SqT K H1 b ys ∧ R (ItM K a b) H1
theorem pi_zipM {X : Cx} {e e2 : Expr} {ta : TA} {p pos tpos : Pos} {elts : List Expr} {kk : Nat} (hg : Gl X "zip") (hm : X.mg "zip" = none) (ha : PA X [e, e2] ta)
    (hs : starEach [e, e2] X.env = (false, eval e X.env) :: starEach [e2] X.env := by rfl) (hpl : (backTo pos (starEach [e2] X.env)).any (·.1) = false := by rfl) :
    PI X (.Tuple elts kk tpos) (.Call (.Name "zip" p) [e, e2] [] pos) (iZipM X.K ta) := by
  refine ⟨fun pins s σ H R I h => ?_⟩
  refine Call_ (ld_blt I hg hm PyProof.Rows.boot_zip (PyProof.Rows.callWith_type1 (thn (ha.run pos pins s σ H _ I h) fun vs' s1 ⟨vs, H1, I1, r1, q1⟩ => ?_) hs hpl))
  obtain ⟨a, b, xs, ys, ex, qx, qy, q⟩ := q1
  subst ex
  obtain ⟨t1, r1', p1, _⟩ := I1.list qx
  obtain ⟨t2, r2', p2, _⟩ := I1.tuple qy
  cases r1 with
  | cons ra rr =>
    cases rr with
    | cons rb rr =>
      cases rr
      cases ra
      cases rb
      have la : a < s1.heap.objs.size := by
        obtain ⟨_, e, _⟩ := p1.isList
        exact Heap.lt_size e
      have lb : b < s1.heap.objs.size := by
        obtain ⟨_, e, _⟩ := p2
        exact Heap.lt_size e
      refine zip_begins2 (begins_list a t1.toArray) (begins_tuple b t2.toArray) p1.isList p2 fun h' hz hTI hTO g1 g2 _ hk => wpAny_pyIter_zip hz ?_
      have I2 : Inv X pins σ H1 { s1 with heap := h' } := I1.kept (t' := s1.toks) hk
      have S : ZipSep2 (s1.heap.objs.size + 4) (s1.heap.objs.size + 2) (s1.heap.objs.size + 3) s1.heap.objs.size (s1.heap.objs.size + 1) [s1.heap.objs.size, a] [s1.heap.objs.size + 1, b] :=
        zip_sep2 (fun t ht => by rw [List.mem_singleton.mp ht]; exact la) (fun t ht => by rw [List.mem_singleton.mp ht]; exact lb)
      have add : ∀ {m k : Nat}, m ≠ k → s1.heap.objs.size + m ≠ s1.heap.objs.size + k := fun n e => n (Nat.add_left_cancel e)
      refine ⟨s1.heap.objs.size + 4, [s1.heap.objs.size + 4, s1.heap.objs.size + 2, s1.heap.objs.size + 3, s1.heap.objs.size, s1.heap.objs.size + 1], _, _, H1, rfl, I2,
        turnM S (Nat.ne_of_lt la) (Nat.ne_of_lt (Nat.lt_succ_of_lt lb)) ⟨add (m := 4) (k := 0) (by decide), add (by decide)⟩,
        ⟨hz, hTI, ⟨_, _, hTO⟩, ⟨_, g1, rfl, rfl⟩, ⟨_, g2, rfl, rfl⟩⟩, fun t ht => ?_, q⟩
      have le : s1.heap.objs.size ≤ t := by
        rcases (show t = s1.heap.objs.size + 4 ∨ t = s1.heap.objs.size + 2 ∨ t = s1.heap.objs.size + 3 ∨ t = s1.heap.objs.size ∨ t = s1.heap.objs.size + 1 by simpa using ht) with q | q | q | q | q
        · exact q ▸ Nat.le_add_right _ _
        · exact q ▸ Nat.le_add_right _ _
        · exact q ▸ Nat.le_add_right _ _
        · exact q ▸ Nat.le_refl _
        · exact q ▸ Nat.le_add_right _ _
      exact I1.fpOk le (I1.hok.fresh le)
theorem lc_zipM {K : PySem.W.Frag} {a b : Addr} {xs ys : List V} {n : Nat} {g : TG} {tt : TT} {te : TE} {vs : List Nat} {σ : L2.St} {H1 : Hp} {D : Addr} {Qd : Hp → Prop} (hx : xs.length = n) (hy : ys.length = n)
    (Pv : Nat → Hp → Prop) (h0 : Pv 0 (upd H1 D (.lst []))) (hq : ∀ i H, Pv i H → SqL K H a xs ∧ SqT K H b ys)
    (hs : ∀ i x y T H, i < n → xs[i]? = some x → ys[i]? = some y → Pv i H → H T = none → g (.ref T) (wipe σ vs) (upd H T (.tup [x, y])) fun σ2 H2 => wipe σ2 vs = wipe σ vs ∧ tt σ2 H2 fun c H3 =>
      if c = true then te σ2 H3 fun z H4 => ∃ acc, H4 D = some (.lst acc) ∧ acc.length < sizeLine ∧ Pv (i + 1) (upd H4 D (.lst (acc ++ [z]))) else Pv (i + 1) H3) (hd : ∀ H, Pv n H → Qd H) :
    ∃ W : Nat → Nat → Hp → Prop, (∃ m, W 0 m (upd H1 D (.lst []))) ∧ ∀ i m H, W i m H →
      ((ItM K a b).stop i H ∧ Qd H) ∨ ((ItM K a b).go i H ∧ ∃ Nx : Hp → Prop, (∀ H', Nx H' → ∃ m', m' < m ∧ W (i + 1) m' H') ∧ ∀ v H', (ItM K a b).yld i H v H' → g v (wipe σ vs) H' fun σ2 H2 => wipe σ2 vs = wipe σ vs ∧ tt σ2 H2 fun c H3 =>
        if c = true then te σ2 H3 fun z H4 => ∃ acc, H4 D = some (.lst acc) ∧ acc.length < sizeLine ∧ Nx (upd H4 D (.lst (acc ++ [z]))) else Nx H3) := by
  refine ⟨fun i m H => m = n - i ∧ i ≤ n ∧ Pv i H, ⟨n, (Nat.sub_zero n).symm, Nat.zero_le _, h0⟩, ?_⟩
  rintro i m H ⟨rfl, hi, p⟩
  obtain ⟨qa, qb⟩ := hq i H p
  by_cases hlt : i < n
  · have e1 : xs[i]? = some (xs[i]'(by omega)) := List.getElem?_eq_getElem _
    have e2 : ys[i]? = some (ys[i]'(by omega)) := List.getElem?_eq_getElem _
    refine .inr ⟨⟨xs, ys, _, _, qa, qb, e1, e2⟩, Pv (i + 1), fun H' p' => ⟨n - (i + 1), by omega, rfl, hlt, p'⟩, fun v H' hy' => ?_⟩
    obtain ⟨T, x, y, rfl, nT, rfl, fx, fy⟩ := hy'
    exact hs i x y T H hlt (fx _ qa) (fy _ qb) p nT
  · have e : i = n := by omega
    subst e
    exact .inl ⟨⟨xs, ys, qa, qb, hx, hy⟩, hd H p⟩
end ZM

namespace K1
open PySem PySem.Spec PyProof.Rows L2 Evl LX ZW
theorem int_get5 {ns : List Int} {i : Nat} (h : i < ns.length) : (ns.map V.int)[i]? = some (V.int (ns.getD i 0)) := by
  rw [List.getElem?_map, List.getD_eq_getElem?_getD, List.getElem?_eq_getElem h]
  rfl
theorem mapr_get {n i : Nat} (f : Nat → Int) (h : i < n) : ((List.range n).map f).getD i 0 = f i := by
  rw [List.getD_eq_getElem?_getD, List.getElem?_map, List.getElem?_range h]
  rfl
section
variable {P : Program} {w : World} {K : PySem.W.Frag} {mg : Str → Option Value} {base : Heap}
def spCheckDigits (K : PySem.W.Frag) : Sp := fun vs H Q _ => ∃ (l : Addr) (ns : List Int), vs = [.ref l] ∧ H l = some (.lst (ns.map V.int)) ∧ ns.length ≤ 1000 ∧ (∀ z ∈ ns, -(10 ^ 60) < z ∧ z < 10 ^ 60) ∧ ∀ H', Ex H H' → Q .non H'
theorem ok_check_digits (T : Txt K mg) {f : Addr} {fd : FuncData} (D : DefAt K mg "check_digits" sCheckDigits ["numbers"] f fd) : FnOk P w K mg base CX0 2 f fd ["numbers"] (spCheckDigits K) := by
  refine D.F.ok scCheckDigits (fun vs H Q E h => ?_) (fun cdv A outer s H vs Q E hr h => ?_)
  · obtain ⟨l, ns, rfl, _⟩ := h
    rfl
  · obtain ⟨l, ns, rfl, hl, h1000, hb, k⟩ := h
    obtain ⟨f1, fd1, D1⟩ := T.d_is_integer
    refine ⟨_, pss_one (ps_if (pt_not (pt_val (pe_callB (cr_all rfl) (by rfl) T.z_all (by decide +kernel) (pa_cons (pe_lc (own := [("number", 1)]) (g := gName 1) (tt := tYes) rfl scCheckDigits.nd (pi_list (pv 0))
        (blkOk_by (N := nCheckDigits) (sc := defScope sCheckDigits) (by decide +kernel)) (fun _ _ _ _ _ => pg_name (i := 1) scCheckDigits.nd rfl (Or.inl rfl)) (fun _ _ _ _ _ => pts_nil)
        (fun _ _ _ _ _ => pe_call (ok_is_integer T D1) hr (by rfl) D1.g D1.F.kp D1.b .nil pass0 (pa_cons (pv 1) pa_nil))) pa_nil)))) pss_never pss_nil), ?_⟩
    refine ⟨_, rfl, l, rfl, ⟨_, SqL.of hl⟩, fun Dl hD => ?_⟩
    refine lc_list (K := K) (a := l) (xs := ns.map V.int) (fun i H' => H' Dl = some (.lst ((List.replicate i true).map V.bl)) ∧ Ex H H') ⟨upd_same, Ex.new hD⟩ (fun i H' _ hp => SqL.of (hp.2 _ _ hl)) (fun i x H' hx hp => ?_) (fun H' hp => ?_)
    · obtain ⟨w1, w2⟩ := hp
      have hi : i < ns.length := by
        have := (List.getElem?_eq_some_iff.mp hx).1
        rw [List.length_map] at this
        exact this
      rw [int_get5 hi] at hx
      obtain rfl := Option.some.inj hx
      obtain ⟨b1, b2⟩ := hb (ns.getD i 0) (by rw [List.getD_eq_getElem?_getD, List.getElem?_eq_getElem hi]; exact List.getElem_mem hi)
      refine ⟨rfl, ?_⟩
      dsimp only [tYes]
      rw [if_pos rfl]
      refine ⟨_, rfl, _, true, rfl, ?_, fun H3 e3 => ⟨_, e3 _ _ w1, ?_, ?_, Ex.mut (w2.trans e3) hD⟩⟩
      · have := IntB.int (K := K) (H := H') (ns.getD i 0)
        rw [decide_eq_true b1, decide_eq_true b2] at this
        exact this
      · rw [List.length_map, List.length_replicate]
        exact small1000 (by omega)
      · rw [upd_same, List.replicate_succ', List.map_append]
        rfl
    · refine ⟨Dl, List.replicate (ns.map V.int).length true, rfl, SqL.of hp.1, ?_⟩
      rw [show (List.replicate (ns.map V.int).length true).all id = true by simp]
      exact ⟨_, rfl, iteF (k _ hp.2)⟩
end
end K1

/-! plain mathematics of heaps: how many columns reach to a diagonal; heaps of two rules that are one but moved -/
namespace HM
/-- just k columns end at or below the diagonal t -/
def IsF (h : List Nat) (t : Int) (k : Nat) : Prop := (∀ c, c < k → dg h c ≤ t) ∧ t < dg h k
open Classical in
noncomputable def F (h : List Nat) (t : Int) : Nat := if e : ∃ k, IsF h t k then Classical.choose e else 0
theorem dg_ge {h : List Nat} (H : IsHeap h) (c : Nat) : (c : Int) - (hAt h 0 : Int) ≤ dg h c := by
  have := H.le (Nat.zero_le c)
  unfold dg
  omega
theorem dg_le (h : List Nat) (c : Nat) : dg h c ≤ (c : Int) := by
  unfold dg
  omega
theorem exF {h : List Nat} (H : IsHeap h) (t : Int) : ∃ k, IsF h t k := by
  have key : ∀ n : Nat, (∃ k, IsF h t k) ∨ ∀ c, c < n → dg h c ≤ t := by
    intro n
    induction n with
    | zero => exact .inr fun c hc => absurd hc (Nat.not_lt_zero c)
    | succ n ih =>
      rcases ih with e | a
      · exact .inl e
      · by_cases q : dg h n ≤ t
        · refine .inr fun c hc => ?_
          rcases Nat.lt_or_ge c n with z | z
          · exact a c z
          · have : c = n := by omega
            subst this
            exact q
        · exact .inl ⟨n, a, by omega⟩
  rcases key ((t + hAt h 0 + 1).toNat + 1) with e | a
  · exact e
  · have h1 := a _ (Nat.lt_succ_self _)
    have h2 := dg_ge H (t + hAt h 0 + 1).toNat
    omega
theorem F_spec {h : List Nat} (H : IsHeap h) (t : Int) : IsF h t (F h t) := by
  unfold F
  rw [dif_pos (exF H t)]
  exact Classical.choose_spec (exF H t)
theorem IsF.uniq {h : List Nat} {t : Int} {j k : Nat} (a : IsF h t j) (b : IsF h t k) : j = k := by
  rcases Nat.lt_trichotomy j k with q | q | q
  · have := b.1 j q
    have := a.2
    omega
  · exact q
  · have := a.1 k q
    have := b.2
    omega
theorem F_eq {h : List Nat} (H : IsHeap h) {t : Int} {k : Nat} (a : IsF h t k) : F h t = k := (F_spec H t).uniq a
theorem F_mono {h : List Nat} (H : IsHeap h) (t : Int) : F h t ≤ F h (t + 1) ∧ F h (t + 1) ≤ F h t + 1 := by
  have a := F_spec H t
  have b := F_spec H (t + 1)
  constructor
  · refine Nat.le_of_not_lt fun q => ?_
    have := a.1 _ q
    have := b.2
    omega
  · refine Nat.le_of_not_lt fun q => ?_
    have h1 := b.1 _ q
    have h3 := a.2
    have h2 := dg_lt H (Nat.lt_succ_self (F h t))
    show False
    have : dg h (F h t + 1) = dg h (F h t).succ := rfl
    omega
/-- the rule of growth in these numbers -/
theorem F_grow {h : List Nat} (H : IsHeap h) {L : Int → Prop} [DecidablePred L] {g : Nat → Bool} (hg : ∀ c, g c = (opn h c && decide (L (dg h c)))) (t : Int) :
    F (grow h g) t = F h t + if L (t + 1) ∧ F h (t + 1) = F h t + 1 ∧ F h (t - 1) = F h t then 1 else 0 := by
  have ho : ∀ c, g c = true → opn h c = true := fun c z => by
    rw [hg, Bool.and_eq_true] at z
    exact z.1
  have hd : ∀ c, dg (grow h g) c = dg h c - (b2n (g c) : Int) := fun c => by
    unfold dg
    rw [hAt_grow ho]
    omega
  have G := grow_heap H ho
  have a := F_spec H t
  have ap := F_spec H (t + 1)
  have am := F_spec H (t - 1)
  have m1 := F_mono H t
  have m2 := F_mono H (t - 1)
  rw [show t - 1 + 1 = t by omega] at m2
  refine F_eq G ?_
  generalize hk : F h t = k at *
  by_cases c : L (t + 1) ∧ F h (t + 1) = k + 1 ∧ F h (t - 1) = k
  · rw [if_pos c]
    obtain ⟨c1, c2, c3⟩ := c
    rw [c2] at ap
    rw [c3] at am
    have e1 := ap.1 k (Nat.lt_succ_self k)
    have e2 := a.2
    have e : dg h k = t + 1 := by omega
    have op : opn h k = true := by
      cases k with
      | zero => rfl
      | succ j =>
        unfold opn
        rw [Bool.or_eq_true]
        refine .inr (decide_eq_true ?_)
        show hAt h (j + 1) < hAt h j
        have e3 := am.1 j (Nat.lt_succ_self j)
        unfold dg at e e3
        omega
    have gk : g k = true := by
      rw [hg, op, e, decide_eq_true c1]
      rfl
    refine ⟨fun x hx => ?_, ?_⟩
    · rw [hd]
      by_cases z : x = k
      · rw [z, gk]
        show _ - ((1 : Nat) : Int) ≤ _
        omega
      · have := a.1 x (by omega)
        omega
    · rw [hd]
      have h1 := dg_lt H (Nat.lt_succ_self k)
      have h2 := b2n_le (g (k + 1))
      have : dg h (k + 1) = dg h k.succ := rfl
      have h3 : g (k + 1) = true → False ∨ True := fun _ => .inr trivial
      by_cases z : dg h (k + 1) = t + 2
      · have : g (k + 1) = false ∨ g (k + 1) = true := by cases g (k + 1) <;> simp
        rcases this with q | q
        · rw [q]
          show _ < _ - ((0 : Nat) : Int)
          omega
        · have q2 := ho _ q
          have := opn_lt q2
          unfold dg at z e
          omega
      · omega
  · rw [if_neg c, Nat.add_zero]
    refine ⟨fun x hx => ?_, ?_⟩
    · rw [hd]
      have := a.1 x hx
      omega
    · rw [hd]
      have a2 := a.2
      cases q : g k with
      | false =>
        show _ < _ - ((0 : Nat) : Int)
        omega
      | true =>
        show _ < _ - ((1 : Nat) : Int)
        refine Int.lt_of_not_ge fun z => c ?_
        have e : dg h k = t + 1 := by omega
        have q1 := q
        rw [hg, Bool.and_eq_true] at q1
        refine ⟨by have := of_decide_eq_true q1.2; rwa [e] at this, ?_, ?_⟩
        · have : F h (t + 1) ≠ k := fun y => by
            have := ap.2
            rw [y] at this
            omega
          omega
        · refine Nat.le_antisymm m2.1 (Nat.le_of_not_lt fun y => ?_)
          have hj : k = F h (t - 1) + 1 := by omega
          have e1 := am.2
          have e2 := a.1 _ y
          have op := q1.1
          rw [hj] at op
          have := opn_lt op
          rw [hj] at e
          unfold dg at e e1 e2
          omega
/-- two heaps, the second with one column more that reaches, all diagonals moved by one -/
def Rl (h m : List Nat) : Prop := ∀ t : Int, F h t ≤ F m (t + 1) ∧ F m (t + 1) ≤ F h t + 1 ∧ F m (t + 1) + F h (t + 1) ≤ F m (t + 2) + F h t
theorem Rl.grow {h m : List Nat} (R : Rl h m) (H : IsHeap h) (M : IsHeap m) {L : Int → Prop} [DecidablePred L] (nL : ∀ d, L d → ¬ L (d + 1)) {g g' : Nat → Bool} (hg : ∀ c, g c = (opn h c && decide (L (dg h c)))) (hg' : ∀ c, g' c = (opn m c && decide (L (dg m c - 1)))) : Rl (grow h g) (grow m g') := by
  intro t
  have s := fun u => F_grow H hg u
  have s' := fun u => F_grow (L := fun d => L (d - 1)) M hg' u
  rw [s t, s (t + 1), s' (t + 1), s' (t + 2)]
  have r1 := R (t - 1)
  have r2 := R t
  have r3 := R (t + 1)
  have r4 := R (t + 2)
  have a1 := F_mono H (t - 1)
  have a2 := F_mono H t
  have a3 := F_mono H (t + 1)
  have b1 := F_mono M t
  have b2 := F_mono M (t + 1)
  have b3 := F_mono M (t + 2)
  have n1 := nL (t + 1)
  simp only [show t - 1 + 1 = t by omega, show t - 1 + 2 = t + 1 by omega, show t + 1 + 1 = t + 2 by omega, show t + 1 - 1 = t by omega, show t + 2 + 1 = t + 3 by omega, show t + 2 - 1 = t + 1 by omega, show t + 1 + 2 = t + 3 by omega, show t + 2 + 2 = t + 4 by omega, show t + 3 - 1 = t + 2 by omega] at *
  generalize F h (t - 1) = x0 at *
  generalize F h t = x1 at *
  generalize F h (t + 1) = x2 at *
  generalize F h (t + 2) = x3 at *
  generalize F h (t + 3) = x4 at *
  generalize F m t = y0 at *
  generalize F m (t + 1) = y1 at *
  generalize F m (t + 2) = y2 at *
  generalize F m (t + 3) = y3 at *
  generalize F m (t + 4) = y4 at *
  clear s s' R hg hg' nL
  by_cases p1 : L (t + 1)
  · have p2 := n1 p1
    simp only [p1, p2, true_and, false_and, if_false]
    split <;> split <;> omega
  · by_cases p2 : L (t + 2)
    · simp only [p1, p2, true_and, false_and, if_false]
      split <;> split <;> omega
    · simp only [p1, p2, false_and, if_false]
      omega
theorem F_nil (t : Int) : F [] t = (t + 1).toNat := by
  refine F_eq IsHeap.nil ⟨fun c hc => ?_, ?_⟩
  · have := dg_le [] c
    omega
  · unfold dg
    rw [hAt_ge (Nat.zero_le _)]
    omega
theorem Rl.nil : Rl [] [] := fun t => by
  rw [F_nil, F_nil, F_nil]
  omega
theorem F_low {h : List Nat} (H : IsHeap h) (t : Int) : (t + 1).toNat ≤ F h t := by
  refine Nat.le_of_not_lt fun q => ?_
  have := (F_spec H t).2
  have := dg_le h (F h t)
  omega
theorem F_high {h : List Nat} (H : IsHeap h) {t : Int} (q : (h.length : Int) ≤ t + 1) : F h t = (t + 1).toNat := by
  refine F_eq H ⟨fun c hc => ?_, ?_⟩
  · have := dg_le h c
    omega
  · unfold dg
    rw [hAt_ge (by omega)]
    omega
theorem F_zero {h : List Nat} (H : IsHeap h) {t : Int} (q : t < -(hAt h 0 : Int)) : F h t = 0 :=
  F_eq H ⟨fun c hc => absurd hc (Nat.not_lt_zero c), by unfold dg; omega⟩
theorem F_up {h : List Nat} (H : IsHeap h) {t : Int} {d : Nat} (q : t < (d : Int) - (hAt h 0 : Int)) : F h t ≤ d := by
  refine Nat.le_of_not_lt fun z => ?_
  have := (F_spec H t).1 d z
  have := dg_ge H d
  omega
theorem F_step {h : List Nat} (H : IsHeap h) (t : Int) : ∀ b : Nat, F h t ≤ F h (t + b) ∧ F h (t + b) ≤ F h t + b
  | 0 => by
    rw [show t + ((0 : Nat) : Int) = t by omega]
    omega
  | b + 1 => by
    have a := F_step H t b
    have := F_mono H (t + b)
    rw [show t + ((b + 1 : Nat) : Int) = t + b + 1 by omega]
    omega
end HM

namespace K1
open PySem PySem.Spec PyProof.Rows L2 Evl HM LX
/-- places with chips more at the left end -/
def mvp (rs : List (Int × Int)) (a : Int) (ps : List Int) : List Int := (List.range ps.length).map fun j => (ps.getD j 0 + a * K1N.sAt rs j) % (K1N.nAt rs j : Int)
theorem mvp_len (rs : List (Int × Int)) (a : Int) (ps : List Int) : (mvp rs a ps).length = ps.length := by
  unfold mvp
  rw [List.length_map, List.length_range]
theorem mvp_get (rs : List (Int × Int)) (a : Int) {ps : List Int} {j : Nat} (hj : j < ps.length) : (mvp rs a ps).getD j 0 = (ps.getD j 0 + a * K1N.sAt rs j) % (K1N.nAt rs j : Int) := by
  unfold mvp
  rw [mapr_get _ hj]
theorem mvp_zero {rs : List (Int × Int)} {ps : List Int} (h : PlOk rs ps) : mvp rs 0 ps = ps := by
  refine List.ext_getElem (mvp_len _ _ _) fun i h1 h2 => ?_
  have e := mvp_get rs 0 h2
  have q := h i h2
  rw [Int.zero_mul, Int.add_zero, Int.emod_eq_of_lt q.1 q.2] at e
  rw [List.getD_eq_getElem?_getD, List.getElem?_eq_getElem h1, List.getD_eq_getElem?_getD, List.getElem?_eq_getElem h2] at e
  exact e
theorem rule_mv (d s p a n : Int) : (d * s - (p + a * s) % n) % n = 0 ↔ ((d - a) * s - p) % n = 0 := by
  have e : ((d - a) * s - p) % n = (d * s - (p + a * s) % n) % n := by
    have := Int.mul_ediv_add_emod (p + a * s) n
    rw [show (d - a) * s - p = (d * s - (p + a * s) % n) + n * (-((p + a * s) / n)) by rw [Int.sub_mul, Int.mul_neg]; omega, Int.add_mul_emod_self_left]
  rw [e]
theorem mv_rel {rs : List (Int × Int)} {ps : List Int} (ok : ∀ j, j < ps.length → 1 ≤ K1N.sAt rs j ∧ K1N.sAt rs j < (K1N.nAt rs j : Int)) (a : Int) : ∀ i, i ≤ ps.length → Rl (hseq rs (mvp rs a ps) i) (hseq rs (mvp rs (a + 1) ps) i)
  | 0, _ => Rl.nil
  | i + 1, hi => by
    have R := mv_rel ok a i (by omega)
    obtain ⟨o1, o2⟩ := ok i hi
    have e1 := mvp_get rs a (show i < ps.length from hi)
    have e2 := mvp_get rs (a + 1) (show i < ps.length from hi)
    show Rl (grow _ (gl _ _ _ ((mvp rs a ps).getD i 0))) (grow _ (gl _ _ _ ((mvp rs (a + 1) ps).getD i 0)))
    rw [e1, e2]
    generalize (K1N.nAt rs i : Int) = n at *
    generalize K1N.sAt rs i = s at *
    generalize ps.getD i 0 = p at *
    refine R.grow (hseq_ok rs _ i).1 (hseq_ok rs _ i).1 (L := fun d => ((d - a) * s - p) % n = 0) (fun d h1 h2 => ?_) (fun c => ?_) (fun c => ?_)
    · have h3 : ((d + 1 - a) * s - p) % n = 0 := h2
      rw [show (d + 1 - a) * s - p = ((d - a) * s - p) + s by rw [show d + 1 - a = (d - a) + 1 by omega, Int.add_mul]; omega] at h3
      have h4 := Int.emod_emod_of_dvd s (Int.dvd_refl n)
      have h5 : s % n = 0 := by
        have h1' : ((d - a) * s - p) % n = 0 := h1
        have := Int.emod_eq_emod_iff_emod_sub_eq_zero (m := ((d - a) * s - p) + s) (n := n) (k := ((d - a) * s - p))
        have h6 := this.mp (by rw [h3, h1'])
        rw [show ((d - a) * s - p) + s - ((d - a) * s - p) = s by omega] at h6
        exact h6
      rw [Int.emod_eq_of_lt (by omega) o2] at h5
      omega
    · unfold gl
      rw [decide_eq_decide.mpr (rule_mv (dg _ c) s p a n)]
    · unfold gl
      rw [decide_eq_decide.mpr ((rule_mv (dg _ c) s p (a + 1) n).trans (by rw [show dg (hseq rs (mvp rs (a + 1) ps) i) c - (a + 1) = dg (hseq rs (mvp rs (a + 1) ps) i) c - 1 - a by omega]))]
theorem mv_steps {rs : List (Int × Int)} {ps : List Int} (ok : ∀ j, j < ps.length → 1 ≤ K1N.sAt rs j ∧ K1N.sAt rs j < (K1N.nAt rs j : Int)) (a t : Int) : ∀ k : Nat,
    F (hseq rs (mvp rs a ps) ps.length) t ≤ F (hseq rs (mvp rs (a + k) ps) ps.length) (t + k) ∧ F (hseq rs (mvp rs (a + k) ps) ps.length) (t + k) ≤ F (hseq rs (mvp rs a ps) ps.length) t + k
  | 0 => by
    rw [show a + ((0 : Nat) : Int) = a by omega, show t + ((0 : Nat) : Int) = t by omega]
    omega
  | k + 1 => by
    have h := mv_steps ok a t k
    have r := mv_rel ok (a + k) ps.length (Nat.le_refl _) (t + k)
    rw [show a + ((k + 1 : Nat) : Int) = a + k + 1 by omega, show t + ((k + 1 : Nat) : Int) = t + k + 1 by omega]
    omega
/-- richness and 1, by columns -/
noncomputable def rich1 (rs : List (Int × Int)) (ps : List Int) (tot : Int) : Nat := F (hseq rs ps ps.length) (tot - ps.length)
theorem rich_ends {rs : List (Int × Int)} {ps : List Int} (ok : ∀ j, j < ps.length → 1 ≤ K1N.sAt rs j ∧ K1N.sAt rs j < (K1N.nAt rs j : Int)) (hp : PlOk rs ps) (tot a b : Int) :
    (((rich1 rs (mvp rs a ps) (tot + a + b) : Int) - (rich1 rs ps tot : Int)).natAbs) ≤ a.natAbs + b.natAbs := by
  unfold rich1
  rw [mvp_len]
  have H0 := (hseq_ok rs ps ps.length).1
  have Ha := (hseq_ok rs (mvp rs a ps) ps.length).1
  have e0 := mvp_zero hp
  rw [show tot + a + b - (ps.length : Int) = tot - (ps.length : Int) + a + b by omega]
  generalize tot - (ps.length : Int) = t
  have h1 : ((F (hseq rs (mvp rs a ps) ps.length) (t + a) : Int) - (F (hseq rs ps ps.length) t : Int)).natAbs ≤ a.natAbs := by
    by_cases ha : 0 ≤ a
    · have := mv_steps ok 0 t a.toNat
      rw [e0, show (0 : Int) + (a.toNat : Int) = a by omega, show t + (a.toNat : Int) = t + a by omega] at this
      omega
    · have := mv_steps ok a (t + a) (-a).toNat
      rw [show a + ((-a).toNat : Int) = 0 by omega, e0, show t + a + ((-a).toNat : Int) = t by omega] at this
      omega
  have h2 : ((F (hseq rs (mvp rs a ps) ps.length) (t + a + b) : Int) - (F (hseq rs (mvp rs a ps) ps.length) (t + a) : Int)).natAbs ≤ b.natAbs := by
    by_cases hb : 0 ≤ b
    · have := F_step Ha (t + a) b.toNat
      rw [show t + a + (b.toNat : Int) = t + a + b by omega] at this
      omega
    · have := F_step Ha (t + a + b) (-b).toNat
      rw [show t + a + b + ((-b).toNat : Int) = t + a by omega] at this
      omega
  omega
/-- what bounds richness -/
theorem rich_low (rs : List (Int × Int)) (ps : List Int) (tot : Int) : tot - ps.length + 1 ≤ (rich1 rs ps tot : Int) := by
  have := F_low (hseq_ok rs ps ps.length).1 (tot - ps.length)
  unfold rich1
  omega
theorem rich_neg (rs : List (Int × Int)) (ps : List Int) {tot : Int} (h : tot < 0) : rich1 rs ps tot = 0 := by
  have q := (hseq_ok rs ps ps.length)
  exact F_zero q.1 (by have := q.2.2; omega)
theorem rich_up (rs : List (Int × Int)) (ps : List Int) {tot : Int} (h : 0 ≤ tot) : (rich1 rs ps tot : Int) ≤ tot + 1 := by
  have q := (hseq_ok rs ps ps.length)
  have := F_up q.1 (t := tot - ps.length) (d := (tot + 1).toNat) (by have := q.2.2; omega)
  unfold rich1
  omega
theorem rich_great (rs : List (Int × Int)) (ps : List Int) {tot : Int} (h : 2 * (ps.length : Int) - 2 < tot) : rich1 rs ps tot = (tot - ps.length + 1).toNat := by
  have q := (hseq_ok rs ps ps.length)
  exact F_high q.1 (by have := q.2.1; omega)
end K1

/-! the map of a chain: exchanges of neighbours, ring by ring; what it counts; plain mathematics -/
namespace MP
/-- exchanged where they rise -/
def stepP (M : Int → Bool) (f : Int → Int) (i : Int) : Int := if M i = true then max (f i) (f (i + 1)) else if M (i - 1) = true then min (f (i - 1)) (f i) else f i
/-- no two neighbours -/
def Sparse (M : Int → Bool) : Prop := ∀ i, M i = true → M (i + 1) = false
theorem Sparse.ahead {M : Int → Bool} (S : Sparse M) {i : Int} (h : M i = true) : M (i - 1) = false := by
  cases q : M (i - 1) with
  | false => rfl
  | true =>
    have := S _ q
    rw [show i - 1 + 1 = i by omega, h] at this
    cases this
theorem stepP_at {M : Int → Bool} {f : Int → Int} {i : Int} (h : M i = true) : stepP M f i = max (f i) (f (i + 1)) := if_pos h
theorem stepP_next {M : Int → Bool} (S : Sparse M) {f : Int → Int} {i : Int} (h : M i = true) : stepP M f (i + 1) = min (f i) (f (i + 1)) := by
  unfold stepP
  rw [if_neg (by rw [S i h]; decide), show i + 1 - 1 = i by omega, if_pos h]
theorem stepP_none {M : Int → Bool} {f : Int → Int} (h : ∀ i, M i = false) : stepP M f = f := by
  funext i
  unfold stepP
  rw [if_neg (by rw [h]; decide), if_neg (by rw [h]; decide)]
/-- the map, the last ring first -/
def pmap : List (Int → Bool) → (Int → Int) → Int → Int
  | [], f => f
  | M :: Ms, f => stepP M (pmap Ms f)
theorem pmap_bound {e : Int} : ∀ (Ms : List (Int → Bool)) (i : Int), i + e - Ms.length ≤ pmap Ms (fun i => i + e) i ∧ pmap Ms (fun i => i + e) i ≤ i + e + Ms.length
  | [], i => by
    show i + e - 0 ≤ i + e ∧ i + e ≤ i + e + 0
    omega
  | M :: Ms, i => by
    have h0 := pmap_bound (e := e) Ms i
    have h1 := pmap_bound (e := e) Ms (i + 1)
    have h2 := pmap_bound (e := e) Ms (i - 1)
    rw [List.length_cons]
    show i + e - ((Ms.length + 1 : Nat) : Int) ≤ stepP M _ i ∧ stepP M _ i ≤ i + e + ((Ms.length + 1 : Nat) : Int)
    unfold stepP
    split
    · omega
    · split
      · omega
      · omega
/-- each value once -/
def Bij (f : Int → Int) : Prop := ∀ t, ∃ i, f i = t ∧ ∀ j, f j = t → j = i
theorem Bij.inj {f : Int → Int} (B : Bij f) {i j : Int} (h : f i = f j) : i = j := by
  obtain ⟨k, _, h2⟩ := B (f i)
  rw [h2 i rfl, h2 j h.symm]
/-- where the value comes from -/
def sw (M : Int → Bool) (f : Int → Int) (i : Int) : Int := if M i = true then (if f i < f (i + 1) then i + 1 else i) else if M (i - 1) = true then (if f (i - 1) < f i then i - 1 else i) else i
theorem step_sw (M : Int → Bool) (f : Int → Int) (i : Int) : stepP M f i = f (sw M f i) := by
  unfold stepP sw
  by_cases m : M i = true
  · rw [if_pos m, if_pos m]
    split <;> omega
  · rw [if_neg m, if_neg m]
    by_cases m2 : M (i - 1) = true
    · rw [if_pos m2, if_pos m2]
      split <;> omega
    · rw [if_neg m2, if_neg m2]
theorem sw_sw {M : Int → Bool} (S : Sparse M) (f : Int → Int) (i : Int) : sw M f (sw M f i) = i := by
  by_cases m : M i = true
  · by_cases c : f i < f (i + 1)
    · have e : sw M f i = i + 1 := by
        unfold sw
        rw [if_pos m, if_pos c]
      rw [e]
      unfold sw
      rw [if_neg (by rw [S i m]; decide), show i + 1 - 1 = i by omega, if_pos m, if_pos c]
    · have e : sw M f i = i := by
        unfold sw
        rw [if_pos m, if_neg c]
      rw [e, e]
  · by_cases m2 : M (i - 1) = true
    · by_cases c : f (i - 1) < f i
      · have e : sw M f i = i - 1 := by
          unfold sw
          rw [if_neg m, if_pos m2, if_pos c]
        rw [e]
        unfold sw
        rw [if_pos m2, show i - 1 + 1 = i by omega, if_pos c]
      · have e : sw M f i = i := by
          unfold sw
          rw [if_neg m, if_pos m2, if_neg c]
        rw [e, e]
    · have e : sw M f i = i := by
        unfold sw
        rw [if_neg m, if_neg m2]
      rw [e, e]
theorem bij_step {M : Int → Bool} (S : Sparse M) {f : Int → Int} (B : Bij f) : Bij (stepP M f) := by
  intro t
  obtain ⟨i, hi, u⟩ := B t
  refine ⟨sw M f i, by rw [step_sw, sw_sw S, hi], fun j hj => ?_⟩
  rw [step_sw] at hj
  have := u _ hj
  rw [← this, sw_sw S]
theorem bij_pmap {e : Int} : ∀ Ms : List (Int → Bool), (∀ M ∈ Ms, Sparse M) → Bij (pmap Ms fun i => i + e)
  | [], _ => fun t => ⟨t - e, by show t - e + e = t; omega, fun j hj => by have : j + e = t := hj; omega⟩
  | M :: Ms, h => bij_step (h M (List.mem_cons_self ..)) (bij_pmap Ms fun N hN => h N (List.mem_cons_of_mem _ hN))
/-! ### what is counted -/
def opN (M : Int → Bool) (F : Int → Int) (v : Int) : Int := if M v = true then min (F (v - 1) + 1) (F (v + 1)) else F v
def opE (M : Int → Bool) (E : Int → Int) (v : Int) : Int := if M v = true then min (E (v + 1) + 1) (E (v - 1)) else E v
def Up (F : Int → Int) : Prop := ∀ v, F (v - 1) ≤ F v ∧ F v ≤ F (v - 1) + 1
def Down (E : Int → Int) : Prop := ∀ v, E v ≤ E (v - 1) ∧ E (v - 1) ≤ E v + 1
def ind (b : Int) (f : Int → Int) (v : Int) : Int := if -b ≤ f v then 1 else 0
/-- F counts the values of f from -b on -/
def Counts (b : Int) (f F : Int → Int) : Prop := ∀ v, F v - F (v - 1) = ind b f v
theorem Counts.up {b : Int} {f F : Int → Int} (C : Counts b f F) : Up F := fun v => by
  have := C v
  unfold ind at this
  split at this <;> omega
theorem counts_step {M : Int → Bool} (S : Sparse M) {b : Int} {f F : Int → Int} (C : Counts b f F) : Counts b (stepP M f) (opN M F) := fun v => by
  have c0 : F v - F (v - 1) = if -b ≤ f v then 1 else 0 := C v
  have c1 : F (v + 1) - F (v + 1 - 1) = if -b ≤ f (v + 1) then 1 else 0 := C (v + 1)
  have c2 : F (v - 1) - F (v - 1 - 1) = if -b ≤ f (v - 1) then 1 else 0 := C (v - 1)
  rw [show v + 1 - 1 = v by omega] at c1
  rw [show v - 1 - 1 = v - 2 by omega] at c2
  show opN M F v - opN M F (v - 1) = if -b ≤ stepP M f v then 1 else 0
  by_cases m : M v = true
  · have e1 : opN M F v = min (F (v - 1) + 1) (F (v + 1)) := if_pos m
    have e2 : opN M F (v - 1) = F (v - 1) := if_neg (by rw [S.ahead m]; decide)
    rw [e1, e2, stepP_at m]
    split at c0 <;> split at c1 <;> split <;> omega
  · have e1 : opN M F v = F v := if_neg m
    rw [e1]
    by_cases m2 : M (v - 1) = true
    · have e2 : opN M F (v - 1) = min (F (v - 1 - 1) + 1) (F (v - 1 + 1)) := if_pos m2
      have e3 := stepP_next S (f := f) m2
      rw [show v - 1 + 1 = v by omega] at e3
      rw [e2, show v - 1 - 1 = v - 2 by omega, show v - 1 + 1 = v by omega, e3]
      split at c0 <;> split at c2 <;> split <;> omega
    · have e2 : opN M F (v - 1) = F (v - 1) := if_neg m2
      have e3 : stepP M f v = f v := by
        unfold stepP
        rw [if_neg m, if_neg m2]
      rw [e2, e3]
      exact c0
def napp : List (Int → Bool) → (Int → Int) → Int → Int
  | [], F => F
  | M :: Ms, F => opN M (napp Ms F)
theorem counts_pmap {b : Int} {f F : Int → Int} (C : Counts b f F) : ∀ Ms : List (Int → Bool), (∀ M ∈ Ms, Sparse M) → Counts b (pmap Ms f) (napp Ms F)
  | [], _ => C
  | M :: Ms, h => counts_step (h M (List.mem_cons_self ..)) (counts_pmap C Ms fun N hN => h N (List.mem_cons_of_mem _ hN))
/-- the beginning: all from V + 1 on -/
def base (V v : Int) : Int := max 0 (v - V)
theorem counts_base {b e : Int} : Counts b (fun i => i + e) (base (-b - e - 1)) := fun v => by
  show max 0 (v - (-b - e - 1)) - max 0 (v - 1 - (-b - e - 1)) = if -b ≤ v + e then 1 else 0
  split <;> omega
theorem napp_low {V : Int} : ∀ (Ms : List (Int → Bool)) (v : Int), 0 ≤ napp Ms (base V) v ∧ (v ≤ V - Ms.length → napp Ms (base V) v = 0)
  | [], v => by
    show 0 ≤ base V v ∧ (v ≤ V - 0 → base V v = 0)
    unfold base
    omega
  | M :: Ms, v => by
    have h0 := napp_low (V := V) Ms v
    have h1 := napp_low (V := V) Ms (v + 1)
    have h2 := napp_low (V := V) Ms (v - 1)
    rw [List.length_cons]
    show 0 ≤ opN M _ v ∧ (v ≤ V - ((Ms.length + 1 : Nat) : Int) → opN M _ v = 0)
    unfold opN
    split
    · constructor
      · omega
      · intro h
        have := h1.2 (by omega)
        omega
    · exact ⟨h0.1, fun h => h0.2 (by omega)⟩
theorem opE_down {M : Int → Bool} (S : Sparse M) {E : Int → Int} (D : Down E) : Down (opE M E) := fun v => by
  have d0 := D v
  have d1 := D (v + 1)
  have d2 := D (v - 1)
  rw [show v + 1 - 1 = v by omega] at d1
  rw [show v - 1 - 1 = v - 2 by omega] at d2
  unfold opE
  rw [show v - 1 - 1 = v - 2 by omega, show v - 1 + 1 = v by omega]
  by_cases m : M v = true
  · rw [if_pos m, if_neg (by rw [S.ahead m]; decide)]
    omega
  · rw [if_neg m]
    split <;> omega
/-- one ring may be counted at either side -/
theorem pair {M : Int → Bool} (S : Sparse M) {E F : Int → Int} (D : Down E) (U : Up F) (B : Int) : (∀ v, B ≤ opE M E v + F v) ↔ ∀ v, B ≤ E v + opN M F v := by
  constructor
  · intro h v
    by_cases m : M v = true
    · have h1 := h (v - 1)
      have h2 := h (v + 1)
      have mp : ¬ M (v - 1) = true := by rw [S.ahead m]; decide
      have mn : ¬ M (v + 1) = true := by rw [S v m]; decide
      unfold opE at h1 h2
      rw [if_neg mp] at h1
      rw [if_neg mn] at h2
      unfold opN
      rw [if_pos m]
      have d0 := D v
      have d1 := D (v + 1)
      rw [show v + 1 - 1 = v by omega] at d1
      omega
    · have h1 := h v
      unfold opE at h1
      rw [if_neg m] at h1
      unfold opN
      rw [if_neg m]
      exact h1
  · intro h v
    by_cases m : M v = true
    · have h1 := h (v - 1)
      have h2 := h (v + 1)
      have mp : ¬ M (v - 1) = true := by rw [S.ahead m]; decide
      have mn : ¬ M (v + 1) = true := by rw [S v m]; decide
      unfold opN at h1 h2
      rw [if_neg mp] at h1
      rw [if_neg mn] at h2
      unfold opE
      rw [if_pos m]
      have d0 := U v
      have d1 := U (v + 1)
      rw [show v + 1 - 1 = v by omega] at d1
      omega
    · have h1 := h v
      unfold opN at h1
      rw [if_neg m] at h1
      unfold opE
      rw [if_neg m]
      exact h1
theorem opN_up {M : Int → Bool} (S : Sparse M) {F : Int → Int} (U : Up F) : Up (opN M F) := fun v => by
  have d0 := U v
  have d1 := U (v + 1)
  have d2 := U (v - 1)
  rw [show v + 1 - 1 = v by omega] at d1
  rw [show v - 1 - 1 = v - 2 by omega] at d2
  unfold opN
  rw [show v - 1 - 1 = v - 2 by omega, show v - 1 + 1 = v by omega]
  by_cases m : M v = true
  · rw [if_pos m, if_neg (by rw [S.ahead m]; decide)]
    omega
  · rw [if_neg m]
    split <;> omega
theorem napp_up {F : Int → Int} (U : Up F) : ∀ Ms : List (Int → Bool), (∀ M ∈ Ms, Sparse M) → Up (napp Ms F)
  | [], _ => U
  | M :: Ms, h => opN_up (h M (List.mem_cons_self ..)) (napp_up U Ms fun N hN => h N (List.mem_cons_of_mem _ hN))
def eapp : List (Int → Bool) → (Int → Int) → Int → Int
  | [], E => E
  | M :: Ms, E => eapp Ms (opE M E)
theorem pairs {F : Int → Int} (U : Up F) (B : Int) : ∀ (Ms : List (Int → Bool)) (E : Int → Int), (∀ M ∈ Ms, Sparse M) → Down E → ((∀ v, B ≤ E v + napp Ms F v) ↔ ∀ v, B ≤ eapp Ms E v + F v)
  | [], _, _, _ => Iff.rfl
  | M :: Ms, E, h, D => by
    have S := h M (List.mem_cons_self ..)
    have h' : ∀ N ∈ Ms, Sparse N := fun N hN => h N (List.mem_cons_of_mem _ hN)
    exact (pair S D (napp_up U Ms h') B).symm.trans (pairs U B Ms (opE M E) h' (opE_down S D))
theorem up_far {F : Int → Int} (U : Up F) : ∀ (n : Nat) (v : Int), F (v - n) ≤ F v ∧ F v ≤ F (v - n) + n
  | 0, v => by
    rw [show v - ((0 : Nat) : Int) = v by omega]
    omega
  | n + 1, v => by
    have h := up_far U n v
    have q := U (v - n)
    rw [show v - ((n + 1 : Nat) : Int) = v - n - 1 by omega]
    omega
theorem down_far {E : Int → Int} (D : Down E) : ∀ (n : Nat) (v : Int), E v ≤ E (v - n) ∧ E (v - n) ≤ E v + n
  | 0, v => by
    rw [show v - ((0 : Nat) : Int) = v by omega]
    omega
  | n + 1, v => by
    have h := down_far D n v
    have q := D (v - n)
    rw [show v - ((n + 1 : Nat) : Int) = v - n - 1 by omega]
    omega
theorem end_left {F : Int → Int} (U : Up F) (a B : Int) : (∀ v, B ≤ max 0 (a - v) + F v) ↔ B ≤ F a := by
  constructor
  · intro h
    have := h a
    omega
  · intro h v
    by_cases c : v ≤ a
    · have := up_far U (a - v).toNat a
      rw [show a - ((a - v).toNat : Int) = v by omega] at this
      omega
    · have := up_far U (v - a).toNat v
      rw [show v - ((v - a).toNat : Int) = a by omega] at this
      omega
theorem end_right {E : Int → Int} (D : Down E) (V B : Int) : (∀ v, B ≤ E v + base V v) ↔ B ≤ E V := by
  unfold base
  constructor
  · intro h
    have := h V
    omega
  · intro h v
    by_cases c : v ≤ V
    · have := down_far D (V - v).toNat V
      rw [show V - ((V - v).toNat : Int) = v by omega] at this
      omega
    · have := down_far D (v - V).toNat v
      rw [show v - ((v - V).toNat : Int) = V by omega] at this
      omega
theorem eapp_down : ∀ (Ms : List (Int → Bool)) (E : Int → Int), (∀ M ∈ Ms, Sparse M) → Down E → Down (eapp Ms E)
  | [], _, _, D => D
  | M :: Ms, E, h, D => eapp_down Ms (opE M E) (fun N hN => h N (List.mem_cons_of_mem _ hN)) (opE_down (h M (List.mem_cons_self ..)) D)
theorem up_base (V : Int) : Up (base V) := fun v => by
  unfold base
  omega
def start (a v : Int) : Int := max 0 (a - v)
theorem down_start (a : Int) : Down (start a) := fun v => by
  unfold start
  omega
/-- by the map, and from the other end -/
theorem both_ends (Ms : List (Int → Bool)) (h : ∀ M ∈ Ms, Sparse M) (a V : Int) : napp Ms (base V) a = eapp Ms (start a) V := by
  have U := napp_up (up_base V) Ms h
  have D := eapp_down Ms (start a) h (down_start a)
  have k : ∀ B, B ≤ napp Ms (base V) a ↔ B ≤ eapp Ms (start a) V := fun B =>
    (end_left U a B).symm.trans ((pairs (up_base V) B Ms (start a) h (down_start a)).trans (end_right D V B))
  have h1 := (k (napp Ms (base V) a)).mp (Int.le_refl _)
  have h2 := (k (eapp Ms (start a) V)).mpr (Int.le_refl _)
  omega
theorem eapp_snoc (M : Int → Bool) : ∀ (Ms : List (Int → Bool)) (E : Int → Int), eapp (Ms ++ [M]) E = opE M (eapp Ms E)
  | [], _ => rfl
  | N :: Ms, E => eapp_snoc M Ms (opE N E)
/-! ### windows -/
/-- a row of values from low on -/
def win (f : Int → Int) (low : Int) (n : Nat) : List Int := (List.range n).map fun (k : Nat) => f (low + k)
theorem win_len (f : Int → Int) (low : Int) (n : Nat) : (win f low n).length = n := by simp [win]
theorem win_get {f : Int → Int} {low : Int} {n k : Nat} (h : k < n) : (win f low n)[k]? = some (f (low + k)) := by
  unfold win
  rw [List.getElem?_map, List.getElem?_range h]
  rfl
/-- the row is that of f, but for e places at both ends -/
def Near (vs : List Int) (f : Int → Int) (low : Int) (n e : Nat) : Prop := vs.length = n ∧ ∀ k : Nat, e ≤ k → k + e < n → vs[k]? = some (f (low + k))
/-- exchanged at the places of M ahead of B -/
def part (M : Int → Bool) (low : Int) (vs : List Int) (B : Nat) : List Int := (List.range vs.length).map fun (k : Nat) =>
  if M (low + k) = true ∧ k + 1 < vs.length ∧ k < B then max (vs.getD k 0) (vs.getD (k + 1) 0)
  else if 1 ≤ k ∧ M (low + k - 1) = true ∧ k - 1 < B then min (vs.getD (k - 1) 0) (vs.getD k 0) else vs.getD k 0
theorem part_len (M : Int → Bool) (low : Int) (vs : List Int) (B : Nat) : (part M low vs B).length = vs.length := by simp [part]
theorem part_get {M : Int → Bool} {low : Int} {vs : List Int} {B k : Nat} (h : k < vs.length) : (part M low vs B).getD k 0 =
    if M (low + k) = true ∧ k + 1 < vs.length ∧ k < B then max (vs.getD k 0) (vs.getD (k + 1) 0)
    else if 1 ≤ k ∧ M (low + k - 1) = true ∧ k - 1 < B then min (vs.getD (k - 1) 0) (vs.getD k 0) else vs.getD k 0 := by
  unfold part
  rw [List.getD_eq_getElem?_getD, List.getElem?_map, List.getElem?_range h]
  rfl
theorem list_ext {a b : List Int} (h : a.length = b.length) (e : ∀ k, k < a.length → a.getD k 0 = b.getD k 0) : a = b := by
  refine List.ext_getElem h fun k h1 h2 => ?_
  have := e k h1
  rw [List.getD_eq_getElem?_getD, List.getD_eq_getElem?_getD, List.getElem?_eq_getElem h1, List.getElem?_eq_getElem h2] at this
  exact this
theorem part_zero {M : Int → Bool} {low : Int} {vs : List Int} : part M low vs 0 = vs := list_ext (part_len ..) fun k hk => by
  rw [part_len] at hk
  rw [part_get hk, if_neg (by omega), if_neg (by omega)]
/-- no place of M from B to B2 -/
theorem part_skip {M : Int → Bool} {low : Int} {vs : List Int} {B B2 : Nat} (hB : B ≤ B2) (no : ∀ k : Nat, B ≤ k → k < B2 → k + 1 < vs.length → M (low + k) = false) : part M low vs B2 = part M low vs B := list_ext (by rw [part_len, part_len]) fun k hk => by
  rw [part_len] at hk
  rw [part_get hk, part_get hk]
  have e1 : (M (low + k) = true ∧ k + 1 < vs.length ∧ k < B2) ↔ (M (low + k) = true ∧ k + 1 < vs.length ∧ k < B) := by
    constructor
    · intro c
      refine ⟨c.1, c.2.1, Nat.lt_of_not_le fun q => ?_⟩
      have := no k q c.2.2 c.2.1
      rw [c.1] at this
      cases this
    · intro c
      exact ⟨c.1, c.2.1, by omega⟩
  have e2 : (1 ≤ k ∧ M (low + k - 1) = true ∧ k - 1 < B2) ↔ (1 ≤ k ∧ M (low + k - 1) = true ∧ k - 1 < B) := by
    constructor
    · intro c
      refine ⟨c.1, c.2.1, Nat.lt_of_not_le fun q => ?_⟩
      have h1 := c.1
      have := no (k - 1) q c.2.2 (by omega)
      rw [show low + ((k - 1 : Nat) : Int) = low + k - 1 by omega, c.2.1] at this
      cases this
    · intro c
      exact ⟨c.1, c.2.1, by omega⟩
  simp only [e1, e2]
theorem getD_set {l : List Int} {i k : Nat} {v : Int} (hi : i < l.length) : (l.set i v).getD k 0 = if k = i then v else l.getD k 0 := by
  rw [List.getD_eq_getElem?_getD, List.getElem?_set]
  by_cases c : i = k
  · subst c
    rw [if_pos rfl, if_pos rfl, if_pos hi]
    rfl
  · rw [if_neg c, if_neg (Ne.symm c), List.getD_eq_getElem?_getD]
/-- one exchange, at a place of M -/
theorem part_next {M : Int → Bool} (S : Sparse M) {low : Int} {vs : List Int} {B : Nat} (hB : B + 1 < vs.length) (m : M (low + B) = true) :
    (part M low vs B).getD B 0 = vs.getD B 0 ∧ (part M low vs B).getD (B + 1) 0 = vs.getD (B + 1) 0 ∧
    part M low vs (B + 1) = ((part M low vs B).set B (max (vs.getD B 0) (vs.getD (B + 1) 0))).set (B + 1) (min (vs.getD B 0) (vs.getD (B + 1) 0)) := by
  have mp : ¬ M (low + B - 1) = true := by rw [S.ahead m]; decide
  have mn : ¬ M (low + B + 1) = true := by rw [S _ m]; decide
  refine ⟨?_, ?_, list_ext (by rw [part_len, List.length_set, List.length_set, part_len]) fun k hk => ?_⟩
  · rw [part_get (by omega), if_neg (by omega), if_neg (fun q => mp q.2.1)]
  · rw [part_get hB, if_neg (by omega), if_neg (by omega)]
  · rw [part_len] at hk
    rw [getD_set (by rw [List.length_set, part_len]; exact hB), getD_set (by rw [part_len]; omega), part_get hk]
    by_cases k1 : k = B + 1
    · subst k1
      rw [if_pos rfl, if_neg (fun q => by omega), if_pos ⟨by omega, by rw [show low + ((B + 1 : Nat) : Int) - 1 = low + B by omega]; exact m, by omega⟩]
      rfl
    · rw [if_neg k1]
      by_cases k2 : k = B
      · subst k2
        rw [if_pos rfl, if_pos ⟨m, hB, by omega⟩]
      · rw [if_neg k2, part_get hk]
        have e1 : (M (low + k) = true ∧ k + 1 < vs.length ∧ k < B + 1) ↔ (M (low + k) = true ∧ k + 1 < vs.length ∧ k < B) := by
          constructor
          · intro c
            exact ⟨c.1, c.2.1, by omega⟩
          · intro c
            exact ⟨c.1, c.2.1, by omega⟩
        have e2 : (1 ≤ k ∧ M (low + k - 1) = true ∧ k - 1 < B + 1) ↔ (1 ≤ k ∧ M (low + k - 1) = true ∧ k - 1 < B) := by
          constructor
          · intro c
            exact ⟨c.1, c.2.1, by omega⟩
          · intro c
            exact ⟨c.1, c.2.1, by omega⟩
        simp only [e1, e2]
/-- a whole ring -/
theorem near_step {M : Int → Bool} {vs : List Int} {f : Int → Int} {low : Int} {n e : Nat} (h : Near vs f low n e) {B : Nat} (hB : n ≤ B + 1) : Near (part M low vs B) (stepP M f) low n (e + 1) := by
  obtain ⟨h1, h2⟩ := h
  refine ⟨by rw [part_len, h1], fun k k1 k2 => ?_⟩
  have gd : ∀ j : Nat, e ≤ j → j + e < n → vs.getD j 0 = f (low + j) := fun j a b => by
    rw [List.getD_eq_getElem?_getD, h2 j a b]
    rfl
  have hk : k < (part M low vs B).length := by rw [part_len]; omega
  have e1 : (part M low vs B)[k]? = some ((part M low vs B).getD k 0) := by
    rw [List.getD_eq_getElem?_getD, List.getElem?_eq_getElem hk]
    rfl
  rw [e1, part_get (by omega)]
  congr 1
  rw [gd k (by omega) (by omega), gd (k + 1) (by omega) (by omega), gd (k - 1) (by omega) (by omega)]
  unfold stepP
  rw [show low + ((k + 1 : Nat) : Int) = low + k + 1 by omega, show low + ((k - 1 : Nat) : Int) = low + k - 1 by omega]
  by_cases m : M (low + k) = true
  · rw [if_pos ⟨m, by omega, by omega⟩, if_pos m]
  · rw [if_neg (fun q => m q.1), if_neg m]
    by_cases m2 : M (low + k - 1) = true
    · rw [if_pos ⟨by omega, m2, by omega⟩, if_pos m2]
    · rw [if_neg (fun q => m2 q.2.1), if_neg m2]
theorem near_more {vs : List Int} {f : Int → Int} {low : Int} {n e e2 : Nat} (h : Near vs f low n e) (he : e ≤ e2) : Near vs f low n e2 := ⟨h.1, fun k a b => h.2 k (by omega) (by omega)⟩
theorem near_win (f : Int → Int) (low : Int) (n : Nat) : Near (win f low n) f low n 0 := ⟨win_len .., fun k _ h => win_get (by omega)⟩
/-- the inner part -/
theorem near_cut {vs : List Int} {f : Int → Int} {low : Int} {n e : Nat} (h : Near vs f low n e) (hn : 2 * e ≤ n) : (vs.drop e).take (n - 2 * e) = win f (low + e) (n - 2 * e) := by
  refine List.ext_getElem? fun k => ?_
  by_cases c : k < n - 2 * e
  · rw [List.getElem?_take_of_lt c, List.getElem?_drop, h.2 (e + k) (by omega) (by omega), win_get c]
    congr 2
    omega
  · rw [List.getElem?_eq_none (by rw [List.length_take]; omega), List.getElem?_eq_none (by rw [win_len]; omega)]
/-- how many of a row are from -b on -/
theorem count_win {b : Int} {f F : Int → Int} (C : Counts b f F) (low : Int) : ∀ n : Nat, (((win f low n).filter fun x => decide (x ≥ -b)).length : Int) = F (low + n - 1) - F (low - 1)
  | 0 => by
    rw [show low + ((0 : Nat) : Int) - 1 = low - 1 by omega]
    show ((0 : Nat) : Int) = _
    omega
  | n + 1 => by
    have ih := count_win C low n
    have c := C (low + n)
    have e : win f low (n + 1) = win f low n ++ [f (low + n)] := by
      unfold win
      rw [List.range_succ, List.map_append]
      rfl
    rw [e, List.filter_append, List.length_append, show low + ((n + 1 : Nat) : Int) - 1 = low + n by omega]
    unfold ind at c
    by_cases q : -b ≤ f (low + n)
    · rw [if_pos q] at c
      rw [List.filter_cons_of_pos (by simpa using q), List.filter_nil, List.length_singleton]
      omega
    · rw [if_neg q] at c
      rw [List.filter_cons_of_neg (by simpa using q), List.filter_nil, List.length_nil]
      omega
/-- two ascending rows with the same members -/
theorem asc_ext : ∀ {a b : List Int}, a.Pairwise (· < ·) → b.Pairwise (· < ·) → (∀ x, x ∈ a ↔ x ∈ b) → a = b
  | [], [], _, _, _ => rfl
  | [], y :: _, _, _, h => absurd ((h y).mpr (List.mem_cons_self ..)) (by simp)
  | x :: _, [], _, _, h => absurd ((h x).mp (List.mem_cons_self ..)) (by simp)
  | x :: a, y :: b, ha, hb, h => by
    obtain ⟨ha1, ha2⟩ := List.pairwise_cons.mp ha
    obtain ⟨hb1, hb2⟩ := List.pairwise_cons.mp hb
    have e : x = y := by
      have h1 := (h x).mp (List.mem_cons_self ..)
      have h2 := (h y).mpr (List.mem_cons_self ..)
      rcases List.mem_cons.mp h1 with e | h1
      · exact e
      · rcases List.mem_cons.mp h2 with e | h2
        · exact e.symm
        · have := hb1 x h1
          have := ha1 y h2
          omega
    subst e
    refine congrArg (x :: ·) (asc_ext ha2 hb2 fun z => ⟨fun q => ?_, fun q => ?_⟩)
    · rcases List.mem_cons.mp ((h z).mp (List.mem_cons_of_mem _ q)) with e | q2
      · subst e
        have := ha1 z q
        omega
      · exact q2
    · rcases List.mem_cons.mp ((h z).mpr (List.mem_cons_of_mem _ q)) with e | q2
      · subst e
        have := hb1 z q
        omega
      · exact q2
theorem asc_of_sorted {a : List Int} (h : a.Pairwise (· ≤ ·)) (n : a.Nodup) : a.Pairwise (· < ·) := by
  refine List.Pairwise.imp₂ (fun x y (h1 : x ≤ y) (h2 : x ≠ y) => by omega) h n
end MP

namespace K1
open PySem PySem.Spec PyProof.Rows L2 Evl HM LX MP
/-! ### the map of a class and its richness at both ends -/
/-- the exchanges of a ring -/
def mL (rs : List (Int × Int)) (ps : List Int) (j : Nat) (i : Int) : Bool := decide ((i * K1N.sAt rs j + ps.getD j 0) % (K1N.nAt rs j : Int) = 0)
def RsOk (rs : List (Int × Int)) (m : Nat) : Prop := ∀ j, j < m → 1 ≤ K1N.sAt rs j ∧ K1N.sAt rs j < (K1N.nAt rs j : Int)
theorem mL_sparse {rs : List (Int × Int)} {ps : List Int} {j : Nat} (o1 : 1 ≤ K1N.sAt rs j) (o2 : K1N.sAt rs j < (K1N.nAt rs j : Int)) : Sparse (mL rs ps j) := fun i h => by
  unfold mL at h ⊢
  generalize (K1N.nAt rs j : Int) = n at *
  generalize K1N.sAt rs j = s at *
  generalize ps.getD j 0 = p at *
  have h1 := of_decide_eq_true h
  refine decide_eq_false fun h2 => ?_
  have d := Int.emod_eq_emod_iff_emod_sub_eq_zero (m := (i + 1) * s + p) (n := n) (k := i * s + p)
  have h3 := d.mp (by rw [h1, h2])
  rw [show (i + 1) * s + p - (i * s + p) = s by rw [Int.add_mul]; omega, Int.emod_eq_of_lt (by omega) o2] at h3
  omega
def mls (rs : List (Int × Int)) (ps : List Int) : Nat → Nat → List (Int → Bool)
  | 0, _ => []
  | k + 1, i => mL rs ps i :: mls rs ps k (i + 1)
theorem mls_len (rs : List (Int × Int)) (ps : List Int) : ∀ k i, (mls rs ps k i).length = k
  | 0, _ => rfl
  | k + 1, i => by
    show (mls rs ps k (i + 1)).length + 1 = k + 1
    rw [mls_len rs ps k]
theorem mls_sparse {rs : List (Int × Int)} {ps : List Int} {m : Nat} (ok : RsOk rs m) : ∀ k i, i + k ≤ m → ∀ M ∈ mls rs ps k i, Sparse M
  | 0, _, _, M, h => absurd h (by simp [mls])
  | k + 1, i, hi, M, h => by
    rcases List.mem_cons.mp h with e | h2
    · subst e
      exact mL_sparse (ok i (by omega)).1 (ok i (by omega)).2
    · exact mls_sparse ok k (i + 1) (by omega) M h2
/-- columns from the other end -/
noncomputable def ecol (rs : List (Int × Int)) (ps : List Int) (a : Int) (j : Nat) (v : Int) : Int := (F (hseq rs (mvp rs a ps) j) (a - 1 - v) : Int)
theorem ecol_zero (rs : List (Int × Int)) (ps : List Int) (a : Int) : ecol rs ps a 0 = start a := by
  funext v
  show ((F [] (a - 1 - v) : Nat) : Int) = max 0 (a - v)
  rw [F_nil]
  omega
theorem neg_rule (v s p n : Int) : ((-v) * s - p) % n = 0 ↔ (v * s + p) % n = 0 := by
  rw [show (-v) * s - p = -(v * s + p) by rw [Int.neg_mul]; omega]
  rw [← Int.dvd_iff_emod_eq_zero, ← Int.dvd_iff_emod_eq_zero]
  exact Int.dvd_neg
theorem ecol_step (rs : List (Int × Int)) {ps : List Int} (a : Int) {j : Nat} (hj : j < ps.length) : opE (mL rs ps j) (ecol rs ps a j) = ecol rs ps a (j + 1) := by
  funext v
  have H := (hseq_ok rs (mvp rs a ps) j).1
  have g := F_grow H (L := fun d => (d * K1N.sAt rs j - (mvp rs a ps).getD j 0) % (K1N.nAt rs j : Int) = 0) (g := gl (hseq rs (mvp rs a ps) j) (K1N.nAt rs j : Int) (K1N.sAt rs j) ((mvp rs a ps).getD j 0)) (fun c => rfl) (a - 1 - v)
  have e : ecol rs ps a (j + 1) v = ((F (grow (hseq rs (mvp rs a ps) j) (gl (hseq rs (mvp rs a ps) j) (K1N.nAt rs j : Int) (K1N.sAt rs j) ((mvp rs a ps).getD j 0))) (a - 1 - v) : Nat) : Int) := rfl
  rw [e, g]
  have m1 := F_mono H (a - 1 - v)
  have m2 := F_mono H (a - 1 - v - 1)
  rw [show a - 1 - v - 1 + 1 = a - 1 - v by omega] at m2
  have hL : ((a - 1 - v + 1) * K1N.sAt rs j - (mvp rs a ps).getD j 0) % (K1N.nAt rs j : Int) = 0 ↔ mL rs ps j v = true := by
    rw [mvp_get rs a hj, rule_mv, show a - 1 - v + 1 - a = -v by omega, neg_rule]
    unfold mL
    rw [decide_eq_true_iff]
  unfold opE ecol
  rw [show a - 1 - (v + 1) = a - 1 - v - 1 by omega, show a - 1 - (v - 1) = a - 1 - v + 1 by omega]
  generalize F (hseq rs (mvp rs a ps) j) (a - 1 - v) = x1 at *
  generalize F (hseq rs (mvp rs a ps) j) (a - 1 - v - 1) = x0 at *
  generalize F (hseq rs (mvp rs a ps) j) (a - 1 - v + 1) = x2 at *
  by_cases m : mL rs ps j v = true
  · rw [if_pos m]
    by_cases c : x2 = x1 + 1 ∧ x0 = x1
    · rw [if_pos ⟨hL.mpr m, c.1, c.2⟩]
      omega
    · rw [if_neg (fun q => c ⟨q.2.1, q.2.2⟩)]
      omega
  · rw [if_neg m, if_neg (fun q => m (hL.mp q.1))]
    rfl
theorem ecol_all (rs : List (Int × Int)) {ps : List Int} (a : Int) : ∀ k i, i + k ≤ ps.length → eapp (mls rs ps k i) (ecol rs ps a i) = ecol rs ps a (i + k)
  | 0, _, _ => rfl
  | k + 1, i, h => by
    show eapp (mls rs ps k (i + 1)) (opE (mL rs ps i) (ecol rs ps a i)) = _
    rw [ecol_step rs a (by omega), ecol_all rs a k (i + 1) (by omega), show i + 1 + k = i + (k + 1) by omega]
/-- richness and 1 with chips at both ends -/
noncomputable def hh (rs : List (Int × Int)) (ps : List Int) (tot a b : Int) : Int := (rich1 rs (mvp rs a ps) (tot + a + b) : Int)
/-- the map -/
def fm (rs : List (Int × Int)) (ps : List Int) (tot : Int) : Int → Int := pmap (mls rs ps ps.length 0) fun i => i + (tot - ps.length)
theorem hh_napp {rs : List (Int × Int)} {ps : List Int} (ok : RsOk rs ps.length) (tot a b : Int) : napp (mls rs ps ps.length 0) (base (-b - (tot - ps.length) - 1)) a = hh rs ps tot a b := by
  rw [both_ends _ (mls_sparse ok _ _ (by omega)), ← ecol_zero rs ps a, ecol_all rs a ps.length 0 (by omega)]
  unfold ecol hh rich1
  rw [mvp_len, Nat.zero_add, show a - 1 - (-b - (tot - (ps.length : Int)) - 1) = tot + a + b - (ps.length : Int) by omega]
theorem hh_counts {rs : List (Int × Int)} {ps : List Int} (ok : RsOk rs ps.length) (tot b : Int) : Counts b (fm rs ps tot) fun a => hh rs ps tot a b := by
  have c := counts_pmap (counts_base (b := b) (e := tot - ps.length)) (mls rs ps ps.length 0) (mls_sparse ok _ _ (by omega))
  have e : (fun a => hh rs ps tot a b) = napp (mls rs ps ps.length 0) (base (-b - (tot - ps.length) - 1)) := funext fun a => (hh_napp ok tot a b).symm
  rw [e]
  exact c
theorem fm_bij {rs : List (Int × Int)} {ps : List Int} (ok : RsOk rs ps.length) (tot : Int) : Bij (fm rs ps tot) := bij_pmap _ (mls_sparse ok _ _ (by omega))
theorem fm_bound (rs : List (Int × Int)) (ps : List Int) (tot i : Int) : i + tot - 2 * (ps.length : Int) ≤ fm rs ps tot i ∧ fm rs ps tot i ≤ i + tot := by
  have := pmap_bound (e := tot - ps.length) (mls rs ps ps.length 0) i
  rw [mls_len] at this
  unfold fm
  omega
theorem hh_nonneg (rs : List (Int × Int)) (ps : List Int) (tot a b : Int) : 0 ≤ hh rs ps tot a b := Int.natCast_nonneg _
theorem hh_low {rs : List (Int × Int)} {ps : List Int} {tot a b : Int} (h : a < -tot - b) : hh rs ps tot a b = 0 := by
  unfold hh
  rw [rich_neg _ _ (by omega)]
  rfl
theorem hh_step {rs : List (Int × Int)} {ps : List Int} (ok : RsOk rs ps.length) (tot a b : Int) : hh rs ps tot a b - hh rs ps tot (a - 1) b = if -b ≤ fm rs ps tot a then 1 else 0 := hh_counts ok tot b a
theorem hh_right {rs : List (Int × Int)} {ps : List Int} (ok : RsOk rs ps.length) {tot a b i : Int} (hi : fm rs ps tot i = -b) : hh rs ps tot a b - hh rs ps tot a (b - 1) = if i ≤ a then 1 else 0 := by
  have hb := (fm_bound rs ps tot i).2
  have key : ∀ n : Nat, hh rs ps tot (-tot - b - 1 + n) b - hh rs ps tot (-tot - b - 1 + n) (b - 1) = if i ≤ -tot - b - 1 + n then 1 else 0 := by
    intro n
    induction n with
    | zero =>
      rw [hh_low (by omega), hh_low (by omega), if_neg (by omega)]
      rfl
    | succ n ih =>
      have s1 := hh_step ok tot (-tot - b - 1 + ((n + 1 : Nat) : Int)) b
      have s2 := hh_step ok tot (-tot - b - 1 + ((n + 1 : Nat) : Int)) (b - 1)
      rw [show -tot - b - 1 + ((n + 1 : Nat) : Int) - 1 = -tot - b - 1 + n by omega] at s1 s2
      have u : fm rs ps tot (-tot - b - 1 + ((n + 1 : Nat) : Int)) = -b ↔ i = -tot - b - 1 + ((n + 1 : Nat) : Int) := ⟨fun z => (fm_bij ok tot).inj (by rw [hi, z]), fun z => by rw [← z, hi]⟩
      generalize fm rs ps tot (-tot - b - 1 + ((n + 1 : Nat) : Int)) = y at *
      split at ih <;> split at s1 <;> split at s2 <;> split <;> omega
  by_cases c : -tot - b - 1 ≤ a
  · have := key (a - (-tot - b - 1)).toNat
    rw [show -tot - b - 1 + ((a - (-tot - b - 1)).toNat : Int) = a by omega] at this
    exact this
  · rw [hh_low (by omega), hh_low (by omega), if_neg (by omega)]
    rfl
/-- counted from a place on at which nothing is counted -/
theorem hh_sum {rs : List (Int × Int)} {ps : List Int} (ok : RsOk rs ps.length) {tot b low : Int} (hl : low - 1 < -tot - b) (n : Nat) : (((win (fm rs ps tot) low n).filter fun x => decide (x ≥ -b)).length : Int) = hh rs ps tot (low + n - 1) b := by
  have := count_win (hh_counts ok tot b) low n
  rw [this]
  show hh rs ps tot (low + n - 1) b - hh rs ps tot (low - 1) b = _
  rw [hh_low hl]
  omega
/-- far on, each one more counts -/
theorem hh_far {rs : List (Int × Int)} {ps : List Int} (ok : RsOk rs ps.length) {tot b sure : Int} (hs : sure + tot - 2 * (ps.length : Int) ≥ -b) : ∀ n : Nat, hh rs ps tot (sure - 1 + n) b = hh rs ps tot (sure - 1) b + n
  | 0 => by
    rw [show sure - 1 + ((0 : Nat) : Int) = sure - 1 by omega]
    omega
  | n + 1 => by
    have ih := hh_far ok hs n
    have s := hh_step ok tot (sure - 1 + ((n + 1 : Nat) : Int)) b
    rw [show sure - 1 + ((n + 1 : Nat) : Int) - 1 = sure - 1 + n by omega] at s
    have := (fm_bound rs ps tot (sure - 1 + ((n + 1 : Nat) : Int))).1
    rw [if_pos (by omega)] at s
    omega
/-- the rings' letters -/
theorem mL_per {rs : List (Int × Int)} {ps : List Int} {j : Nat} (hn : 1 ≤ K1N.nAt rs j) (hs : 0 ≤ K1N.sAt rs j) {c : Int} (hc : mL rs ps j c = true) (i : Int) : mL rs ps j i = true ↔ (i - c) % (K1M.ord (K1N.nAt rs j) (K1N.sAt rs j).natAbs : Int) = 0 := by
  unfold mL at hc ⊢
  have h1 := of_decide_eq_true hc
  rw [decide_eq_true_iff]
  obtain ⟨s, hs'⟩ : ∃ s : Nat, K1N.sAt rs j = (s : Int) := ⟨(K1N.sAt rs j).toNat, by omega⟩
  rw [hs'] at h1 ⊢
  generalize K1N.nAt rs j = n at *
  generalize ps.getD j 0 = p at *
  rw [Int.natAbs_natCast]
  have d := Int.emod_eq_emod_iff_emod_sub_eq_zero (m := i * (s : Int) + p) (n := (n : Int)) (k := c * (s : Int) + p)
  rw [h1, show i * (s : Int) + p - (c * (s : Int) + p) = (i - c) * (s : Int) by rw [Int.sub_mul]; omega] at d
  rw [d]
  have q := K1M.istp (s := s) hn (i - c)
  rw [q]
  have hm := K1M.ord_pos (s := s) hn
  have z := K1M.stp_zero_iff (s := s) (i := ((i - c) % (K1M.ord n s : Int)).toNat) hn
  have r0 := Int.emod_nonneg (i - c) (show (K1M.ord n s : Int) ≠ 0 by omega)
  have r1 := Int.emod_lt_of_pos (i - c) (show (0 : Int) < (K1M.ord n s : Int) by omega)
  constructor
  · intro h
    have h2 : K1M.stp n s ((i - c) % (K1M.ord n s : Int)).toNat = 0 := by omega
    have h3 := Nat.eq_zero_of_dvd_of_lt (z.mp h2) (by omega)
    omega
  · intro h
    have h2 := z.mpr (by rw [h]; exact Nat.dvd_zero _)
    omega
/-- a mute ring -/
theorem mL_mute {rs : List (Int × Int)} {ps : List Int} {j : Nat} (hn : 1 ≤ K1N.nAt rs j) (hs : 0 ≤ K1N.sAt rs j) (h : ∀ c : Nat, c < K1M.ord (K1N.nAt rs j) (K1N.sAt rs j).natAbs → mL rs ps j c = false) (i : Int) : mL rs ps j i = false := by
  cases q : mL rs ps j i with
  | false => rfl
  | true =>
    have hm := K1M.ord_pos (s := (K1N.sAt rs j).natAbs) hn
    have r0 := Int.emod_nonneg i (show (K1M.ord (K1N.nAt rs j) (K1N.sAt rs j).natAbs : Int) ≠ 0 by omega)
    have r1 := Int.emod_lt_of_pos i (show (0 : Int) < (K1M.ord (K1N.nAt rs j) (K1N.sAt rs j).natAbs : Int) by omega)
    have p := (mL_per hn hs q (i % (K1M.ord (K1N.nAt rs j) (K1N.sAt rs j).natAbs : Int))).mpr (by
      have := Int.emod_add_mul_ediv i (K1M.ord (K1N.nAt rs j) (K1N.sAt rs j).natAbs : Int)
      rw [show i % (K1M.ord (K1N.nAt rs j) (K1N.sAt rs j).natAbs : Int) - i = (K1M.ord (K1N.nAt rs j) (K1N.sAt rs j).natAbs : Int) * (-(i / (K1M.ord (K1N.nAt rs j) (K1N.sAt rs j).natAbs : Int))) by rw [Int.mul_neg]; omega]
      exact Int.mul_emod_right _ _)
    have e := h (i % (K1M.ord (K1N.nAt rs j) (K1N.sAt rs j).natAbs : Int)).toNat (by omega)
    rw [show (((i % (K1M.ord (K1N.nAt rs j) (K1N.sAt rs j).natAbs : Int)).toNat : Nat) : Int) = i % (K1M.ord (K1N.nAt rs j) (K1N.sAt rs j).natAbs : Int) by omega, p] at e
    cases e
end K1

set_option exponentiation.threshold 400
namespace K1
open PySem PySem.Spec PyProof.Rows L2 Evl HM LX ZW ZM
theorem iteT' {b : Bool} {A B : Prop} (h : b = true) (a : A) : if b = true then A else B := by
  rw [if_pos h]
  exact a
theorem iteF' {b : Bool} {A B : Prop} (h : b = false) (a : B) : if b = true then A else B := by
  rw [if_neg (by rw [h]; decide)]
  exact a
/-! ### letters and maps -/
section
variable {P : Program} {w : World} {K : PySem.W.Frag} {mg : Str → Option Value} {base : Heap}
def spLetterOf : Sp := fun vs H Q _ => ∃ x n s p, vs = [x, .int p] ∧ RingAt H 60 x n s ∧ 
  (∀ (t : Addr) (c : Nat) H', Ex H H' → H' t = some (.tup [.int (K1M.ord n.natAbs s.natAbs : Nat), .int (c : Int)]) → c < K1M.ord n.natAbs s.natAbs → ((c : Int) * s + p) % n = 0 → Q (.ref t) H') ∧
  ((∀ c : Nat, c < K1M.ord n.natAbs s.natAbs → ¬ ((c : Int) * s + p) % n = 0) → ∀ H', Ex H H' → Q .non H')
def spCheckClassAt : Sp := fun vs H Q _ => ∃ c x xs rs ps, ∃ tot : Int, vs = [.ref c, .int tot, .ref x] ∧ H c = some (.tup xs) ∧ RingsAt H 60 xs rs ∧ (1 ≤ xs.length ∧ xs.length ≤ 12) ∧ PlacesT H x ps ∧ ps.length = xs.length ∧ PlOk rs ps ∧ tot.natAbs < 10 ^ 60 ∧ ∀ H', Ex H H' → Q .non H'
end
end K1

/-! walks with steps over a row, cuts: mathematics -/
namespace MP
open PySem L2
theorem set_same {l : List Int} {i : Nat} {v : Int} (hi : i < l.length) (h : l.getD i 0 = v) : l.set i v = l := by
  refine list_ext (by rw [List.length_set]) fun k hk => ?_
  rw [getD_set hi]
  split
  · rename_i e
    rw [e, h]
  · rfl
/-- one exchange and on to the next -/
theorem part_turn {M : Int → Bool} (S : Sparse M) {low : Int} {vs : List Int} {B k : Nat} (hk : 1 ≤ k) (hB : B + 1 < vs.length) (m : M (low + B) = true) (no : ∀ j : Nat, B < j → j < B + k → M (low + j) = false) :
    (part M low vs B).getD B 0 = vs.getD B 0 ∧ (part M low vs B).getD (B + 1) 0 = vs.getD (B + 1) 0 ∧
    (vs.getD B 0 < vs.getD (B + 1) 0 → ((part M low vs B).set B (vs.getD (B + 1) 0)).set (B + 1) (vs.getD B 0) = part M low vs (B + k)) ∧
    (¬ vs.getD B 0 < vs.getD (B + 1) 0 → part M low vs B = part M low vs (B + k)) := by
  obtain ⟨h1, h2, h3⟩ := part_next S hB m
  have h4 : part M low vs (B + k) = part M low vs (B + 1) := part_skip (by omega) fun j a b c => no j (by omega) b
  refine ⟨h1, h2, fun c => ?_, fun c => ?_⟩
  · rw [h4, h3, show max (vs.getD B 0) (vs.getD (B + 1) 0) = vs.getD (B + 1) 0 by omega, show min (vs.getD B 0) (vs.getD (B + 1) 0) = vs.getD B 0 by omega]
  · rw [h4, h3, show max (vs.getD B 0) (vs.getD (B + 1) 0) = vs.getD B 0 by omega, show min (vs.getD B 0) (vs.getD (B + 1) 0) = vs.getD (B + 1) 0 by omega]
    rw [set_same (l := part M low vs B) (by rw [part_len]; omega) h1, set_same (l := part M low vs B) (by rw [part_len]; omega) h2]
theorem shiftm {low c k x : Int} : (low + x - c) % k = 0 ↔ (x - (c - low) % k) % k = 0 := by
  have := Int.mul_ediv_add_emod (c - low) k
  rw [show x - (c - low) % k = (low + x - c) + k * ((c - low) / k) by omega, Int.add_mul_emod_self_left]
/-- where the steps hit -/
theorem step_hit {M : Int → Bool} {low c k : Int} (hk : 1 ≤ k) (per : ∀ i, M i = true ↔ (i - c) % k = 0) (m : Nat) : M (low + ((c - low) % k + (m : Int) * k)) = true := by
  rw [per, shiftm, show (c - low) % k + (m : Int) * k - (c - low) % k = (m : Int) * k by omega]
  exact Int.mul_emod_left _ _
theorem step_miss {M : Int → Bool} {low c k : Int} (hk : 1 ≤ k) (per : ∀ i, M i = true ↔ (i - c) % k = 0) (m : Nat) {x : Int} (h1 : (c - low) % k + (m : Int) * k < x) (h2 : x < (c - low) % k + (m : Int) * k + k) : M (low + x) = false := by
  cases q : M (low + x) with
  | false => rfl
  | true =>
    rw [per, shiftm] at q
    rw [show x - (c - low) % k = (x - (c - low) % k - (m : Int) * k) + (m : Int) * k by omega, Int.add_mul_emod_self_right, Int.emod_eq_of_lt (by omega) (by omega)] at q
    omega
theorem step_first {M : Int → Bool} {low c k : Int} (hk : 1 ≤ k) (per : ∀ i, M i = true ↔ (i - c) % k = 0) {x : Int} (h1 : 0 ≤ x) (h2 : x < (c - low) % k) : M (low + x) = false := by
  cases q : M (low + x) with
  | false => rfl
  | true =>
    have r1 := Int.emod_lt_of_pos (c - low) (show 0 < k by omega)
    rw [per, shiftm] at q
    rw [show x - (c - low) % k = (x - (c - low) % k + k) + k * (-1) by omega, Int.add_mul_emod_self_left, Int.emod_eq_of_lt (by omega) (by omega)] at q
    omega
/-- how many steps -/
def stn (i j c : Int) : Nat := if i < j then ((j - i - 1) / c + 1).toNat else 0
theorem stn_lt {i j c : Int} (hc : 1 ≤ c) {m : Nat} (h : m < stn i j c) : i + (m : Int) * c < j := by
  unfold stn at h
  split at h
  · rename_i q
    have h1 : (m : Int) ≤ (j - i - 1) / c := by omega
    have h2 := Int.mul_le_mul_of_nonneg_right h1 (show 0 ≤ c by omega)
    have h3 := Int.ediv_mul_le (j - i - 1) (show c ≠ 0 by omega)
    omega
  · omega
theorem stn_end {i j c : Int} (hc : 1 ≤ c) : j ≤ i + (stn i j c : Int) * c := by
  unfold stn
  split
  · rename_i q
    have h0 := Int.ediv_nonneg (show 0 ≤ j - i - 1 by omega) (show 0 ≤ c by omega)
    have h3 := Int.lt_ediv_add_one_mul_self (j - i - 1) (show 0 < c by omega)
    rw [show ((((j - i - 1) / c + 1).toNat : Nat) : Int) = (j - i - 1) / c + 1 by omega]
    omega
  · rename_i q
    show j ≤ i + ((0 : Nat) : Int) * c
    omega
theorem rgc_pos {i j c : Int} (hi : 0 ≤ i) (hi' : i ≤ 1000000) (hj : -1000000 ≤ j) (hj' : j ≤ 1000000) (hc : 1 ≤ c) (hc' : c ≤ 1000) : RgC i j c (stn i j c) := by
  have hs : Builtin.Range.rangeSize i j c = (stn i j c : Int) := by
    unfold Builtin.Range.rangeSize stn
    rw [if_pos (show c > 0 by omega)]
    split
    · have h0 := Int.ediv_nonneg (show 0 ≤ j - i - 1 by omega) (show 0 ≤ c by omega)
      omega
    · rfl
  refine ⟨by omega, by omega, ?_, hs⟩
  have hb : (stn i j c : Int) ≤ 2000001 := by
    unfold stn
    split
    · have h0 := Int.ediv_le_self c (show 0 ≤ j - i - 1 by omega)
      omega
    · omega
  unfold Builtin.Range.small
  rw [hs]
  simp only [Builtin.Range.rangeFitsLong, Bool.and_eq_true, Bool.or_eq_true, decide_eq_true_eq, beq_iff_eq, show c > 0 by omega, if_true]
  omega
theorem cut_mid {xs : List V} {g : Nat} : cutV xs (some (g : Int)) (some ((xs.length : Int) - g)) = (xs.drop g).take (xs.length - 2 * g) := by
  unfold cutV
  rw [HT.sIx_nat]
  have e : HT.sIx xs.length xs.length (some ((xs.length : Int) - g)) - min g xs.length = xs.length - 2 * g := by
    show (if (xs.length : Int) - g < 0 then ((xs.length : Int) - g + (xs.length : Int)).toNat else min ((xs.length : Int) - g).toNat xs.length) - min g xs.length = _
    split <;> omega
  rw [e]
  by_cases c : 2 * g ≤ xs.length
  · rw [Nat.min_eq_left (by omega)]
  · rw [show xs.length - 2 * g = 0 by omega, List.take_zero, List.take_zero]
end MP

set_option exponentiation.threshold 400
namespace K1
open PySem PySem.Spec PyProof.Rows L2 Evl HM LX ZW ZM MP
theorem win_snoc (f : Int → Int) (low : Int) (n : Nat) : win f low (n + 1) = win f low n ++ [f (low + n)] := by
  unfold win
  rw [List.range_succ, List.map_append]
  rfl
theorem mls_cons {rs : List (Int × Int)} {ps : List Int} {g i : Nat} (h : i < g) : mls rs ps (i + 1) (g - 1 - i) = mL rs ps (g - 1 - i) :: mls rs ps i (g - i) := by
  show mL rs ps (g - 1 - i) :: mls rs ps i (g - 1 - i + 1) = _
  rw [show g - 1 - i + 1 = g - i by omega]
theorem ixN_at {n B : Nat} (h : B < n) : ixN n (B : Int) = some B := by
  unfold ixN
  rw [if_pos (by omega), if_pos (by omega), Int.toNat_natCast]
theorem int_at {vs : List Int} {j : Nat} (h : j < vs.length) : (vs.map V.int)[j]? = some (V.int (vs.getD j 0)) := int_get5 h
section
variable {P : Program} {w : World} {K : PySem.W.Frag} {mg : Str → Option Value} {base : Heap}
def spMapValues : Sp := fun vs H Q _ => ∃ c x xs rs ps, ∃ tot first last : Int, vs = [.ref c, .int tot, .ref x, .int first, .int last] ∧ H c = some (.tup xs) ∧ RingsAt H 60 xs rs ∧ (1 ≤ xs.length ∧ xs.length ≤ 12) ∧ PlacesT H x ps ∧ ps.length = xs.length ∧
  last - first ≤ 900 ∧ ∀ a H', Ex H H' → H a = none → H' a = some (.lst ((win (fm rs ps tot) first (last - first + 1).toNat).map V.int)) → Q (.ref a) H'
end
end K1

set_option exponentiation.threshold 400
namespace K1
open PySem PySem.Spec PyProof.Rows L2 Evl HM LX ZW ZM MP
theorem rs_ok {H : Hp} {xs : List V} {rs : List (Int × Int)} {ps : List Int} (hR : RingsAt H 60 xs rs) (hlen : ps.length = xs.length) : RsOk rs ps.length := fun j hj => by
  obtain ⟨y, hy⟩ : ∃ y, xs[j]? = some y := ⟨xs[j]'(by omega), List.getElem?_eq_getElem (by omega)⟩
  obtain ⟨_, _, _, b1, _, b2, b3⟩ := rings_nth4 hR hy
  exact ⟨by omega, by omega⟩
/-- what surely is a class of a chain -/
structure ClsAt (H : Hp) (c x : Addr) (xs : List V) (rs : List (Int × Int)) (ps : List Int) (tot : Int) : Prop where
  hc : H c = some (.tup xs)
  hR : RingsAt H 60 xs rs
  l1 : 1 ≤ xs.length
  l2 : xs.length ≤ 12
  hx : PlacesT H x ps
  len : ps.length = xs.length
  pl : PlOk rs ps
  ht : tot.natAbs < 10 ^ 58
theorem ClsAt.ex {H H' : Hp} {c x : Addr} {xs : List V} {rs : List (Int × Int)} {ps : List Int} {tot : Int} (h : ClsAt H c x xs rs ps tot) (e : Ex H H') : ClsAt H' c x xs rs ps tot :=
  ⟨e _ _ h.hc, rings_ex4 e h.hR, h.l1, h.l2, e _ _ h.hx, h.len, h.pl, h.ht⟩
theorem ClsAt.ok {H : Hp} {c x : Addr} {xs : List V} {rs : List (Int × Int)} {ps : List Int} {tot : Int} (h : ClsAt H c x xs rs ps tot) : RsOk rs ps.length := rs_ok h.hR h.len
theorem ints_flat (l : List Int) : (l.map V.int).all flatV = true := List.all_eq_true.mpr fun z hz => by
  obtain ⟨i, _, rfl⟩ := List.mem_map.mp hz
  rfl
theorem win_inv {f : Int → Int} {low : Int} {n m : Nat} {z : V} (h : ((win f low n).map V.int)[m]? = some z) : m < n ∧ z = .int (f (low + m)) := by
  have hm : m < n := by
    have := (List.getElem?_eq_some_iff.mp h).1
    rw [List.length_map, win_len] at this
    exact this
  rw [List.getElem?_map, win_get hm] at h
  exact ⟨hm, (Option.some.inj h).symm⟩
section
variable {P : Program} {w : World} {K : PySem.W.Frag} {mg : Str → Option Value} {base : Heap}
def spValueAt : Sp := fun vs H Q _ => ∃ c x xs rs ps, ∃ tot i : Int, vs = [.ref c, .int tot, .ref x, .int i] ∧ ClsAt H c x xs rs ps tot ∧ i.natAbs < 10 ^ 59 ∧ ∀ H', Ex H H' → Q (.int (fm rs ps tot i)) H'
def spIndexOf : Sp := fun vs H Q _ => ∃ c x xs rs ps, ∃ tot t : Int, vs = [.ref c, .int tot, .ref x, .int t] ∧ ClsAt H c x xs rs ps tot ∧ t.natAbs < 10 ^ 59 ∧ ∀ i H', Ex H H' → fm rs ps tot i = t → Q (.int i) H'
end
end K1

set_option exponentiation.threshold 400
namespace K1
open PySem PySem.Spec PyProof.Rows L2 Evl HM LX ZW ZM MP
theorem ClsAt.keep {d : Addr} {H H' : Hp} {c x : Addr} {xs : List V} {rs : List (Int × Int)} {ps : List Int} {tot : Int} (h : ClsAt H c x xs rs ps tot) (k : Keep d H H') (hd : Dice H d) : ClsAt H' c x xs rs ps tot :=
  ⟨k.tup hd h.hc, paired_imp (fun _ _ z => RingAt.keep k hd z) h.hR, h.l1, h.l2, k.tup hd h.hx, h.len, h.pl, h.ht⟩
theorem win_mem {f : Int → Int} {low : Int} {n : Nat} {z : Int} (h : z ∈ win f low n) : ∃ k : Nat, k < n ∧ z = f (low + k) := by
  unfold win at h
  obtain ⟨k, hk, rfl⟩ := List.mem_map.mp h
  exact ⟨k, List.mem_range.mp hk, rfl⟩
/-- the letter of a ring with its place -/
def LetR (H : Hp) (n s p : Int) (v : V) : Prop :=
  (∃ (t : Addr) (c : Nat), v = .ref t ∧ H t = some (.tup [.int (K1M.ord n.natAbs s.natAbs : Nat), .int (c : Int)]) ∧ c < K1M.ord n.natAbs s.natAbs ∧ ((c : Int) * s + p) % n = 0) ∨
  (v = .non ∧ ∀ c : Nat, c < K1M.ord n.natAbs s.natAbs → ¬ ((c : Int) * s + p) % n = 0)
theorem LetR.ex {H H' : Hp} {n s p : Int} {v : V} (e : Ex H H') (h : LetR H n s p v) : LetR H' n s p v := by
  rcases h with ⟨t, c, rfl, ht, h1, h2⟩ | h
  · exact .inl ⟨t, c, rfl, e _ _ ht, h1, h2⟩
  · exact .inr h
theorem LetR.updL {H : Hp} {n s p : Int} {v : V} {D : Addr} {ys zs : List V} (hD : H D = some (.lst ys)) (h : LetR H n s p v) : LetR (upd H D (.lst zs)) n s p v := by
  rcases h with ⟨t, c, rfl, ht, h1, h2⟩ | h
  · exact .inl ⟨t, c, rfl, by rw [upd_ne (ne_of ht hD (by intro z; cases z))]; exact ht, h1, h2⟩
  · exact .inr h
/-- the letters of the first rings -/
def Lets (H : Hp) (rs : List (Int × Int)) (ps : List Int) (m : Nat) (vs : List V) : Prop := vs.length = m ∧ ∀ (j : Nat) (v : V), vs[j]? = some v → LetR H (K1N.nAt rs j : Int) (K1N.sAt rs j) (ps.getD j 0) v
theorem Lets.snoc {H : Hp} {rs : List (Int × Int)} {ps : List Int} {m : Nat} {vs : List V} {v : V} (h : Lets H rs ps m vs) (hv : LetR H (K1N.nAt rs m : Int) (K1N.sAt rs m) (ps.getD m 0) v) : Lets H rs ps (m + 1) (vs ++ [v]) := by
  refine ⟨by rw [List.length_append, h.1]; rfl, fun j u hu => ?_⟩
  by_cases c : j < vs.length
  · rw [List.getElem?_append_left c] at hu
    exact h.2 j u hu
  · rw [List.getElem?_append_right (by omega)] at hu
    have hj : j = m := by
      have := (List.getElem?_eq_some_iff.mp hu).1
      rw [List.length_singleton] at this
      have := h.1
      omega
    subst hj
    rw [h.1, Nat.sub_self] at hu
    have := Option.some.inj hu
    subst this
    exact hv
theorem Lets.ex {H H' : Hp} {rs : List (Int × Int)} {ps : List Int} {m : Nat} {vs : List V} (e : Ex H H') (h : Lets H rs ps m vs) : Lets H' rs ps m vs := ⟨h.1, fun j v hv => (h.2 j v hv).ex e⟩
theorem Lets.updL {H : Hp} {rs : List (Int × Int)} {ps : List Int} {m : Nat} {vs : List V} {D : Addr} {ys zs : List V} (hD : H D = some (.lst ys)) (h : Lets H rs ps m vs) : Lets (upd H D (.lst zs)) rs ps m vs := ⟨h.1, fun j v hv => (h.2 j v hv).updL hD⟩
section
variable {P : Program} {w : World} {K : PySem.W.Frag} {mg : Str → Option Value} {base : Heap}
def spWindow : Sp := fun vs H Q _ => ∃ c x xs rs ps, ∃ tot first last : Int, vs = [.ref c, .int tot, .ref x, .int first, .int last] ∧ ClsAt H c x xs rs ps tot ∧ first ≤ last ∧ last ≤ first + 199 ∧ first.natAbs < 10 ^ 58 ∧ ∀ p H', Ex H H' → H' p = some (.tup ((win (fm rs ps tot) first (last - first + 1).toNat).map V.int)) → Q (.ref p) H'
def spRingLetters : Sp := fun vs H Q _ => ∃ c x xs rs ps, vs = [.ref c, .ref x] ∧ H c = some (.tup xs) ∧ RingsAt H 60 xs rs ∧ (1 ≤ xs.length ∧ xs.length ≤ 12) ∧ PlacesT H x ps ∧ ps.length = xs.length ∧ PlOk rs ps ∧ ∀ p ls H', Ex H H' → H' p = some (.tup ls) → Lets H' rs ps xs.length ls → Q (.ref p) H'
end
end K1

/-! own rule: len(set(t)), a tuple of unlike ints -/
namespace LS
open PySem PySem.Spec PyProof.Rows L2
theorem nodup_len : ∀ {a b : List Int}, a.Nodup → b.Nodup → (∀ x, x ∈ a ↔ x ∈ b) → a.length = b.length := fun ha hb h => by
  have p := (List.perm_ext_iff_of_nodup ha hb).mpr h
  exact p.length_eq
def tLenSetT (K : PySem.W.Frag) (ta : TE) : TE := fun σ H Q => ta σ H fun x H1 => ∃ (l : Addr) (ns : List Int), x = .ref l ∧ SqT K H1 l (ns.map V.int) ∧ ns.Nodup ∧ ns.length ≤ 4000 ∧ Q (.int (ns.length : Nat)) H1
theorem pe_lenSetT {X : Cx} {a : Expr} {ta : TE} {p p2 q pos : Pos} (hg : Gl X "len") (hm : X.mg "len" = none) (hg2 : Gl X "set") (hm2 : X.mg "set" = none) (ha : PE X a ta) (hc : X.calm = true := by rfl)
    (na : starEach [a] X.env = (false, eval a X.env) :: starEach [] X.env := by rfl) : PE X (.Call (.Name "len" p) [.Call (.Name "set" p2) [a] [] q] [] pos) (tLenSetT X.K ta) := by
  refine ⟨fun pins s σ H Q I h => ?_⟩
  refine Call_ (ld_blt I hg hm boot_len ?_)
  refine PyProof.Rows.callWith_builtin1 (PyProof.Rows.args_cons ?_ rfl) rfl rfl
  refine Call_ (ld_blt I hg2 hm2 boot_set ?_)
  refine PyProof.Rows.callWith_type1 (PyProof.Rows.args_cons (thn (ha.run pins s σ H _ I h) fun v s1 ⟨x, H1, I1, r1, q1⟩ => PyProof.Rows.args_nil ?_) na) na rfl
  obtain ⟨l, ns, rfl, hq, hnd, hl, q1⟩ := q1
  cases r1
  obtain ⟨its, r, pl, hz⟩ := I1.tuple hq
  have hlen : its.toArray.size = ns.length := by rw [List.size_toArray, ← r.length, List.length_map]
  refine call_set_tupI ns (I1.ok.hd hc) pl (by simpa using RZ.intsAre_vals r) (by unfold scanBound; omega) fun h' tk c hS hc' hk => ?_
  refine PyProof.Rows.args_nil ?_
  obtain ⟨o, es, ep, t, ho, hex, hd, g1, g2, g3, g4, hf, hn, _⟩ := hS
  have hc : c = ns.length := by
    have e := nodup_len g2 hnd fun x => (g3 x).symm.trans (by simp)
    rw [List.length_map, Array.length_toList] at e
    omega
  subst hc
  have I2 : Inv X pins σ H1 { s1 with heap := h', toks := tk } := I1.kept fun b o e => hk b o e
  exact call_len_set ho hex hd hf (by rw [hn] <;> omega) ⟨.int ns.length, H1, I2.tok _, ⟨_, by rw [hn]⟩, q1⟩
end LS

set_option exponentiation.threshold 400
namespace K1
open PySem PySem.Spec PyProof.Rows L2 Evl HM LX ZW ZM MP
/-! ### the law's orders, letters, periods -/
section
variable {P : Program} {w : World} {K : PySem.W.Frag} {mg : Str → Option Value} {base : Heap}
def spLOrder : Sp := spOrderOf
theorem ok_lorder (T : Txt K mg) {f : Addr} {fd : FuncData} (D : DefAt K mg "_law_order" sLOrder ["_law_ring_here"] f fd) : FnOk P w K mg base CX0 2 f fd ["_law_ring_here"] spLOrder := by
  refine D.F.ok scLOrder (fun vs H Q E h => ?_) (fun cdv A outer s₀ H vs Q E hr h => ?_)
  · obtain ⟨x, n, s, rfl, _⟩ := h
    rfl
  · obtain ⟨x, n, s, rfl, hx, q⟩ := h
    obtain ⟨f1, fd1, D1⟩ := T.d_l_common
    have hr1 : Room 1 _ := hr.mono (by decide)
    refine ⟨_, pss_one (ps_ret (pe_op op_fdiv (pe_ix ix_tup (pv 0) pe_int (fun _ _ => rfl)) (pe_call (ok_common T D1) hr1 (by rfl) D1.g D1.F.kp D1.b .nil pass0 (pa_cons (pe_ix ix_tup (pv 0) pe_int (fun _ _ => rfl)) (pa_cons (pe_ix ix_tup (pv 0) pe_int (fun _ _ => rfl)) pa_nil))))), ?_⟩
    obtain ⟨t, rfl, ht, h1, h2, h3, h4⟩ := hx
    have ht1 := SqT.of (K := K) ht
    refine ⟨_, rfl, t, _, 0, .int n, rfl, rfl, ht1, rfl, _, rfl, t, _, 0, .int n, rfl, rfl, ht1, rfl, _, rfl, t, _, 1, .int s, rfl, rfl, ht1, rfl, n.natAbs, s.natAbs, ?_, fun H1 e1 => ?_⟩
    · rw [show ((n.natAbs : Nat) : Int) = n by omega, show ((s.natAbs : Nat) : Int) = s by omega]
      rfl
    have hg : 0 < Nat.gcd n.natAbs s.natAbs := Nat.gcd_pos_of_pos_left _ (by omega)
    have hg2 : Nat.gcd n.natAbs s.natAbs ≤ s.natAbs := Nat.gcd_le_right _ (by omega)
    refine ⟨n, _, rfl, rfl, ⟨by omega, by omega⟩, ?_⟩
    have e : n / ((Nat.gcd n.natAbs s.natAbs : Nat) : Int) = ((K1M.ord n.natAbs s.natAbs : Nat) : Int) := by
      conv => lhs; lhs; rw [show n = ((n.natAbs : Nat) : Int) by omega]
      rfl
    show Q (V.int (n / ((Nat.gcd n.natAbs s.natAbs : Nat) : Int))) H1
    rw [e]
    exact q _ e1
/-- the period: orders ahead divide it -/
def PerOk (rs : List (Int × Int)) (m p : Nat) : Prop := 1 ≤ p ∧ p ≤ 60 ^ m ∧ ∀ j, j < m → K1M.ord (K1N.nAt rs j) (K1N.sAt rs j).natAbs ∣ p
def spLPeriod : Sp := fun vs H Q _ => ∃ c xs rs, vs = [.ref c] ∧ H c = some (.tup xs) ∧ RingsAt H 60 xs rs ∧ xs.length ≤ 12 ∧ ∀ (p : Nat) H', Ex H H' → PerOk rs xs.length p → Q (.int (p : Int)) H'
theorem lcm_step {f o : Nat} (hf : 1 ≤ f) (ho : 1 ≤ o) (h60 : o ≤ 60) : f / Nat.gcd f o * o = Nat.lcm f o ∧ 1 ≤ Nat.lcm f o ∧ Nat.lcm f o ≤ f * 60 := by
  have hg : 0 < Nat.gcd f o := Nat.gcd_pos_of_pos_left _ (by omega)
  have e : f / Nat.gcd f o * o = Nat.lcm f o := by
    unfold Nat.lcm
    rw [Nat.mul_comm f o, Nat.mul_div_assoc _ (Nat.gcd_dvd_left f o), Nat.mul_comm]
  refine ⟨e, Nat.lcm_pos (by omega) (by omega), ?_⟩
  rw [← e]
  exact Nat.mul_le_mul (Nat.div_le_self _ _) h60
end
end K1

/-! dicts of a row of ints from low on: mathematics -/
namespace DK
open PySem PySem.Spec PyProof.Rows L2
def kvs : Int → List Int → List (Key × V)
  | _, [] => []
  | low, v :: vs => (.inl low, .int v) :: kvs (low + 1) vs
theorem kvs_len : ∀ (low : Int) (vs : List Int), (kvs low vs).length = vs.length
  | _, [] => rfl
  | low, v :: vs => congrArg (· + 1) (kvs_len (low + 1) vs)
theorem inl_ne {a b : Int} (h : a ≠ b) : ¬ (Sum.inl a : Key) = Sum.inl b := fun z => h (Sum.inl.inj z)
theorem kvs_low : ∀ (low : Int) (vs : List Int) {j : Int}, j < low → valV (kvs low vs) (.inl j) = none
  | _, [], _, _ => rfl
  | low, v :: vs, j, h => by
    show valV ((.inl low, .int v) :: kvs (low + 1) vs) (.inl j) = none
    rw [valV_neg (inl_ne (by omega)), kvs_low (low + 1) vs (by omega)]
theorem kvs_high : ∀ (low : Int) (vs : List Int) {j : Int}, low + vs.length ≤ j → valV (kvs low vs) (.inl j) = none
  | _, [], _, _ => rfl
  | low, v :: vs, j, h => by
    show valV ((.inl low, .int v) :: kvs (low + 1) vs) (.inl j) = none
    rw [List.length_cons] at h
    rw [valV_neg (inl_ne (by omega)), kvs_high (low + 1) vs (by omega)]
theorem kvs_get : ∀ (low : Int) (vs : List Int) {k : Nat}, k < vs.length → valV (kvs low vs) (.inl (low + k)) = some (.int (vs.getD k 0))
  | _, [], _, h => absurd h (Nat.not_lt_zero _)
  | low, v :: vs, 0, _ => by
    show valV ((.inl low, .int v) :: kvs (low + 1) vs) (.inl (low + ((0 : Nat) : Int))) = _
    rw [show low + ((0 : Nat) : Int) = low by omega, valV_pos rfl]
    rfl
  | low, v :: vs, k + 1, h => by
    show valV ((.inl low, .int v) :: kvs (low + 1) vs) (.inl (low + ((k + 1 : Nat) : Int))) = _
    rw [valV_neg (inl_ne (by omega)), show low + ((k + 1 : Nat) : Int) = low + 1 + k by omega, kvs_get (low + 1) vs (Nat.lt_of_succ_lt_succ h)]
    rfl
theorem kvs_at : ∀ (low : Int) (vs : List Int) {k : Nat}, k < vs.length → (kvs low vs)[k]? = some (.inl (low + k), .int (vs.getD k 0))
  | _, [], _, h => absurd h (Nat.not_lt_zero _)
  | low, v :: vs, 0, _ => by
    show some ((Sum.inl low : Key), V.int v) = _
    rw [show low + ((0 : Nat) : Int) = low by omega]
    rfl
  | low, v :: vs, k + 1, h => by
    show (kvs (low + 1) vs)[k]? = _
    rw [kvs_at (low + 1) vs (Nat.lt_of_succ_lt_succ h), show low + ((k + 1 : Nat) : Int) = low + 1 + k by omega]
    rfl
theorem kvs_id : ∀ (low : Int) (vs : List Int) {j : Int} (y : V), j < low → (kvs low vs).map (fun kv => if kv.1 = .inl j then (kv.1, y) else kv) = kvs low vs
  | _, [], _, _, _ => rfl
  | low, v :: vs, j, y, h => by
    show (if (Sum.inl low : Key) = .inl j then ((Sum.inl low : Key), y) else (.inl low, .int v)) :: (kvs (low + 1) vs).map _ = _
    rw [if_neg (inl_ne (by omega)), kvs_id (low + 1) vs y (by omega)]
    rfl
theorem kvs_map : ∀ (low : Int) (vs : List Int) {k : Nat} (y : Int), k < vs.length → (kvs low vs).map (fun kv => if kv.1 = .inl (low + k) then (kv.1, V.int y) else kv) = kvs low (vs.set k y)
  | _, [], _, _, h => absurd h (Nat.not_lt_zero _)
  | low, v :: vs, 0, y, _ => by
    rw [show low + ((0 : Nat) : Int) = low by omega]
    show (if (Sum.inl low : Key) = .inl low then ((Sum.inl low : Key), V.int y) else (.inl low, .int v)) :: (kvs (low + 1) vs).map _ = _
    rw [if_pos rfl, kvs_id (low + 1) vs _ (by omega)]
    rfl
  | low, v :: vs, k + 1, y, h => by
    rw [show low + ((k + 1 : Nat) : Int) = low + 1 + k by omega]
    show (if (Sum.inl low : Key) = .inl (low + 1 + k) then ((Sum.inl low : Key), V.int y) else (.inl low, .int v)) :: (kvs (low + 1) vs).map _ = _
    rw [if_neg (inl_ne (by omega)), kvs_map (low + 1) vs y (Nat.lt_of_succ_lt_succ h)]
    rfl
theorem kvs_put {low : Int} {vs : List Int} {k : Nat} (y : Int) (h : k < vs.length) : putK (kvs low vs) (.inl (low + k)) (.int y) = kvs low (vs.set k y) := by
  unfold putK
  rw [if_pos (by rw [valV_any, kvs_get low vs h]; rfl), kvs_map low vs y h]
theorem kvs_snoc : ∀ (low : Int) (vs : List Int) (v : Int), kvs low (vs ++ [v]) = kvs low vs ++ [(.inl (low + vs.length), .int v)]
  | low, [], v => by
    show [((Sum.inl low : Key), V.int v)] = [(Sum.inl (low + ((0 : Nat) : Int)), V.int v)]
    rw [show low + ((0 : Nat) : Int) = low by omega]
  | low, u :: vs, v => by
    show (.inl low, .int u) :: kvs (low + 1) (vs ++ [v]) = (.inl low, .int u) :: (kvs (low + 1) vs ++ [(.inl (low + ((vs.length + 1 : Nat) : Int)), .int v)])
    rw [kvs_snoc (low + 1) vs v, show low + ((vs.length + 1 : Nat) : Int) = low + 1 + vs.length by omega]
theorem kvs_merge : ∀ (us : List Int) (low : Int) (vs : List Int), mergeK (kvs low vs) (kvs (low + vs.length) us) = kvs low (vs ++ us)
  | [], low, vs => by rw [List.append_nil]; rfl
  | u :: us, low, vs => by
    show mergeK (putK (kvs low vs) (.inl (low + vs.length)) (.int u)) (kvs (low + vs.length + 1) us) = _
    rw [putK_new _ (kvs_high low vs (Int.le_refl _)), ← kvs_snoc]
    have := kvs_merge us low (vs ++ [u])
    rw [List.length_append, List.length_singleton, show low + ((vs.length + 1 : Nat) : Int) = low + vs.length + 1 by omega, List.append_assoc] at this
    exact this
theorem kvs_all (low : Int) (us : List Int) : mergeK [] (kvs low us) = kvs low us := by
  have := kvs_merge us low []
  rw [show low + (([] : List Int).length : Int) = low by show low + ((0 : Nat) : Int) = low; omega] at this
  exact this
end DK

set_option exponentiation.threshold 400
namespace K1
open PySem PySem.Spec PyProof.Rows L2 Evl HM LX ZW ZM MP
theorem let_uniq {rs : List (Int × Int)} {ps : List Int} {j : Nat} (hn : 1 ≤ K1N.nAt rs j) (hs : 0 ≤ K1N.sAt rs j) {c c' : Nat} (h : c < K1M.ord (K1N.nAt rs j) (K1N.sAt rs j).natAbs) (h' : c' < K1M.ord (K1N.nAt rs j) (K1N.sAt rs j).natAbs) (e : mL rs ps j c = true) (e' : mL rs ps j c' = true) : c = c' := by
  have h1 := (mL_per hn hs e (c' : Int)).mp e'
  have h2 := (mL_per hn hs e' (c : Int)).mp e
  rcases Nat.lt_trichotomy c c' with q | q | q
  · rw [Int.emod_eq_of_lt (by omega) (by omega)] at h1
    omega
  · exact q
  · rw [Int.emod_eq_of_lt (by omega) (by omega)] at h2
    omega
open Classical in
noncomputable def ldata (rs : List (Int × Int)) (ps : List Int) (j : Nat) : PyData :=
  if h : ∃ c : Nat, c < K1M.ord (K1N.nAt rs j) (K1N.sAt rs j).natAbs ∧ mL rs ps j c = true then .tuple [.int (K1M.ord (K1N.nAt rs j) (K1N.sAt rs j).natAbs : Nat), .int ((Classical.choose h : Nat) : Int)] else .none
theorem let_dp {K : PySem.W.Frag} {H : Hp} {rs : List (Int × Int)} {ps : List Int} {j : Nat} (hn : 1 ≤ K1N.nAt rs j) (hs : 0 ≤ K1N.sAt rs j) {v : V} (h : LetR H (K1N.nAt rs j : Int) (K1N.sAt rs j) (ps.getD j 0) v) : Dp K H v (ldata rs ps j) := by
  unfold ldata
  rcases h with ⟨t, c, rfl, ht, h1, h2⟩ | ⟨rfl, no⟩
  · rw [Int.natAbs_natCast] at ht h1
    have hm : mL rs ps j (c : Int) = true := by
      unfold mL
      exact decide_eq_true h2
    have ex : ∃ c : Nat, c < K1M.ord (K1N.nAt rs j) (K1N.sAt rs j).natAbs ∧ mL rs ps j c = true := ⟨c, h1, hm⟩
    rw [dif_pos ex]
    have sp := Classical.choose_spec ex
    have e := let_uniq hn hs h1 sp.1 hm sp.2
    rw [← e]
    exact .tup (SqT.of ht) (.cons (.int _) (.cons (.int _) .nil))
  · rw [Int.natAbs_natCast] at no
    rw [dif_neg (fun z => by
      obtain ⟨c, h1, h2⟩ := z
      unfold mL at h2
      exact no c h1 (of_decide_eq_true h2))]
    exact .non
noncomputable def ldatas (rs : List (Int × Int)) (ps : List Int) (m : Nat) : List PyData := (List.range m).map (ldata rs ps)
theorem dp_all {K : PySem.W.Frag} {H : Hp} : ∀ {vs : List V} {ds : List PyData}, vs.length = ds.length → (∀ (j : Nat) (v : V) (d : PyData), vs[j]? = some v → ds[j]? = some d → Dp K H v d) → DpAll K H vs ds
  | [], [], _, _ => .nil
  | [], _ :: _, h, _ => absurd h (by simp)
  | _ :: _, [], h, _ => absurd h (by simp)
  | v :: vs, d :: ds, h, q => .cons (q 0 v d rfl rfl) (dp_all (Nat.succ.inj h) fun j u e h1 h2 => q (j + 1) u e h1 h2)
theorem lets_dp {K : PySem.W.Frag} {H : Hp} {rs : List (Int × Int)} {ps : List Int} {m : Nat} {vs : List V} (ok : ∀ j, j < m → 1 ≤ K1N.nAt rs j ∧ 0 ≤ K1N.sAt rs j) (h : Lets H rs ps m vs) : DpAll K H vs (ldatas rs ps m) := by
  unfold ldatas
  refine dp_all (by rw [List.length_map, List.length_range]; exact h.1) fun j v d h1 h2 => ?_
  have hj : j < m := by
    have := (List.getElem?_eq_some_iff.mp h1).1
    rw [h.1] at this
    exact this
  rw [List.getElem?_map, List.getElem?_range hj] at h2
  have := Option.some.inj h2
  subst this
  exact let_dp (ok j hj).1 (ok j hj).2 (h.2 j v h1)
theorem ld_can (rs : List (Int × Int)) (ps : List Int) (j : Nat) : (ldata rs ps j).canLay0 = true ∧ (ldata rs ps j).depth ≤ 10 := by
  unfold ldata
  split
  · exact ⟨by simp [PyData.canLay0, PyData.canLayAll0], by simp [PyData.depth, PyData.depthAll]⟩
  · exact ⟨rfl, by decide⟩
theorem lds_can : ∀ l : List PyData, (∀ d ∈ l, d.canLay0 = true ∧ d.depth ≤ 10) → PyData.canLayAll0 l = true ∧ PyData.depthAll l ≤ 60
  | [], _ => ⟨rfl, by decide⟩
  | d :: l, h => by
    have h1 := h d (List.mem_cons_self ..)
    have h2 := lds_can l fun e he => h e (List.mem_cons_of_mem _ he)
    refine ⟨by simp [PyData.canLayAll0, h1.1, h2.1], ?_⟩
    simp only [PyData.depthAll]
    omega
theorem lds_tup (rs : List (Int × Int)) (ps : List Int) (m : Nat) : SeqAt.shaped (.tuple (ldatas rs ps m)) = true ∧ PyData.eqv (.tuple (ldatas rs ps m)) (.tuple (ldatas rs ps m)) = true := by
  have h := lds_can (ldatas rs ps m) fun d hd => by
    obtain ⟨j, _, rfl⟩ := List.mem_map.mp hd
    exact ld_can rs ps j
  have c : (PyData.tuple (ldatas rs ps m)).canLay0 = true := by simp [PyData.canLay0, h.1]
  refine ⟨?_, SeqAt.eqv_refl _ c⟩
  unfold SeqAt.shaped
  rw [c, decide_eq_true (show (PyData.tuple (ldatas rs ps m)).depth ≤ 64 by simp only [PyData.depth]; omega)]
  rfl
/-- the integers from 0 on that are let -/
def hits (n s p : Int) (m : Nat) : List Int := ((List.range m).filter fun (c : Nat) => decide (((c : Int) * s + p) % n = 0)).map fun (c : Nat) => (c : Int)
theorem hits_succ (n s p : Int) (m : Nat) : hits n s p (m + 1) = hits n s p m ++ if ((m : Int) * s + p) % n = 0 then [(m : Int)] else [] := by
  unfold hits
  rw [List.range_succ, List.filter_append, List.map_append]
  congr 1
  split
  · rename_i h
    rw [List.filter_cons_of_pos (by simpa using h)]
    rfl
  · rename_i h
    rw [List.filter_cons_of_neg (by simpa using h)]
    rfl
theorem hits_mem {n s p : Int} {m : Nat} {y : Int} : y ∈ hits n s p m ↔ ∃ c : Nat, c < m ∧ y = (c : Int) ∧ ((c : Int) * s + p) % n = 0 := by
  unfold hits
  rw [List.mem_map]
  constructor
  · rintro ⟨c, hc, rfl⟩
    obtain ⟨h1, h2⟩ := List.mem_filter.mp hc
    exact ⟨c, List.mem_range.mp h1, rfl, of_decide_eq_true h2⟩
  · rintro ⟨c, hc, rfl, h⟩
    exact ⟨c, List.mem_filter.mpr ⟨List.mem_range.mpr hc, decide_eq_true h⟩, rfl⟩
theorem hits_le (n s p : Int) (m : Nat) : (hits n s p m).length ≤ m := by
  unfold hits
  rw [List.length_map]
  have := List.length_filter_le (fun c : Nat => decide (((c : Int) * s + p) % n = 0)) (List.range m)
  rw [List.length_range] at this
  exact this
section
variable {P : Program} {w : World} {K : PySem.W.Frag} {mg : Str → Option Value} {base : Heap}
end
end K1

set_option exponentiation.threshold 400
namespace K1
open PySem PySem.Spec PyProof.Rows L2 Evl HM LX ZW ZM MP DK
def TupKV (H : Hp) (p : Addr) (kv : Key × V) : Prop := H p = some (.tup [kV kv.1, kv.2])
theorem TupKV.ex {H H' : Hp} {p : Addr} {kv : Key × V} (e : Ex H H') (h : TupKV H p kv) : TupKV H' p kv := e _ _ h
theorem TupKV.updL {H : Hp} {p : Addr} {kv : Key × V} {D : Addr} {ys zs : List V} (hD : H D = some (.lst ys)) (h : TupKV H p kv) : TupKV (upd H D (.lst zs)) p kv := by
  unfold TupKV
  rw [upd_ne (ne_of h hD (by intro z; cases z))]
  exact h
/-- the list of the pairs that a dict is made of -/
def Prs (D : Addr) (H : Hp) (low : Int) (vs : List Int) (H' : Hp) : Prop := ∃ as : List Addr, H' D = some (.lst (as.map V.ref)) ∧ Paired (TupKV H') as (kvs low vs) ∧ Ex H H'
theorem Prs.start {D : Addr} {H : Hp} {low : Int} (hD : H D = none) : Prs D H low [] (upd H D (.lst [])) := ⟨[], upd_same, .nil, Ex.new hD⟩
theorem Prs.put {D : Addr} {H H' : Hp} {low : Int} {vs : List Int} {v : Int} (h : Prs D H low vs H') (hD : H D = none) (hl : vs.length < 1000) {t : Addr} (ht : H' t = none) :
    ∃ acc, (upd H' t (.tup [V.int (low + vs.length), V.int v])) D = some (.lst acc) ∧ acc.length < sizeLine ∧ Prs D H low (vs ++ [v]) (upd (upd H' t (.tup [V.int (low + vs.length), V.int v])) D (.lst (acc ++ [V.ref t]))) := by
  obtain ⟨as, w1, w2, w3⟩ := h
  have eT := Ex.new (o := .tup [V.int (low + vs.length), V.int v]) ht
  have w1' := eT _ _ w1
  have tD : t ≠ D := fun z => by
    rw [z, w1] at ht
    cases ht
  have al := paired_len w2
  rw [kvs_len] at al
  refine ⟨_, w1', ?_, as ++ [t], ?_, ?_, Ex.mut (w3.trans eT) hD⟩
  · rw [List.length_map]
    exact small1000 (by omega)
  · rw [upd_same, List.map_append]
    rfl
  · rw [kvs_snoc]
    refine paired_snoc ?_ (paired_imp (fun _ _ z => TupKV.updL w1' (TupKV.ex eT z)) w2)
    show upd _ D _ t = some (.tup [V.int (low + vs.length), V.int v])
    rw [upd_ne tD]
    exact upd_same
theorem Prs.done {K : PySem.W.Frag} {D : Addr} {H H' : Hp} {low : Int} {vs : List Int} (h : Prs D H low vs H') {Q : VK} (q : ∀ p, H' p = none → Q (.ref p) (upd H' p (.dK (kvs low vs)))) :
    ∃ (a : Addr) (ps : List Addr) (ks : List (Key × V)), [V.ref D] = [.ref a] ∧ SqL K H' a (ps.map V.ref) ∧ Paired (fun p kv => SqT K H' p [kV kv.1, kv.2]) ps ks ∧ ∀ p, H' p = none → Q (.ref p) (upd H' p (.dK (mergeK [] ks))) := by
  obtain ⟨as, w1, w2, w3⟩ := h
  refine ⟨D, as, kvs low vs, rfl, SqL.of w1, paired_imp (fun _ _ z => SqT.of z) w2, fun p hp => ?_⟩
  rw [kvs_all]
  exact q p hp
section
variable {P : Program} {w : World} {K : PySem.W.Frag} {mg : Str → Option Value} {base : Heap}
def spLMap : Sp := fun vs H Q _ => ∃ c x xs rs ps, ∃ tot first last : Int, vs = [.ref c, .int tot, .ref x, .int first, .int last] ∧ ClsAt H c x xs rs ps tot ∧ first ≤ last ∧ last ≤ first + 199 ∧ ∀ d H', Ex H H' → H' d = some (.dK (kvs first (win (fm rs ps tot) first (last - first + 1).toNat))) → Q (.ref d) H'
theorem ok_lmap (T : Txt K mg) {f : Addr} {fd : FuncData} (D : DefAt K mg "_law_map" sLMap ["_law_chain_here", "_law_total", "_law_x", "_law_first", "_law_last"] f fd) : FnOk P w K mg base CX0 1 f fd ["_law_chain_here", "_law_total", "_law_x", "_law_first", "_law_last"] spLMap := by
  refine D.F.ok scLMap (fun vs H Q E h => ?_) (fun cdv A outer s₀ H vs Q E hr h => ?_)
  · obtain ⟨c, x, xs, rs, ps, tot, first, last, rfl, _⟩ := h
    rfl
  · obtain ⟨c, x, xs, rs, ps, tot, first, last, rfl, C, b1, b2, q⟩ := h
    have hu1 := Nat.lt_of_le_of_lt (Nat.add_le_add_left (show 1 ≤ 64 by decide) _) hr.units
    refine ⟨_, pss_cons (ps_set (i := 5) scLMap.nd rfl (.inr rfl) (pe_callB call_len_seq (by rfl) T.z_len PySem.boot_len (pa_cons (pv 0) pa_nil)))
      (pss_cons (ps_set (i := 7) scLMap.nd rfl (.inr rfl) (pe_callTy (call_dictP rfl) (by rfl) T.z_dict (by decide +kernel) (pa_cons (pe_lc (own := [("_law_i", 6)]) (g := gName 6) (tt := tYes) rfl scLMap.nd (LR.pi_range2L (by rfl) T.z_range (pa_cons (pe_op op_sub (pv 3) (pv 5)) (pa_cons (pe_op op_add (pe_op op_add (pv 4) (pv 5)) pe_int) pa_nil)))
        (blkOk_by (N := nLMap) (sc := defScope sLMap) (by decide +kernel)) (fun _ _ _ _ _ => (pg_name (i := 6) scLMap.nd rfl (.inl rfl))) (fun _ _ _ _ _ => pts_nil)
        (fun _ _ _ _ _ => (pe_tup (pa_cons (pv 6) (pa_cons (pe_op op_sub (pe_op op_add (pv 6) (pv 1)) (pv 5)) pa_nil))))) pa_nil)))
      (pss_cons (ps_for PassesOwn.never rfl (pi_range3 (by rfl) T.z_range (pa_cons (pe_op op_sub (pv 5) pe_int) (pa_cons (pe_un un_neg pe_int) (pa_cons (pe_un un_neg pe_int) pa_nil)))) (pg_name (i := 8) scLMap.nd rfl (.inl rfl))
        (pss_cons (ps_asg (pe_ix ix_tup (pv 0) (pv 8) (fun _ _ => rfl)) (pg_tup (by rfl) (pgs_cons (pg_name (i := 9) scLMap.nd rfl (.inl rfl)) (pgs_cons (pg_name (i := 10) scLMap.nd rfl (.inl rfl)) pgs_nil))))
      (pss_one (ps_for PassesOwn.never rfl (LR.pi_range2L (by rfl) T.z_range (pa_cons (pe_op op_sub (pv 3) (pv 5)) (pa_cons (pe_op op_add (pv 4) (pv 5)) pa_nil))) (pg_name (i := 6) scLMap.nd rfl (.inl rfl))
        (pss_one (ps_if (PW.pt (pw_and (pt_cmpR op_eq (pe_op op_mod (pe_op op_add (pe_op op_mul (pv 6) (pv 10)) (pe_ix ix_tup (pv 2) (pv 8) (fun _ _ => rfl))) (pv 9)) pe_int (nomark _))
          (pw_and1 (pt_cmpR op_lt (pe_dget hu1 (pv 7) (pv 6) (fun _ _ => rfl)) (pe_dget hu1 (pv 7) (pe_op op_add (pv 6) pe_int) (fun _ _ => rfl)) (nomark _))))) (pss_one (ps_asg (pe_tup (pa_cons (pe_dget hu1 (pv 7) (pe_op op_add (pv 6) pe_int) (fun _ _ => rfl)) (pa_cons (pe_dget hu1 (pv 7) (pv 6) (fun _ _ => rfl)) pa_nil))) (pg_tup (by rfl) (pgs_cons (pg_sub (pv 7) (pv 6) (set_dict hu1)) (pgs_cons (pg_sub (pv 7) (pe_op op_add (pv 6) pe_int) (set_dict hu1)) pgs_nil))))) pss_nil))))))
      (pss_one (ps_ret (pe_callTy (call_dictP rfl) (by rfl) T.z_dict (by decide +kernel) (pa_cons (pe_lc (own := [("_law_i", 6)]) (g := gName 6) (tt := tYes) rfl scLMap.nd (LR.pi_range2L (by rfl) T.z_range (pa_cons (pv 3) (pa_cons (pe_op op_add (pv 4) pe_int) pa_nil)))
        (blkOk_by (N := nLMap) (sc := defScope sLMap) (by decide +kernel)) (fun _ _ _ _ _ => (pg_name (i := 6) scLMap.nd rfl (.inl rfl))) (fun _ _ _ _ _ => pts_nil)
        (fun _ _ _ _ _ => (pe_tup (pa_cons (pv 6) (pa_cons (pe_dget hu1 (pv 7) (pv 6) (fun _ _ => rfl)) pa_nil))))) pa_nil)))))), ?_⟩
    have hL1 := C.l1
    have hL := C.l2
    have hlen := C.len
    have ok := C.ok
    refine ⟨_, rfl, c, _, rfl, .inr (SqT.of C.hc), ?_⟩
    obtain ⟨low, hlow⟩ : ∃ low, low = first - (xs.length : Int) := ⟨_, rfl⟩
    obtain ⟨N, hN⟩ : ∃ N : Nat, N = (last + (xs.length : Int) + 1 - low).toNat := ⟨_, rfl⟩
    refine ⟨_, rfl, _, rfl, _, _, rfl, rfl, _, rfl, _, rfl, _, _, rfl, rfl, _, _, rfl, rfl, _, _, rfl, fun D1 hD1 => ?_⟩
    rw [← hlow, ← hN]
    refine lc_range (fun i H' => Prs D1 H low (win (fun y => y + (tot - (ps.length : Int))) low i) H') (Prs.start hD1) (fun i H' hi hp => ?_) (fun H1 hp => ?_)
    · refine ⟨rfl, ?_⟩
      dsimp only [tYes]
      rw [if_pos rfl]
      refine ⟨_, rfl, _, rfl, _, rfl, _, _, rfl, rfl, _, rfl, _, _, rfl, rfl, (show 2 ≤ sizeLine by decide), fun t ht => ?_⟩
      have := hp.put hD1 (v := low + i + (tot - (ps.length : Int))) (by rw [win_len]; omega) ht
      rw [win_len] at this
      dsimp only
      rw [show low + (i : Int) + tot - (xs.length : Int) = low + i + (tot - (ps.length : Int)) by omega, win_snoc]
      exact this
    · obtain ⟨as, w1, w2, e1⟩ := hp
      refine ⟨D1, as, kvs low _, rfl, SqL.of w1, paired_imp (fun _ _ z => SqT.of z) w2, fun d hd => ?_⟩
      rw [kvs_all]
      have hd0 : H d = none := by
        cases z : H d with
        | none => rfl
        | some o =>
          rw [e1 _ _ z] at hd
          cases hd
      have e2 := e1.trans (Ex.new (o := .dK (kvs low (win (fun y => y + (tot - (ps.length : Int))) low N))) hd)
      have hd2 : (upd H1 d (.dK (kvs low (win (fun y => y + (tot - (ps.length : Int))) low N)))) d = some (.dK (kvs low (win (fun y => y + (tot - (ps.length : Int))) low N))) := upd_same
      generalize upd H1 d (.dK (kvs low (win (fun y => y + (tot - (ps.length : Int))) low N))) = H2 at e2 hd2 ⊢
      refine ⟨_, rfl, _, _, rfl, rfl, 1, rfl, 1, rfl, _, _, _, _, rfl, RgC.neg (by omega) (by omega) (by omega) (by omega), ?_⟩
      refine for_rangeC (fun i σ' H' => ∃ (y6 y8 y9 y10 : Option V) (vs : List Int), σ' = [some (.ref c), some (.int tot), some (.ref x), some (.int first), some (.int last), some (.int (xs.length : Int)), y6, some (.ref d), y8, y9, y10] ∧ H' d = some (.dK (kvs low vs)) ∧
        Near vs (pmap (mls rs ps i (ps.length - i)) fun y => y + (tot - (ps.length : Int))) low N i ∧ Ex H H') ⟨none, none, none, none, _, rfl, hd2, near_win _ _ _, e2⟩ (fun i σ' H3 hi hp => ?_) (fun σ' H3 hp => ?_)
      · obtain ⟨y6, y8, y9, y10, vs, rfl, v1, v2, v3⟩ := hp
        have hi' : i < xs.length := by omega
        have hidx : (xs.length : Int) - 1 + (i : Nat) * (-1) = ((xs.length - 1 - i : Nat) : Int) := by omega
        rw [hidx]
        obtain ⟨y, hy⟩ : ∃ y, xs[xs.length - 1 - i]? = some y := ⟨xs[xs.length - 1 - i]'(by omega), List.getElem?_eq_getElem (by omega)⟩
        have C3 := C.ex v3
        have ry := rings_nth4 C3.hR hy
        obtain ⟨t, rfl, ht, r1, r2, r3, r4⟩ := id ry
        have hj : ps.length - 1 - i = xs.length - 1 - i := by rw [hlen]
        have ms : mls rs ps (i + 1) (ps.length - (i + 1)) = mL rs ps (xs.length - 1 - i) :: mls rs ps i (ps.length - i) := by
          rw [show ps.length - (i + 1) = ps.length - 1 - i by omega, mls_cons (by omega), hj]
        have hNl : vs.length = N := v2.1
        refine ⟨_, rfl, _, rfl, c, xs, _, .ref t, rfl, rfl, SqT.of C3.hc, atI_nat hy, t, _, rfl, SqT.of ht, rfl, _, _, rfl, _, _, rfl, rfl, ?_⟩
        refine ⟨_, rfl, _, rfl, _, _, rfl, rfl, _, rfl, _, rfl, _, _, rfl, rfl, _, _, rfl, ?_⟩
        obtain ⟨o1, o2⟩ := ok (xs.length - 1 - i) (by omega)
        have S := mL_sparse (ps := ps) o1 o2
        refine for_range (n := Int.toNat _) (fun m σ' H' => ∃ (y6 : Option V), σ' = [some (.ref c), some (.int tot), some (.ref x), some (.int first), some (.int last), some (.int (xs.length : Int)), y6, some (.ref d), some (.int ((xs.length - 1 - i : Nat) : Int)), some (.int (K1N.nAt rs (xs.length - 1 - i) : Int)), some (.int (K1N.sAt rs (xs.length - 1 - i)))] ∧ H' d = some (.dK (kvs low (part (mL rs ps (xs.length - 1 - i)) low vs m))) ∧ Ex H H') ⟨y6, rfl, by rw [part_zero]; exact v1, v3⟩ (fun m σ' H4 hm hp => ?_) (fun σ' H4 hp => ?_)
        · obtain ⟨y6, rfl, u1, u2⟩ := hp
          have hm' : m + 1 < vs.length := by omega
          rw [← hlow]
          have hx4 := C.ex u2
          refine ⟨_, rfl, _, rfl, _, _, rfl, rfl, .inr (by constructor <;> omega), _, rfl, _, rfl, x, _, _, .int (ps.getD (xs.length - 1 - i) 0), rfl, rfl, SqT.of hx4.hx, atI_nat (int_at (by omega)), _, _, rfl, rfl, _, rfl, _, _, rfl, rfl, by omega, rfl, _, rfl, ?_⟩
          dsimp only
          generalize hM : mL rs ps (xs.length - 1 - i) = M at *
          have pl : (part M low vs m).length = vs.length := part_len ..
          have hzz : M (low + (m : Int)) = true ↔ ((low + (m : Int)) * K1N.sAt rs (xs.length - 1 - i) + ps.getD (xs.length - 1 - i) 0) % (K1N.nAt rs (xs.length - 1 - i) : Int) = 0 := by
            rw [← hM]
            unfold mL
            rw [decide_eq_true_iff]
          have small : (kvs low (part M low vs m)).length < sizeLine := by
            rw [kvs_len, pl]
            exact small1000 (by omega)
          by_cases z : M (low + (m : Int)) = true
          · have z1 := hzz.mp z
            obtain ⟨p1, p2, p3⟩ := part_next S hm' z
            have g1 : DGet H4 d (V.int (low + (m : Int))) (some (V.int (vs.getD m 0))) := .inl ⟨_, .inl (low + (m : Int)), .inl u1, rfl, by rw [kvs_get low _ (by omega), p1]⟩
            have g2 : DGet H4 d (V.int (low + (m : Int) + 1)) (some (V.int (vs.getD (m + 1) 0))) := .inl ⟨_, .inl (low + ((m + 1 : Nat) : Int)), .inl u1, by rw [show low + (m : Int) + 1 = low + ((m + 1 : Nat) : Int) by omega]; rfl, by rw [kvs_get low _ (by omega), p2]⟩
            rw [decide_eq_true (show V.int (((low + (m : Int)) * K1N.sAt rs (xs.length - 1 - i) + ps.getD (xs.length - 1 - i) 0) % (K1N.nAt rs (xs.length - 1 - i) : Int)) = V.int 0 by rw [z1])]
            refine iteT ⟨_, rfl, _, rfl, d, _, rfl, g1, _, rfl, _, rfl, _, _, rfl, rfl, d, _, rfl, g2, _, _, rfl, rfl, _, rfl, ite2 (fun cl => ?_) (fun cl => ?_)⟩
            · have cl1 := of_decide_eq_true cl
              refine ⟨_, rfl, _, rfl, _, _, rfl, rfl, d, _, rfl, g2, _, rfl, _, rfl, d, _, rfl, g1, (show 2 ≤ sizeLine by decide), fun tp htp => ?_⟩
              have eT := Ex.new (o := .tup [V.int (vs.getD (m + 1) 0), V.int (vs.getD m 0)]) htp
              have w5 := eT _ _ u1
              refine ⟨tp, _, rfl, SqT.of upd_same, rfl, _, _, rfl, _, rfl, _, rfl, d, _, rfl, .inl ⟨_, .inl (low + (m : Int)), w5, rfl, small, rfl⟩, ?_⟩
              rw [kvs_put _ (by omega)]
              refine ⟨_, _, rfl, _, rfl, _, rfl, _, _, rfl, rfl, d, _, rfl, .inl ⟨_, .inl (low + ((m + 1 : Nat) : Int)), upd_same, by show V.int (low + (m : Int) + 1) = V.int (low + ((m + 1 : Nat) : Int)); congr 1; omega, ?_, rfl⟩, ?_⟩
              · rw [kvs_len, List.length_set, pl]
                exact small1000 (by omega)
              · rw [kvs_put _ (by rw [List.length_set, pl]; omega)]
                refine ⟨rfl, _, rfl, ?_, Ex.mut (Ex.mut (u2.trans eT) hd0) hd0⟩
                rw [upd_same, p3, show max (vs.getD m 0) (vs.getD (m + 1) 0) = vs.getD (m + 1) 0 by omega, show min (vs.getD m 0) (vs.getD (m + 1) 0) = vs.getD m 0 by omega]
            · have cl1 : ¬ vs.getD m 0 < vs.getD (m + 1) 0 := fun q => cl (decide_eq_true q)
              refine ⟨_, rfl, ?_, u2⟩
              rw [p3, show max (vs.getD m 0) (vs.getD (m + 1) 0) = vs.getD m 0 by omega, show min (vs.getD m 0) (vs.getD (m + 1) 0) = vs.getD (m + 1) 0 by omega,
                set_same (l := part M low vs m) (by omega) p1, set_same (l := part M low vs m) (by omega) p2]
              exact u1
          · rw [decide_eq_false (show ¬ V.int (((low + (m : Int)) * K1N.sAt rs (xs.length - 1 - i) + ps.getD (xs.length - 1 - i) 0) % (K1N.nAt rs (xs.length - 1 - i) : Int)) = V.int 0 from fun y => z (hzz.mpr (by injection y)))]
            refine iteF ⟨_, rfl, ?_, u2⟩
            rw [part_skip (B := m) (by omega) (fun k k1 k2 _ => by
              have : k = m := by omega
              subst this
              cases q : M (low + (k : Int)) with
              | false => rfl
              | true => exact absurd q z)]
            exact u1
        · obtain ⟨y6, rfl, u1, u2⟩ := hp
          refine ⟨_, _, _, _, _, rfl, u1, ?_, u2⟩
          rw [ms]
          exact near_step v2 (by omega)
      · obtain ⟨y6, y8, y9, y10, vs, rfl, v1, v2, v3⟩ := hp
        have ei : ((xs.length : Int) - 1 - -1).toNat = ps.length := by omega
        rw [ei] at v2
        have e0 : pmap (mls rs ps ps.length (ps.length - ps.length)) (fun y => y + (tot - (ps.length : Int))) = fm rs ps tot := by
          unfold fm
          rw [Nat.sub_self]
        rw [e0] at v2
        have hNl : vs.length = N := v2.1
        have gv : ∀ k : Nat, k < (last - first + 1).toNat → DGet H3 d (V.int (first + (k : Int))) (some (V.int (fm rs ps tot (first + (k : Int))))) := fun k hk => by
          refine .inl ⟨_, .inl (low + ((ps.length + k : Nat) : Int)), .inl v1, by show V.int (first + (k : Int)) = V.int (low + ((ps.length + k : Nat) : Int)); congr 1; omega, ?_⟩
          rw [kvs_get low vs (by omega)]
          have := v2.2 (ps.length + k) (by omega) (by omega)
          rw [List.getD_eq_getElem?_getD, this]
          show some (V.int (fm rs ps tot (first + (k : Int)))) = some (V.int (fm rs ps tot (low + ((ps.length + k : Nat) : Int))))
          rw [show low + ((ps.length + k : Nat) : Int) = first + k by omega]
        have hn0 : (last + 1 - first).toNat = (last - first + 1).toNat := by omega
        refine ⟨_, rfl, _, rfl, _, _, rfl, rfl, _, _, rfl, fun D2 hD2 => ?_⟩
        rw [hn0]
        refine lc_range (fun i H' => Prs D2 H3 first (win (fm rs ps tot) first i) H') (Prs.start hD2) (fun i H' hi hp => ?_) (fun H4 hp => ?_)
        · refine ⟨rfl, ?_⟩
          dsimp only [tYes]
          rw [if_pos rfl]
          have hex : Ex H3 H' := by
            obtain ⟨_, _, _, z⟩ := hp
            exact z
          have gi : DGet H' d (V.int (first + (i : Int))) (some (V.int (fm rs ps tot (first + (i : Int))))) := by
            rcases gv i hi with ⟨ks, k, hk, h1, h2⟩ | ⟨ks, k, b, hk, h1, h2⟩
            · rcases hk with hk | ⟨o, hk⟩
              · exact .inl ⟨ks, k, .inl (hex _ _ hk), h1, h2⟩
              · exact .inl ⟨ks, k, .inr ⟨o, hex _ _ hk⟩, h1, h2⟩
            · cases h1
          refine ⟨_, rfl, _, rfl, _, rfl, d, _, rfl, gi, (show 2 ≤ sizeLine by decide), fun t ht => ?_⟩
          have := hp.put hD2 (v := fm rs ps tot (first + (i : Int))) (by rw [win_len]; omega) ht
          rw [win_len] at this
          rw [win_snoc]
          exact this
        · obtain ⟨as, w1, w2, e4⟩ := hp
          refine ⟨D2, as, kvs first _, rfl, SqL.of w1, paired_imp (fun _ _ z => SqT.of z) w2, fun d2 hd2 => ?_⟩
          rw [kvs_all]
          exact q d2 _ ((v3.trans e4).trans (Ex.new hd2)) upd_same
end
end K1

set_option exponentiation.threshold 400
namespace K1
open MP
section
def sumL {α : Type} (l : List α) (f : α → Int) : Int := (l.map f).sum
theorem sumL_nil {α : Type} (f : α → Int) : sumL [] f = 0 := rfl
theorem sumL_cons {α : Type} (x : α) (l : List α) (f : α → Int) : sumL (x :: l) f = f x + sumL l f := by
  unfold sumL
  rw [List.map_cons, List.sum_cons]
theorem sumL_app {α : Type} : ∀ (l m : List α) (f : α → Int), sumL (l ++ m) f = sumL l f + sumL m f
  | [], m, f => by rw [List.nil_append, sumL_nil, Int.zero_add]
  | x :: l, m, f => by rw [List.cons_append, sumL_cons, sumL_cons, sumL_app l m f, Int.add_assoc]
theorem sumL_congr {α : Type} {f g : α → Int} : ∀ {l : List α}, (∀ x ∈ l, f x = g x) → sumL l f = sumL l g
  | [], _ => rfl
  | x :: l, h => by rw [sumL_cons, sumL_cons, h x (List.mem_cons_self ..), sumL_congr fun y hy => h y (List.mem_cons_of_mem _ hy)]
theorem sumL_perm {α : Type} {l m : List α} (f : α → Int) (h : l.Perm m) : sumL l f = sumL m f := by
  induction h with
  | nil => rfl
  | cons x _ ih => rw [sumL_cons, sumL_cons, ih]
  | swap x y l => rw [sumL_cons, sumL_cons, sumL_cons, sumL_cons]; omega
  | trans _ _ i1 i2 => exact i1.trans i2
theorem sumL_add {α : Type} (f g : α → Int) : ∀ l : List α, sumL l (fun x => f x + g x) = sumL l f + sumL l g
  | [] => rfl
  | x :: l => by rw [sumL_cons, sumL_cons, sumL_cons, sumL_add f g l]; omega
theorem sumL_zero {α : Type} : ∀ l : List α, sumL l (fun _ => 0) = 0
  | [] => rfl
  | x :: l => by rw [sumL_cons, sumL_zero l]; rfl
theorem sumL_mul {α : Type} (c : Int) (f : α → Int) : ∀ l : List α, sumL l (fun x => c * f x) = c * sumL l f
  | [] => by rw [sumL_nil, sumL_nil, Int.mul_zero]
  | x :: l => by rw [sumL_cons, sumL_cons, sumL_mul c f l, Int.mul_add]
theorem sumL_swap {α β : Type} (f : α → β → Int) (m : List β) : ∀ l : List α, sumL l (fun x => sumL m fun y => f x y) = sumL m fun y => sumL l fun x => f x y
  | [] => by
    rw [sumL_nil]
    exact (sumL_zero m).symm
  | x :: l => by
    rw [sumL_cons, sumL_swap f m l, ← sumL_add]
    exact sumL_congr fun y _ => (sumL_cons x l (fun x => f x y)).symm
theorem sumL_map {α β : Type} (f : β → Int) (g : α → β) (l : List α) : sumL (l.map g) f = sumL l fun x => f (g x) := by
  unfold sumL
  rw [List.map_map]
  rfl
theorem sumL_if {α : Type} (p : α → Bool) (c : Int) : ∀ l : List α, sumL l (fun x => if p x = true then c else 0) = ((l.filter p).length : Int) * c
  | [] => by simp [sumL_nil]
  | x :: l => by
    rw [sumL_cons, sumL_if p c l, List.filter_cons]
    split
    · rw [List.length_cons, Int.natCast_succ, Int.add_mul]
      omega
    · omega
theorem sumL_one {α : Type} : ∀ l : List α, sumL l (fun _ => 1) = (l.length : Int)
  | [] => rfl
  | x :: l => by rw [sumL_cons, sumL_one l, List.length_cons]; omega
theorem sumL_nn {α : Type} {f : α → Int} : ∀ {l : List α}, (∀ x ∈ l, 0 ≤ f x) → 0 ≤ sumL l f
  | [], _ => Int.le_refl _
  | x :: l, h => by
    rw [sumL_cons]
    have := h x (List.mem_cons_self ..)
    have := sumL_nn (l := l) fun y hy => h y (List.mem_cons_of_mem _ hy)
    omega
end
end K1

/-! round maps: periodic maps, their sums, their counts; plain mathematics -/
namespace K1
open MP
def Per (m : Int) (f : Int → Int) : Prop := ∀ i, f (i + m) = f i + m
def PerM (m : Int) (M : Int → Bool) : Prop := ∀ i, M (i + m) = M i
theorem per_step {m : Int} {M : Int → Bool} {f : Int → Int} (pM : PerM m M) (pf : Per m f) : Per m (stepP M f) := fun i => by
  unfold stepP
  rw [pM i, show i + m + 1 = (i + 1) + m by omega, show i + m - 1 = (i - 1) + m by omega, pM (i - 1), pf i, pf (i + 1), pf (i - 1)]
  split
  · omega
  · split <;> omega
theorem per_pmap {m e : Int} : ∀ Ms : List (Int → Bool), (∀ M ∈ Ms, PerM m M) → Per m (pmap Ms fun i => i + e)
  | [], _ => fun i => by
    show i + m + e = i + e + m
    omega
  | M :: Ms, h => per_step (h M (List.mem_cons_self ..)) (per_pmap Ms fun N hN => h N (List.mem_cons_of_mem _ hN))
/-- what an exchange gives to the right -/
def gx (M : Int → Bool) (f : Int → Int) (i : Int) : Int := if M i = true then max 0 (f (i + 1) - f i) else 0
theorem step_diff {M : Int → Bool} (S : Sparse M) (f : Int → Int) (i : Int) : stepP M f i = f i + (gx M f i - gx M f (i - 1)) := by
  unfold stepP gx
  rw [show i - 1 + 1 = i by omega]
  by_cases m : M i = true
  · rw [if_pos m, if_pos m, if_neg (by rw [S.ahead m]; decide)]
    omega
  · rw [if_neg m, if_neg m]
    by_cases m2 : M (i - 1) = true
    · rw [if_pos m2, if_pos m2]
      omega
    · rw [if_neg m2, if_neg m2]
      omega
theorem tele (g : Int → Int) : ∀ n : Nat, sumL (List.range n) (fun (i : Nat) => g (i : Int) - g ((i : Int) - 1)) = g ((n : Int) - 1) - g (-1)
  | 0 => by
    show (0 : Int) = g (0 - 1) - g (-1)
    rw [show (0 : Int) - 1 = -1 by omega]
    omega
  | n + 1 => by
    rw [List.range_succ, sumL_app, tele g n, sumL_cons, sumL_nil, show ((n + 1 : Nat) : Int) - 1 = (n : Int) by omega]
    omega
theorem sum_step {m : Nat} {M : Int → Bool} {f : Int → Int} (S : Sparse M) (pM : PerM m M) (pf : Per m f) : sumL (List.range m) (fun (i : Nat) => stepP M f (i : Int)) = sumL (List.range m) fun (i : Nat) => f (i : Int) := by
  rw [show sumL (List.range m) (fun (i : Nat) => stepP M f (i : Int)) = sumL (List.range m) (fun (i : Nat) => f (i : Int) + (gx M f (i : Int) - gx M f ((i : Int) - 1))) from sumL_congr fun i _ => step_diff S f i, sumL_add, tele]
  have : gx M f ((m : Int) - 1) = gx M f (-1) := by
    unfold gx
    have p1 := pM (-1)
    have p2 := pf (-1)
    have p3 := pf (-1 + 1)
    rw [show (m : Int) - 1 = -1 + m by omega, p1, show (-1 : Int) + m + 1 = -1 + 1 + m by omega, p2, p3]
    split <;> omega
  omega
theorem sum_pmap {m : Nat} {e : Int} : ∀ Ms : List (Int → Bool), (∀ M ∈ Ms, Sparse M ∧ PerM m M) → sumL (List.range m) (fun (i : Nat) => pmap Ms (fun i => i + e) (i : Int)) = sumL (List.range m) fun (i : Nat) => (i : Int) + e
  | [], _ => rfl
  | M :: Ms, h => by
    obtain ⟨h1, h2⟩ := h M (List.mem_cons_self ..)
    have hr := fun N hN => h N (List.mem_cons_of_mem _ hN)
    show sumL (List.range m) (fun (i : Nat) => stepP M (pmap Ms fun i => i + e) (i : Int)) = _
    rw [sum_step h1 h2 (per_pmap Ms fun N hN => (hr N hN).2)]
    exact sum_pmap Ms hr
theorem qle {m p q : Int} (hm : 0 < m) (h : m * p < m * q + m) : p ≤ q := by
  have : m * p < m * (q + 1) := by rw [Int.mul_add, Int.mul_one]; exact h
  have := Int.lt_of_mul_lt_mul_left this (Int.le_of_lt hm)
  omega
theorem qlo {m : Int} (hm : 0 < m) (x : Int) : m * (x / m) ≤ x := Int.mul_ediv_self_le (by omega)
theorem qhi {m : Int} (hm : 0 < m) (x : Int) : x < m * (x / m) + m := Int.lt_mul_ediv_self_add hm
theorem q_eq {m x q : Int} (hm : 0 < m) (h1 : m * q ≤ x) (h2 : x < m * q + m) : x / m = q := by
  have a := qlo hm x
  have b := qhi hm x
  exact Int.le_antisymm (qle hm (by omega)) (qle hm (by omega))
/-- how many are counted -/
def cntR (m : Nat) (f : Int → Int) (a b : Int) : Int := sumL (List.range m) fun (r : Nat) => max 0 ((a - (r : Int)) / (m : Int) + (b + f (r : Int)) / (m : Int) + 1)
theorem per_mul {m : Int} {f : Int → Int} (pf : Per m f) : ∀ (n : Nat) (i : Int), f (i + m * (n : Int)) = f i + m * (n : Int)
  | 0, i => by
    show f (i + m * 0) = f i + m * 0
    rw [Int.mul_zero, Int.add_zero, Int.add_zero]
  | n + 1, i => by
    rw [show i + m * ((n + 1 : Nat) : Int) = (i + m * (n : Int)) + m by rw [Int.natCast_add, Int.mul_add]; show i + (m * n + m * 1) = _; omega, pf, per_mul pf n, Int.natCast_add, Int.mul_add]
    show _ = f i + (m * n + m * 1)
    omega
theorem per_q {m : Int} {f : Int → Int} (pf : Per m f) (i q : Int) : f (i + m * q) = f i + m * q := by
  rcases Int.le_total 0 q with h | h
  · obtain ⟨n, rfl⟩ : ∃ n : Nat, q = n := ⟨q.toNat, by omega⟩
    exact per_mul pf n i
  · obtain ⟨n, rfl⟩ : ∃ n : Nat, q = -(n : Int) := ⟨(-q).toNat, by omega⟩
    have := per_mul pf n (i + m * -(n : Int))
    rw [show i + m * -(n : Int) + m * (n : Int) = i by rw [Int.mul_neg]; omega] at this
    rw [Int.mul_neg] at this ⊢
    omega
theorem sumL_one_at {f g : Nat → Int} {j : Nat} {v : Int} : ∀ {n : Nat}, j < n → (∀ x, x < n → f x = g x + if x = j then v else 0) → sumL (List.range n) f = sumL (List.range n) g + v
  | 0, h, _ => absurd h (Nat.not_lt_zero _)
  | n + 1, h, e => by
    rw [List.range_succ, sumL_app, sumL_app, sumL_cons, sumL_cons, sumL_nil, sumL_nil, e n (by omega)]
    by_cases z : n = j
    · rw [if_pos z, show sumL (List.range n) f = sumL (List.range n) g from sumL_congr fun x hx => by
        have := List.mem_range.mp hx
        rw [e x (by omega), if_neg (by omega), Int.add_zero]]
      omega
    · rw [if_neg z, sumL_one_at (n := n) (by omega) fun x hx => e x (by omega)]
      omega
theorem cnt_step {m : Nat} (hm : 1 ≤ m) {f : Int → Int} (pf : Per m f) (a b : Int) : cntR m f a b - cntR m f (a - 1) b = if -b ≤ f a then 1 else 0 := by
  have m0 : (0 : Int) < m := by omega
  have ra := Int.emod_nonneg a (show (m : Int) ≠ 0 by omega)
  have rb := Int.emod_lt_of_pos a m0
  obtain ⟨r, hr⟩ : ∃ r : Nat, (r : Int) = a % (m : Int) := ⟨(a % (m : Int)).toNat, by omega⟩
  obtain ⟨q, hq⟩ : ∃ q, q = a / (m : Int) := ⟨_, rfl⟩
  have ea : a = (r : Int) + m * q := by
    rw [hr, hq]
    have := Int.mul_ediv_add_emod a m
    omega
  have fa : f a = f (r : Int) + m * q := by
    rw [ea, per_q pf]
  unfold cntR
  rw [sumL_one_at (j := r) (v := if -b ≤ f a then 1 else 0) (show r < m by omega) (g := fun (r : Nat) => max 0 ((a - 1 - (r : Int)) / (m : Int) + (b + f (r : Int)) / (m : Int) + 1)) fun x hx => ?_]
  · omega
  · obtain ⟨t, ht⟩ : ∃ t, t = (b + f (x : Int)) / (m : Int) := ⟨_, rfl⟩
    rw [← ht]
    by_cases z : x = r
    · subst z
      rw [if_pos rfl]
      have e1 : (a - (x : Int)) / (m : Int) = q := q_eq m0 (by omega) (by omega)
      have e2 : (a - 1 - (x : Int)) / (m : Int) = q - 1 := q_eq m0 (by rw [Int.mul_sub]; omega) (by rw [Int.mul_sub]; omega)
      rw [e1, e2]
      have l := qlo m0 (b + f (x : Int))
      have h := qhi m0 (b + f (x : Int))
      rw [← ht] at l h
      by_cases y : -b ≤ f a
      · rw [if_pos y]
        have : 0 ≤ q + t := by
          refine qle m0 ?_
          rw [Int.mul_zero, Int.mul_add]
          omega
        omega
      · rw [if_neg y]
        have : q + t ≤ -1 := by
          refine qle m0 ?_
          rw [Int.mul_add]
          omega
        omega
    · rw [if_neg z]
      have e : (a - (x : Int)) / (m : Int) = (a - 1 - (x : Int)) / (m : Int) := by
        have l := qlo m0 (a - (x : Int))
        have h := qhi m0 (a - (x : Int))
        symm
        refine q_eq m0 ?_ (by omega)
        rcases Int.lt_or_le (m * ((a - (x : Int)) / m)) (a - x) with y | y
        · omega
        · exfalso
          have e3 : (r : Int) - x = m * ((a - (x : Int)) / m - q) := by rw [Int.mul_sub]; omega
          rcases Int.lt_trichotomy ((a - (x : Int)) / m - q) 0 with w | w | w
          · have := Int.mul_le_mul_of_nonneg_left (show (a - (x : Int)) / m - q ≤ -1 by omega) (Int.le_of_lt m0)
            omega
          · rw [w, Int.mul_zero] at e3
            omega
          · have := Int.mul_le_mul_of_nonneg_left (show 1 ≤ (a - (x : Int)) / m - q by omega) (Int.le_of_lt m0)
            omega
      rw [e]
      omega
theorem cnt_low {m : Nat} (hm : 1 ≤ m) {f : Int → Int} {tot : Int} (fb : ∀ i, f i ≤ i + tot) {a b : Int} (h : a + b + tot + m < 0) : cntR m f a b = 0 := by
  have m0 : (0 : Int) < m := by omega
  unfold cntR
  rw [show sumL (List.range m) (fun (r : Nat) => max 0 ((a - (r : Int)) / (m : Int) + (b + f (r : Int)) / (m : Int) + 1)) = sumL (List.range m) fun _ => 0 from sumL_congr fun r _ => ?_, sumL_zero]
  have l1 := qlo m0 (a - (r : Int))
  have l2 := qlo m0 (b + f (r : Int))
  have := fb (r : Int)
  have : (a - (r : Int)) / (m : Int) + (b + f (r : Int)) / (m : Int) ≤ -2 := by
    refine qle m0 ?_
    rw [Int.mul_add]
    omega
  omega
theorem cnt_all {m : Nat} (hm : 1 ≤ m) {f : Int → Int} (pf : Per m f) {tot : Int} (fb : ∀ i, f i ≤ i + tot) {b : Int} {h : Int → Int} (hs : ∀ a, h a - h (a - 1) = if -b ≤ f a then 1 else 0) (hl : ∀ a, a < -tot - b → h a = 0) (a : Int) : cntR m f a b = h a := by
  have go : ∀ n : Nat, cntR m f (-tot - b - m - 1 + n) b = h (-tot - b - m - 1 + n) := fun n => by
    induction n with
    | zero => rw [cnt_low hm fb (by omega), hl _ (by omega)]
    | succ n ih =>
      have s1 := cnt_step hm pf (-tot - b - m - 1 + ((n + 1 : Nat) : Int)) b
      have s2 := hs (-tot - b - m - 1 + ((n + 1 : Nat) : Int))
      rw [show -tot - b - m - 1 + ((n + 1 : Nat) : Int) - 1 = -tot - b - m - 1 + (n : Int) by omega] at s1 s2
      omega
  by_cases z : -tot - b - m - 1 ≤ a
  · obtain ⟨n, hn⟩ : ∃ n : Nat, a = -tot - b - m - 1 + n := ⟨(a - (-tot - b - m - 1)).toNat, by omega⟩
    rw [hn]
    exact go n
  · rw [cnt_low hm fb (by omega), hl _ (by omega)]
end K1

/-! how often a round map falls: one exchange adds one at the most; plain mathematics -/
namespace K1
open MP
/-- falls of two classes -/
def dd (m : Int) (f : Int → Int) (i j : Int) : Int := (f j - f i) / m - (j - i) / m
theorem div_q {m : Int} (hm : 0 < m) (x q : Int) : (x + m * q) / m = x / m + q := by
  rw [Int.add_mul_ediv_left _ _ (by omega)]
theorem dd_mod {m : Int} (hm : 0 < m) {f : Int → Int} (pf : Per m f) (i j p q : Int) : dd m f (i + m * p) (j + m * q) = dd m f i j := by
  unfold dd
  rw [per_q pf, per_q pf, show f j + m * q - (f i + m * p) = (f j - f i) + m * (q - p) by rw [Int.mul_sub]; omega, show j + m * q - (i + m * p) = (j - i) + m * (q - p) by rw [Int.mul_sub]; omega, div_q hm, div_q hm]
  omega
theorem neg_div {m x : Int} (hm : 0 < m) (h : x % m ≠ 0) : (-x) / m = -(x / m) - 1 := by
  have a := Int.mul_ediv_add_emod x m
  have b := Int.emod_nonneg x (show m ≠ 0 by omega)
  have c := Int.emod_lt_of_pos x hm
  refine q_eq hm ?_ ?_
  · rw [Int.mul_sub, Int.mul_neg]
    omega
  · rw [Int.mul_sub, Int.mul_neg]
    omega
theorem dd_sym {m : Int} (hm : 0 < m) {f : Int → Int} {i j : Int} (h1 : (f j - f i) % m ≠ 0) (h2 : (j - i) % m ≠ 0) : dd m f j i = -dd m f i j := by
  unfold dd
  rw [show f i - f j = -(f j - f i) by omega, show i - j = -(j - i) by omega, neg_div hm h1, neg_div hm h2]
  omega
def ab (x : Int) : Int := (x.natAbs : Int)
theorem ab_neg (x : Int) : ab (-x) = ab x := by unfold ab; rw [Int.natAbs_neg]
theorem ab_add (x y : Int) : ab (x + y) ≤ ab x + ab y := by unfold ab; omega
/-- a sum over a triangle -/
def tri (m : Nat) (h : Nat → Nat → Int) : Int := sumL (List.range m) fun j => sumL (List.range j) fun i => h i j
def sqr (m : Nat) (h : Nat → Nat → Int) : Int := sumL (List.range m) fun i => sumL (List.range m) fun j => if i = j then 0 else h i j
theorem sqr_tri {h : Nat → Nat → Int} : ∀ m : Nat, (∀ i j, i < m → j < m → i ≠ j → h i j = h j i) → sqr m h = 2 * tri m h
  | 0, _ => rfl
  | m + 1, s => by
    have ih := sqr_tri m fun i j hi hj => s i j (by omega) (by omega)
    unfold sqr tri at ih ⊢
    rw [List.range_succ, sumL_app, sumL_app, sumL_cons, sumL_cons, sumL_nil, sumL_nil]
    rw [show sumL (List.range m) (fun i => sumL (List.range m ++ [m]) fun j => if i = j then 0 else h i j) = sumL (List.range m) (fun i => (sumL (List.range m) fun j => if i = j then 0 else h i j) + h i m) from sumL_congr fun i hi => by
      have := List.mem_range.mp hi
      rw [sumL_app, sumL_cons, sumL_nil, if_neg (by omega), Int.add_zero]]
    rw [sumL_add, ih, sumL_app, sumL_cons, sumL_nil, if_pos rfl]
    rw [show sumL (List.range m) (fun j => if m = j then 0 else h m j) = sumL (List.range m) (fun j => h j m) from sumL_congr fun j hj => by
      have := List.mem_range.mp hj
      rw [if_neg (by omega), s m j (by omega) (by omega) (by omega)]]
    omega
/-- the program's count -/
def fallsR (m : Nat) (f : Int → Int) : Int := tri m fun i j => ab ((f (j : Int) - f (i : Int)) / (m : Int))
theorem dd_in {m : Nat} {f : Int → Int} {i j : Nat} (hij : i < j) (hj : j < m) : dd m f i j = (f (j : Int) - f (i : Int)) / (m : Int) := by
  unfold dd
  rw [Int.ediv_eq_zero_of_lt (a := (j : Int) - (i : Int)) (by omega) (by omega)]
  omega
/-- no two places of a class -/
def Inj (m : Int) (f : Int → Int) : Prop := ∀ i j, (f j - f i) % m = 0 → (j - i) % m = 0
theorem inj_of {m : Int} {f : Int → Int} (pf : Per m f) (hi : ∀ i j, f i = f j → i = j) : Inj m f := fun i j h => by
  obtain ⟨q, hq⟩ := Int.dvd_of_emod_eq_zero h
  have := hi j (i + m * q) (by rw [per_q pf]; omega)
  rw [this, show i + m * q - i = m * q by omega]
  exact Int.mul_emod_right m q
theorem small_mod {m : Nat} {i j : Nat} (hi : i < m) (hj : j < m) (h : i ≠ j) : ((j : Int) - (i : Int)) % (m : Int) ≠ 0 := fun z => by
  obtain ⟨q, hq⟩ := Int.dvd_of_emod_eq_zero z
  rcases Int.lt_trichotomy q 0 with w | w | w
  · have := Int.mul_le_mul_of_nonneg_left (show q ≤ -1 by omega) (show (0 : Int) ≤ m by omega)
    omega
  · rw [w, Int.mul_zero] at hq
    omega
  · have := Int.mul_le_mul_of_nonneg_left (show 1 ≤ q by omega) (show (0 : Int) ≤ m by omega)
    omega
def sq2 (m : Nat) (f : Int → Int) : Int := sqr m fun i j => ab (dd m f i j)
theorem sq2_falls {m : Nat} (hm : 1 ≤ m) {f : Int → Int} (I : Inj m f) : sq2 m f = 2 * fallsR m f := by
  unfold sq2
  rw [sqr_tri m fun i j hi hj ne => by
    have h2 := small_mod hi hj ne
    have h1 : (f (j : Int) - f (i : Int)) % (m : Int) ≠ 0 := fun z => h2 (I _ _ z)
    rw [dd_sym (by omega) h1 h2, ab_neg]]
  congr 1
  unfold tri fallsR tri
  refine sumL_congr fun j hj => sumL_congr fun i hi => ?_
  have := List.mem_range.mp hj
  have := List.mem_range.mp hi
  show ab (dd m f i j) = ab _
  rw [dd_in (by omega) (by omega)]
theorem nodup_perm2 {l m : List Nat} (hl : l.Nodup) (hm : m.Nodup) (h : ∀ x, x ∈ l ↔ x ∈ m) : l.Perm m := (List.perm_ext_iff_of_nodup hl hm).mpr h
theorem invol_perm {n : Nat} {s : Nat → Nat} (h1 : ∀ i, i < n → s i < n) (h2 : ∀ i, i < n → s (s i) = i) : ((List.range n).map s).Perm (List.range n) := by
  refine nodup_perm2 ?_ List.nodup_range fun q => ?_
  · refine List.pairwise_map.mpr (List.Pairwise.imp_of_mem (fun {a b} ha hb ne e => ne ?_) List.nodup_range)
    have ha := h2 a (List.mem_range.mp ha)
    have hb := h2 b (List.mem_range.mp hb)
    rw [e] at ha
    omega
  · rw [List.mem_map, List.mem_range]
    constructor
    · rintro ⟨p, hp, rfl⟩
      exact h1 p (List.mem_range.mp hp)
    · intro hq
      exact ⟨s q, List.mem_range.mpr (h1 q hq), h2 q hq⟩
theorem sw_per {m : Int} {M : Int → Bool} {f : Int → Int} (pM : PerM m M) (pf : Per m f) : Per m (sw M f) := fun i => by
  unfold sw
  rw [pM i, show i + m + 1 = (i + 1) + m by omega, show i + m - 1 = (i - 1) + m by omega, pM (i - 1), pf i, pf (i + 1), pf (i - 1)]
  split
  · split <;> split <;> omega
  · split
    · split <;> split <;> omega
    · omega
theorem sw_near (M : Int → Bool) (f : Int → Int) (i : Int) : i - 1 ≤ sw M f i ∧ sw M f i ≤ i + 1 := by
  unfold sw
  split
  · split <;> omega
  · split
    · split <;> omega
    · omega
theorem sw_moved {M : Int → Bool} {f : Int → Int} {i : Int} (h : sw M f i ≠ i) : M i = true ∨ M (i - 1) = true := by
  unfold sw at h
  by_cases a : M i = true
  · exact .inl a
  · rw [if_neg a] at h
    by_cases b : M (i - 1) = true
    · exact .inr b
    · rw [if_neg b] at h
      exact absurd rfl h
theorem at_most {l : List Nat} (nd : l.Nodup) (p : Nat → Prop) [DecidablePred p] (h : ∀ x ∈ l, ∀ y ∈ l, p x → p y → x = y) : sumL l (fun x => if p x then 1 else 0) ≤ 1 := by
  induction l with
  | nil => exact (by decide : (0 : Int) ≤ 1)
  | cons x l ih =>
    rw [sumL_cons]
    rw [List.nodup_cons] at nd
    by_cases z : p x
    · rw [if_pos z, show sumL l (fun x => if p x then (1 : Int) else 0) = sumL l fun _ => 0 from sumL_congr fun y hy => if_neg fun w => nd.1 (by rw [h x (List.mem_cons_self ..) y (List.mem_cons_of_mem _ hy) z w]; exact hy), sumL_zero]
      omega
    · rw [if_neg z]
      have := ih nd.2 fun a ha b hb => h a (List.mem_cons_of_mem _ ha) b (List.mem_cons_of_mem _ hb)
      omega
theorem sumL_le {α : Type} {f g : α → Int} : ∀ {l : List α}, (∀ x ∈ l, f x ≤ g x) → sumL l f ≤ sumL l g
  | [], _ => Int.le_refl _
  | x :: l, h => by
    rw [sumL_cons, sumL_cons]
    have := h x (List.mem_cons_self ..)
    have := sumL_le (l := l) fun y hy => h y (List.mem_cons_of_mem _ hy)
    omega
/-- the places of a period at which an exchange may be -/
def cntM (m : Nat) (M : Int → Bool) : Int := sumL (List.range m) fun (i : Nat) => if M (i : Int) = true then 1 else 0
theorem cntM_back {m : Nat} (hm : 1 ≤ m) {M : Int → Bool} (pM : PerM m M) : sumL (List.range m) (fun (i : Nat) => if M ((i : Int) - 1) = true then (1 : Int) else 0) = cntM m M := by
  have t := tele (fun i => if M i = true then (1 : Int) else 0) m
  have p := pM (-1)
  rw [show (-1 : Int) + m = (m : Int) - 1 by omega] at p
  rw [p] at t
  have e : sumL (List.range m) (fun (i : Nat) => if M (i : Int) = true then (1 : Int) else 0) = sumL (List.range m) (fun (i : Nat) => (if M ((i : Int) - 1) = true then (1 : Int) else 0) + ((if M (i : Int) = true then (1 : Int) else 0) - if M ((i : Int) - 1) = true then (1 : Int) else 0)) := sumL_congr fun i _ => by omega
  unfold cntM
  rw [e, sumL_add, t]
  omega
theorem div_near {m : Int} (hm : 2 ≤ m) {x y : Int} (h1 : x - 2 ≤ y) (h2 : y ≤ x + 2) : x / m - 1 ≤ y / m ∧ y / m ≤ x / m + 1 := by
  have m0 : 0 < m := by omega
  have a := qlo m0 x
  have b := qhi m0 x
  have c := qlo m0 y
  have d := qhi m0 y
  constructor
  · refine qle m0 ?_
    rw [Int.mul_sub]
    omega
  · refine qle m0 ?_
    rw [Int.mul_add]
    omega
/-- the order of two classes changes only where they are exchanged -/
theorem swap_only {m : Int} (hm : 2 ≤ m) {M : Int → Bool} {f : Int → Int} (I : Inj m (sw M f)) {i j : Int} (hij : (j - i) % m ≠ 0) :
    ab ((sw M f j - sw M f i) / m - (j - i) / m) ≤ if sw M f i ≠ i ∧ (j - sw M f i) % m = 0 then 1 else 0 := by
  have m0 : 0 < m := by omega
  have n1 := sw_near M f i
  have n2 := sw_near M f j
  have dn := div_near hm (x := j - i) (y := sw M f j - sw M f i) (by omega) (by omega)
  have hs : (sw M f j - sw M f i) % m ≠ 0 := fun z => hij (I _ _ z)
  by_cases e : (sw M f j - sw M f i) / m = (j - i) / m
  · rw [e, show (j - i) / m - (j - i) / m = 0 by omega]
    show (0 : Int) ≤ _
    split <;> omega
  · have one : ab ((sw M f j - sw M f i) / m - (j - i) / m) ≤ 1 := by
      unfold ab
      omega
    have a := qlo m0 (j - i)
    have b := qhi m0 (j - i)
    have c := qlo m0 (sw M f j - sw M f i)
    have d := qhi m0 (sw M f j - sw M f i)
    have nz : m * ((j - i) / m) ≠ j - i := fun z => hij (by rw [← z]; exact Int.mul_emod_right _ _)
    have nz2 : m * ((sw M f j - sw M f i) / m) ≠ sw M f j - sw M f i := fun z => hs (by rw [← z]; exact Int.mul_emod_right _ _)
    have fin : sw M f i ≠ i ∧ (j - sw M f i) % m = 0 := by
      rcases Int.lt_or_lt_of_ne e with w | w
      · have e2 : (sw M f j - sw M f i) / m = (j - i) / m - 1 := by omega
        rw [e2, Int.mul_sub, Int.mul_one] at d
        have : sw M f i = i + 1 ∧ m * ((j - i) / m) = j - (i + 1) := by omega
        refine ⟨by omega, ?_⟩
        rw [this.1, ← this.2]
        exact Int.mul_emod_right _ _
      · have e2 : (sw M f j - sw M f i) / m = (j - i) / m + 1 := by omega
        rw [e2, Int.mul_add, Int.mul_one] at c nz2
        have : sw M f i = i - 1 ∧ m * ((j - i) / m) + m = j - (i - 1) := by omega
        refine ⟨by omega, ?_⟩
        rw [this.1, ← this.2, show m * ((j - i) / m) + m = m * ((j - i) / m + 1) by rw [Int.mul_add, Int.mul_one]]
        exact Int.mul_emod_right _ _
    rw [if_pos fin]
    exact one
/-- one ring adds so much at the most -/
theorem falls_step {m : Nat} (hm : 2 ≤ m) {M : Int → Bool} {f : Int → Int} (S : Sparse M) (pM : PerM m M) (pf : Per m f) (hi : ∀ i j, f i = f j → i = j) (hi2 : ∀ i j, stepP M f i = stepP M f j → i = j) : fallsR m (stepP M f) ≤ fallsR m f + cntM m M := by
  have m0 : (0 : Int) < m := by omega
  have I1 := inj_of pf hi
  have I2 := inj_of (per_step pM pf) hi2
  have sp := sw_per pM pf
  have I3 : Inj m (sw M f) := inj_of sp fun i j e => by
    have := sw_sw S f i
    rw [e, sw_sw S f j] at this
    exact this.symm
  have r1 := sq2_falls (by omega) I1
  have r2 := sq2_falls (by omega) I2
  -- the places, changed
  obtain ⟨s, hs⟩ : ∃ s : Nat → Nat, ∀ i, s i = (sw M f (i : Int) % (m : Int)).toNat := ⟨fun i => (sw M f (i : Int) % (m : Int)).toNat, fun _ => rfl⟩
  have sv : ∀ i, (s i : Int) = sw M f (i : Int) + m * (-(sw M f (i : Int) / (m : Int))) := fun i => by
    have a := Int.emod_nonneg (sw M f (i : Int)) (show (m : Int) ≠ 0 by omega)
    have b := Int.mul_ediv_add_emod (sw M f (i : Int)) m
    rw [hs, Int.toNat_of_nonneg a, Int.mul_neg]
    omega
  have s1 : ∀ i, i < m → s i < m := fun i _ => by
    have a := Int.emod_nonneg (sw M f (i : Int)) (show (m : Int) ≠ 0 by omega)
    have b := Int.emod_lt_of_pos (sw M f (i : Int)) m0
    rw [hs]
    omega
  have s2 : ∀ i, i < m → s (s i) = i := fun i hi => by
    rw [hs, sv i, per_q sp, sw_sw S, Int.add_mul_emod_self_left, Int.emod_eq_of_lt (by omega) (by omega)]
    rfl
  have pm := invol_perm s1 s2
  have sne : ∀ i j, i < m → j < m → i ≠ j → s i ≠ s j := fun i j a b c d => c (by rw [← s2 i a, d, s2 j b])
  have same : sqr m (fun i j => ab (dd m f (s i) (s j))) = sq2 m f := by
    unfold sq2 sqr
    refine Eq.trans ?_ (sumL_perm _ pm)
    rw [sumL_map]
    refine sumL_congr fun i hi => ?_
    refine Eq.trans ?_ (sumL_perm _ pm)
    rw [sumL_map]
    refine sumL_congr fun j hj => ?_
    have hi := List.mem_range.mp hi
    have hj := List.mem_range.mp hj
    by_cases e : i = j
    · rw [if_pos e, if_pos (by rw [e])]
    · rw [if_neg e, if_neg (sne i j hi hj e)]
  have key : sq2 m (stepP M f) ≤ sq2 m f + sumL (List.range m) (fun (i : Nat) => sumL (List.range m) fun (j : Nat) => if sw M f (i : Int) ≠ i ∧ ((j : Int) - sw M f (i : Int)) % (m : Int) = 0 then 1 else 0) := by
    rw [← same]
    unfold sq2 sqr
    rw [← sumL_add]
    refine sumL_le fun i hi => ?_
    rw [← sumL_add]
    refine sumL_le fun j hj => ?_
    have hi := List.mem_range.mp hi
    have hj := List.mem_range.mp hj
    by_cases e : i = j
    · rw [if_pos e, if_pos e]
      split <;> omega
    · rw [if_neg e, if_neg e]
      have sm := small_mod hi hj e
      have so := swap_only (show (2 : Int) ≤ m by omega) I3 sm
      have e2 : dd m (stepP M f) i j = dd m f (s i) (s j) + ((sw M f (j : Int) - sw M f (i : Int)) / (m : Int) - ((j : Int) - (i : Int)) / (m : Int)) := by
        rw [sv i, sv j, dd_mod m0 pf]
        unfold dd
        rw [step_sw, step_sw]
        omega
      have := ab_add (dd m f (s i) (s j)) ((sw M f (j : Int) - sw M f (i : Int)) / (m : Int) - ((j : Int) - (i : Int)) / (m : Int))
      rw [← e2] at this
      dsimp only
      omega
  have cnt : sumL (List.range m) (fun (i : Nat) => sumL (List.range m) fun (j : Nat) => if sw M f (i : Int) ≠ i ∧ ((j : Int) - sw M f (i : Int)) % (m : Int) = 0 then (1 : Int) else 0) ≤ 2 * cntM m M := by
    have b := cntM_back (by omega) pM
    have : sumL (List.range m) (fun (i : Nat) => sumL (List.range m) fun (j : Nat) => if sw M f (i : Int) ≠ i ∧ ((j : Int) - sw M f (i : Int)) % (m : Int) = 0 then (1 : Int) else 0) ≤ sumL (List.range m) (fun (i : Nat) => (if M (i : Int) = true then (1 : Int) else 0) + if M ((i : Int) - 1) = true then (1 : Int) else 0) := sumL_le fun i hi => by
      by_cases mv : sw M f (i : Int) ≠ i
      · have le1 := at_most List.nodup_range (fun (j : Nat) => sw M f (i : Int) ≠ i ∧ ((j : Int) - sw M f (i : Int)) % (m : Int) = 0) (l := List.range m) fun x hx y hy px py => by
          refine Classical.byContradiction fun ne => small_mod (List.mem_range.mp hx) (List.mem_range.mp hy) ne ?_
          obtain ⟨p, hp⟩ := Int.dvd_of_emod_eq_zero px.2
          obtain ⟨q, hq⟩ := Int.dvd_of_emod_eq_zero py.2
          rw [show (y : Int) - (x : Int) = m * (q - p) by rw [Int.mul_sub]; omega]
          exact Int.mul_emod_right _ _
        rcases sw_moved mv with z | z
        · rw [if_pos z]
          split <;> omega
        · rw [if_pos z]
          split <;> omega
      · rw [show sumL (List.range m) (fun (j : Nat) => if sw M f (i : Int) ≠ i ∧ ((j : Int) - sw M f (i : Int)) % (m : Int) = 0 then (1 : Int) else 0) = sumL (List.range m) fun _ => 0 from sumL_congr fun j _ => if_neg fun z => mv z.1, sumL_zero]
        split <;> split <;> omega
    rw [sumL_add, b] at this
    unfold cntM at this b ⊢
    omega
  omega
theorem ab_zero {m : Nat} (e : Int) : fallsR m (fun i => i + e) = 0 := by
  unfold fallsR tri
  rw [show sumL (List.range m) (fun (j : Nat) => sumL (List.range j) fun (i : Nat) => ab (((j : Int) + e - ((i : Int) + e)) / (m : Int))) = sumL (List.range m) fun _ => 0 from sumL_congr fun j hj => by
    rw [show sumL (List.range j) (fun (i : Nat) => ab (((j : Int) + e - ((i : Int) + e)) / (m : Int))) = sumL (List.range j) fun _ => 0 from sumL_congr fun i hi => by
      have := List.mem_range.mp hj
      have := List.mem_range.mp hi
      rw [show (j : Int) + e - ((i : Int) + e) = (j : Int) - i by omega, Int.ediv_eq_zero_of_lt (by omega) (by omega)]
      rfl, sumL_zero], sumL_zero]
theorem bij_inj {f : Int → Int} (B : Bij f) : ∀ i j, f i = f j → i = j := fun _ _ h => B.inj h
theorem falls_pmap {m : Nat} (hm : 2 ≤ m) {e : Int} : ∀ Ms : List (Int → Bool), (∀ M ∈ Ms, Sparse M ∧ PerM m M) → fallsR m (pmap Ms fun i => i + e) ≤ sumL Ms (cntM m)
  | [], _ => by
    show fallsR m (fun i => i + e) ≤ 0
    rw [ab_zero]
    omega
  | M :: Ms, h => by
    obtain ⟨h1, h2⟩ := h M (List.mem_cons_self ..)
    have hr := fun N hN => h N (List.mem_cons_of_mem _ hN)
    have ih := falls_pmap hm (e := e) Ms hr
    have b1 := bij_pmap (e := e) Ms fun N hN => (hr N hN).1
    have st := falls_step hm h1 h2 (per_pmap (e := e) Ms fun N hN => (hr N hN).2) (bij_inj b1) (bij_inj (bij_step h1 b1))
    rw [sumL_cons]
    show fallsR m (stepP M (pmap Ms fun i => i + e)) ≤ _
    omega
/-- steps of k: so many in a period -/
theorem cnt_steps {M : Int → Bool} {c : Int} {k : Nat} (hk : 1 ≤ k) (per : ∀ i, M i = true → (i - c) % (k : Int) = 0) : ∀ q : Nat, cntM (k * q) M ≤ q
  | 0 => by
    rw [Nat.mul_zero]
    exact Int.le_refl _
  | q + 1 => by
    have ih := cnt_steps hk per q
    unfold cntM at ih ⊢
    rw [Nat.mul_add, Nat.mul_one, List.range_add, sumL_app, sumL_map]
    have := at_most (l := List.range k) List.nodup_range (fun (x : Nat) => M (((k * q + x : Nat)) : Int) = true) fun x hx y hy px py => by
      refine Classical.byContradiction fun ne => small_mod (List.mem_range.mp hx) (List.mem_range.mp hy) ne ?_
      obtain ⟨p, hp⟩ := Int.dvd_of_emod_eq_zero (per _ px)
      obtain ⟨t, ht⟩ := Int.dvd_of_emod_eq_zero (per _ py)
      rw [show (y : Int) - (x : Int) = k * (t - p) by rw [Int.mul_sub]; omega]
      exact Int.mul_emod_right _ _
    omega
end K1

namespace K1
open PySem PySem.Spec PyProof.Rows L2 Evl HM LX MP
/-! the map of a class is a round map for every multiple of its rings' orders -/
def ordJ (rs : List (Int × Int)) (j : Nat) : Nat := K1M.ord (K1N.nAt rs j) (K1N.sAt rs j).natAbs
theorem mL_round {rs : List (Int × Int)} {ps : List Int} {j m : Nat} (hn : 1 ≤ K1N.nAt rs j) (hs : 0 ≤ K1N.sAt rs j) (hd : ordJ rs j ∣ m) : PerM m (mL rs ps j) := fun i => by
  by_cases h : ∃ c, mL rs ps j c = true
  · obtain ⟨c, hc⟩ := h
    have p1 := mL_per hn hs hc i
    have p2 := mL_per hn hs hc (i + m)
    obtain ⟨q, hq⟩ := hd
    have e : (i + (m : Int) - c) % (ordJ rs j : Int) = (i - c) % (ordJ rs j : Int) := by
      rw [show i + (m : Int) - c = (i - c) + (ordJ rs j : Int) * (q : Int) by rw [hq, Int.natCast_mul]; omega, Int.add_mul_emod_self_left]
    unfold ordJ at e
    rw [e, ← p1] at p2
    cases a : mL rs ps j (i + m) <;> cases b : mL rs ps j i <;> simp_all
  · have no : ∀ c, mL rs ps j c = false := fun c => by
      cases z : mL rs ps j c with
      | false => rfl
      | true => exact absurd ⟨c, z⟩ h
    rw [no, no]
theorem mL_cnt {rs : List (Int × Int)} {ps : List Int} {j m : Nat} (hn : 1 ≤ K1N.nAt rs j) (hs : 0 ≤ K1N.sAt rs j) (hd : ordJ rs j ∣ m) : cntM m (mL rs ps j) ≤ ((m / ordJ rs j : Nat) : Int) := by
  have op : 0 < ordJ rs j := K1M.ord_pos hn
  by_cases h : ∃ c, mL rs ps j c = true
  · obtain ⟨c, hc⟩ := h
    obtain ⟨q, rfl⟩ := hd
    rw [Nat.mul_div_cancel_left _ op]
    exact cnt_steps (c := c) op (fun i hi => (mL_per hn hs hc i).mp hi) q
  · have no : ∀ c, mL rs ps j c = false := fun c => by
      cases z : mL rs ps j c with
      | false => rfl
      | true => exact absurd ⟨c, z⟩ h
    unfold cntM
    rw [show sumL (List.range m) (fun (i : Nat) => if mL rs ps j (i : Int) = true then (1 : Int) else 0) = sumL (List.range m) fun _ => 0 from sumL_congr fun i _ => by rw [no]; rfl, sumL_zero]
    exact Int.natCast_nonneg _
def RoundOk (rs : List (Int × Int)) (g m : Nat) : Prop := ∀ j, j < g → ordJ rs j ∣ m
theorem mls_all {rs : List (Int × Int)} {ps : List Int} {g m : Nat} (ok : RsOk rs g) (ro : RoundOk rs g m) : ∀ k i, i + k ≤ g → ∀ M ∈ mls rs ps k i, Sparse M ∧ PerM m M
  | 0, _, _, M, h => absurd h (by simp [mls])
  | k + 1, i, hi, M, h => by
    rcases List.mem_cons.mp h with e | h2
    · subst e
      obtain ⟨o1, o2⟩ := ok i (by omega)
      exact ⟨mL_sparse o1 o2, mL_round (by omega) (by omega) (ro i (by omega))⟩
    · exact mls_all ok ro k (i + 1) (by omega) M h2
theorem mls_cnt {rs : List (Int × Int)} {ps : List Int} {g m : Nat} (ok : RsOk rs g) (ro : RoundOk rs g m) : ∀ k i, i + k ≤ g → sumL (mls rs ps k i) (cntM m) ≤ sumL (List.range k) fun j => ((m / ordJ rs (i + j) : Nat) : Int)
  | 0, _, _ => Int.le_refl _
  | k + 1, i, hi => by
    obtain ⟨o1, o2⟩ := ok i (by omega)
    have ih := mls_cnt (ps := ps) ok ro k (i + 1) (by omega)
    have c := mL_cnt (ps := ps) (show 1 ≤ K1N.nAt rs i by omega) (by omega) (ro i (by omega))
    rw [List.range_succ_eq_map, sumL_cons, sumL_map]
    show sumL (mL rs ps i :: mls rs ps k (i + 1)) (cntM m) ≤ ((m / ordJ rs i : Nat) : Int) + sumL (List.range k) fun j => ((m / ordJ rs (i + (j + 1)) : Nat) : Int)
    rw [sumL_cons, show (sumL (List.range k) fun j => ((m / ordJ rs (i + (j + 1)) : Nat) : Int)) = sumL (List.range k) fun j => ((m / ordJ rs (i + 1 + j) : Nat) : Int) from sumL_congr fun j _ => by rw [show i + (j + 1) = i + 1 + j by omega]]
    omega
theorem fm_per {rs : List (Int × Int)} {ps : List Int} {m : Nat} (ok : RsOk rs ps.length) (ro : RoundOk rs ps.length m) (tot : Int) : Per m (fm rs ps tot) := per_pmap _ fun M hM => (mls_all ok ro _ 0 (by omega) M hM).2
theorem fm_sum {rs : List (Int × Int)} {ps : List Int} {m : Nat} (ok : RsOk rs ps.length) (ro : RoundOk rs ps.length m) (tot : Int) : sumL (List.range m) (fun (i : Nat) => fm rs ps tot (i : Int)) = sumL (List.range m) (fun (i : Nat) => (i : Int)) + (m : Int) * (tot - ps.length) := by
  unfold fm
  rw [sum_pmap _ fun M hM => mls_all ok ro _ 0 (by omega) M hM, sumL_add, show sumL (List.range m) (fun _ => tot - (ps.length : Int)) = sumL (List.range m) (fun _ => (tot - (ps.length : Int)) * 1) from sumL_congr fun _ _ => (Int.mul_one _).symm, sumL_mul, sumL_one, List.length_range, Int.mul_comm]
theorem fm_falls {rs : List (Int × Int)} {ps : List Int} {m : Nat} (hm : 2 ≤ m) (ok : RsOk rs ps.length) (ro : RoundOk rs ps.length m) (tot : Int) : fallsR m (fm rs ps tot) ≤ sumL (List.range ps.length) fun j => ((m / ordJ rs j : Nat) : Int) := by
  have a := falls_pmap hm (e := tot - ps.length) (mls rs ps ps.length 0) fun M hM => mls_all ok ro _ 0 (by omega) M hM
  have b := mls_cnt (ps := ps) ok ro ps.length 0 (by omega)
  rw [show (sumL (List.range ps.length) fun j => ((m / ordJ rs (0 + j) : Nat) : Int)) = sumL (List.range ps.length) fun j => ((m / ordJ rs j : Nat) : Int) from sumL_congr fun j _ => by rw [Nat.zero_add]] at b
  unfold fm
  omega
theorem fm_count {rs : List (Int × Int)} {ps : List Int} {m : Nat} (hm : 1 ≤ m) (ok : RsOk rs ps.length) (ro : RoundOk rs ps.length m) (tot a b : Int) : cntR m (fm rs ps tot) a b = hh rs ps tot a b :=
  cnt_all hm (fm_per ok ro tot) (fun i => (fm_bound rs ps tot i).2) (h := fun a => hh rs ps tot a b) (fun a => hh_step ok tot a b) (fun a ha => hh_low ha) a
theorem fm_inj {rs : List (Int × Int)} {ps : List Int} {m : Nat} (ok : RsOk rs ps.length) (ro : RoundOk rs ps.length m) (tot : Int) : Inj m (fm rs ps tot) := inj_of (fm_per ok ro tot) (bij_inj (fm_bij ok tot))
/-- the rests of its values are all rests -/
theorem fm_rests {rs : List (Int × Int)} {ps : List Int} {m : Nat} (hm : 1 ≤ m) (ok : RsOk rs ps.length) (ro : RoundOk rs ps.length m) (tot : Int) : ((List.range m).map fun (i : Nat) => fm rs ps tot (i : Int) % (m : Int)).Perm ((List.range m).map fun (i : Nat) => (i : Int)) := by
  have m0 : (0 : Int) < m := by omega
  have I := fm_inj ok ro tot
  have sub : ∀ x ∈ (List.range m).map (fun (i : Nat) => fm rs ps tot (i : Int) % (m : Int)), x ∈ (List.range m).map fun (i : Nat) => (i : Int) := fun x hx => by
    obtain ⟨i, _, rfl⟩ := List.mem_map.mp hx
    have a := Int.emod_nonneg (fm rs ps tot (i : Int)) (show (m : Int) ≠ 0 by omega)
    have b := Int.emod_lt_of_pos (fm rs ps tot (i : Int)) m0
    exact List.mem_map.mpr ⟨(fm rs ps tot (i : Int) % (m : Int)).toNat, List.mem_range.mpr (by omega), by omega⟩
  have nd : ((List.range m).map fun (i : Nat) => fm rs ps tot (i : Int) % (m : Int)).Nodup := by
    refine List.pairwise_map.mpr (List.Pairwise.imp_of_mem (fun {a b} ha hb ne e => ?_) List.nodup_range)
    refine small_mod (List.mem_range.mp ha) (List.mem_range.mp hb) ne (I _ _ ?_)
    rw [Int.sub_emod, e, Int.sub_self]
    rfl
  refine (List.perm_ext_iff_of_nodup nd (List.pairwise_map.mpr (List.Pairwise.imp (fun {a b} ne e => ne (by omega)) List.nodup_range))).mpr fun x => ⟨sub x, fun hx => ?_⟩
  obtain ⟨r, hr, rfl⟩ := List.mem_map.mp hx
  have hr := List.mem_range.mp hr
  obtain ⟨i, hi, _⟩ := fm_bij ok tot (r : Int)
  have a := Int.emod_nonneg i (show (m : Int) ≠ 0 by omega)
  have b := Int.emod_lt_of_pos i m0
  have c := Int.mul_ediv_add_emod i m
  refine List.mem_map.mpr ⟨(i % (m : Int)).toNat, List.mem_range.mpr (by omega), ?_⟩
  rw [Int.toNat_of_nonneg a, show i % (m : Int) = i + m * (-(i / (m : Int))) by rw [Int.mul_neg]; omega, per_q (fm_per ok ro tot), hi, Int.add_mul_emod_self_left, Int.emod_eq_of_lt (by omega) (by omega)]
end K1

/-! own rule: sum of a tuple of ints -/
namespace ST
open PySem PySem.Spec PyProof.Rows L2
section
variable {prog : Program} {w : World} {A : Around} {E : Value → Shared → Prop} {s : Shared} {l : Addr}
theorem sum_tup {xs : Array (Int × Tok)} {Q : Value → Shared → Prop} (hh : A.handled = none) (hl : s.heap.IsTuple l (intItems xs))
    (h : ∀ h' tk t', (∀ b o, s.heap.get? b = some o → h'.get? b = some o) → Q (.int (preSum (numAt xs) xs.size) t') { s with heap := h', toks := tk }) :
    wpAny (model prog w) A (call (.builtin "sum") [.ref l]) Q E s := by
  have hlt : l < s.heap.objs.size := by
    obtain ⟨_, e, _⟩ := hl
    exact Heap.lt_size e
  refine call_sum_walkG (wpAny_pyIter_tuple hl ?_)
  refine ⟨_, _, _, _, _, _, numAt xs, rfl, Walks.tuple (A := A.in1) hh s.heap.objs.size l (Nat.ne_of_lt hlt) (intItems xs), ⟨⟨_, Heap.get?_push_size _ rfl, rfl, rfl⟩, hl.push _⟩, fun b hb => ?_, (fun _ _ => intItems_at), fun h' tk t' hk => ?_⟩
  · show b < (s.heap.push _).objs.size
    rw [Heap.size_push]
    rcases List.mem_cons.mp hb with rfl | hb
    · exact Nat.lt_succ_self _
    · rcases List.mem_cons.mp hb with rfl | hb
      · exact Nat.lt_succ_of_lt hlt
      · cases hb
  · have := h h' tk t' fun b o e => by
      refine hk b o (fun hm => ?_) (Heap.get?_push_of_some _ e)
      rcases List.mem_cons.mp hm with e1 | hm
      · exact absurd (e1 ▸ Heap.lt_size e) (Nat.lt_irrefl _)
      · cases hm
    simpa [intItems] using this
theorem sum_tupR {its : List Value} {ns : List Int} {Q : Value → Shared → Prop} (hh : A.handled = none) (hl : s.heap.IsTuple l its.toArray) (hi : IntsAre its ns)
    (h : ∀ h' tk t', (∀ b o, s.heap.get? b = some o → h'.get? b = some o) → Q (.int ns.sum t') { s with heap := h', toks := tk }) : wpAny (model prog w) A (call (.builtin "sum") [.ref l]) Q E s := by
  obtain ⟨xs, e⟩ := hi.allInts.items
  have hn : numsOf (intItems xs).toList = ns := by rw [← e]; exact hi.numsOf
  rw [nums_intItems] at hn
  rw [e] at hl
  refine sum_tup hh hl fun h' tk t' hk => ?_
  have := h h' tk t' hk
  rw [preSum_eq, List.take_of_length_le (by simp), hn]
  exact this
end
section
variable {X : Cx}
def rSumT (K : PySem.W.Frag) : List V → Hp → VK → Prop := fun vs H Q => ∃ (a : Addr) (ns : List Int), vs = [V.ref a] ∧ SqT K H a (ns.map V.int) ∧ Q (.int ns.sum) H
theorem cr_sumT (hc : X.calm = true) : CallR X (.builtin "sum") (rSumT X.K) := by
  intro pins s σ H vs us Q I r h
  obtain ⟨a, ns, rfl, hs, q⟩ := h
  obtain ⟨its, rv, hl, _⟩ := I.tuple hs
  rw [Vals.ref1 r]
  exact sum_tupR (I.ok.hd hc) hl rv.ints fun h' tk t' hk => ⟨.int _, H, I.kept hk, ⟨_, rfl⟩, q⟩
end
end ST

/-! own rule: sum of a range object from 0 on -/
namespace SR
open PySem PySem.Spec PyProof.Rows L2
theorem size0 {n : Nat} (h : n ≤ 1000) : Builtin.Range.rangeSize 0 n 1 = n := by
  unfold Builtin.Range.rangeSize
  split <;> omega
theorem pre_list : ∀ n : Nat, preSum (fun i => (i : Int)) n = ((List.range n).map fun (i : Nat) => (i : Int)).sum
  | 0 => rfl
  | n + 1 => by
    rw [List.range_succ, List.map_append, List.sum_append, ← pre_list n]
    show preSum (fun i => (i : Int)) n + (n : Int) = preSum (fun i => (i : Int)) n + ((n : Int) + 0)
    omega
section
variable {prog : Program} {w : World} {A : Around} {E : Value → Shared → Prop} {s : Shared} {a : Addr}
theorem sum_rng {n : Nat} {t u v : Tok} {Q : Value → Shared → Prop} (hh : A.handled = none) (hn : n ≤ 1000) (hl : IsRange s.heap a 0 n 1 t u v)
    (h : ∀ h' tk t', (∀ b o, s.heap.get? b = some o → h'.get? b = some o) → Q (.int (preSum (fun i => (i : Int)) n) t') { s with heap := h', toks := tk }) :
    wpAny (model prog w) A (call (.builtin "sum") [.ref a]) Q E s := by
  refine call_sum_walkG (wpAny_pyIter_range hl ?_ ?_)
  · unfold Builtin.Range.small
    rw [size0 hn]
    unfold Builtin.Range.rangeFitsLong
    simp only [Bool.and_eq_true, decide_eq_true_eq, Bool.or_eq_true, beq_iff_eq, gt_iff_lt]
    refine ⟨⟨⟨⟨?_, ?_⟩, ?_⟩, ?_⟩, ?_⟩
    all_goals first | omega | (right; rw [if_pos (by decide)]; simp only [Bool.and_eq_true, decide_eq_true_eq]; omega) | decide
  · refine ⟨_, _, _, _, _, _, fun i => (i : Int), rfl, Walks.range (A := A.in1) hh s.heap.objs.size 0 1 n, ?_, fun b hb => ?_, fun i v hv => ?_, fun h' tk t' hk => ?_⟩
    · show Heap.get? _ _ = _
      rw [size0 hn]
      rw [Heap.get?_push_size _ rfl]
      congr 5
    · show b < (s.heap.push _).objs.size
      rw [Heap.size_push, List.mem_singleton.mp hb]
      exact Nat.lt_succ_self _
    · obtain ⟨t, rfl⟩ := hv
      exact ⟨t, by rw [Int.mul_one, Int.zero_add]⟩
    · refine h h' tk t' fun b o e => ?_
      refine hk b o (fun hm => ?_) (Heap.get?_push_of_some _ e)
      exact absurd (List.mem_singleton.mp hm ▸ Heap.lt_size e) (Nat.lt_irrefl _)
end
section
variable {X : Cx}
def rSumR : List V → Hp → VK → Prop := fun vs H Q => ∃ (a : Addr) (n : Nat), vs = [V.ref a] ∧ H a = some (.rng 0 (n : Int)) ∧ n ≤ 1000 ∧ Q (.int ((List.range n).map fun (i : Nat) => (i : Int)).sum) H
theorem cr_sumR (hc : X.calm = true) : CallR X (.builtin "sum") rSumR := by
  intro pins s σ H vs us Q I r h
  obtain ⟨a, n, rfl, ha, hn, q⟩ := h
  obtain ⟨t, u, v, e⟩ := (show ObjOk X.prog X.w H s.heap a (.rng 0 (n : Int)) from I.hok a _ ha)
  rw [Vals.ref1 r]
  refine sum_rng (I.ok.hd hc) hn e fun h' tk t' hk => ⟨.int _, H, I.kept hk, ⟨_, rfl⟩, ?_⟩
  rw [pre_list]
  exact q
end
end SR

/-! own rules: a comprehension of two clauses, by two walks -/
namespace L2
open PySem PySem.Spec PyProof.Rows
section
variable {J : It} {n : Nat} {G : Hp → Prop} {Y : Nat → Hp → V → Hp → Prop}
/-- the outer clause: Pv by the turn and the heap (the new list at D within) -/
theorem lc2_out (w : Walk J n G Y) {g g1 : TG} {tt tt1 : TT} {wi1 : TI} {te : TE} {vs vs1 : List Nat} {σ : St} {H1 : Hp} {D : Addr} {Qd : Hp → Prop} (Pv : Nat → Hp → Prop) (h0 : Pv 0 (upd H1 D (.lst []))) (hG : ∀ i H, i ≤ n → Pv i H → G H)
    (hs : ∀ i x H H', i < n → Pv i H → Y i H x H' → g x (wipe σ vs) H' fun σ2 H2 => wipe σ2 vs = wipe σ vs ∧ tt σ2 H2 fun b H3 =>
      if b = true then wi1 σ2 H3 fun J1 H4 => ∃ W1 : Nat → Nat → Hp → Prop, (∃ m, W1 0 m H4) ∧ ∀ j k H, W1 j k H →
      (J1.stop j H ∧ Pv (i + 1) H) ∨ (J1.go j H ∧ ∃ Nx1 : Hp → Prop, (∀ H', Nx1 H' → ∃ k', k' < k ∧ W1 (j + 1) k' H') ∧ ∀ x H', J1.yld j H x H' → g1 x (wipe σ2 vs1) H' fun σ3 H5 => wipe σ3 vs1 = wipe σ2 vs1 ∧ tt1 σ3 H5 fun b H6 =>
        if b = true then te σ3 H6 fun y H7 => ∃ acc, H7 D = some (.lst acc) ∧ acc.length < sizeLine ∧ Nx1 (upd H7 D (.lst (acc ++ [y]))) else Nx1 H6)
      else Pv (i + 1) H3) (hd : ∀ H, Pv n H → Qd H) :
    ∃ W : Nat → Nat → Hp → Prop, (∃ m, W 0 m (upd H1 D (.lst []))) ∧ ∀ i m H, W i m H →
      (J.stop i H ∧ Qd H) ∨ (J.go i H ∧ ∃ Nx : Hp → Prop, (∀ H', Nx H' → ∃ m', m' < m ∧ W (i + 1) m' H') ∧ ∀ x H', J.yld i H x H' → g x (wipe σ vs) H' fun σ2 H2 => wipe σ2 vs = wipe σ vs ∧ tt σ2 H2 fun b H3 =>
        if b = true then wi1 σ2 H3 fun J1 H4 => ∃ W1 : Nat → Nat → Hp → Prop, (∃ m, W1 0 m H4) ∧ ∀ j k H, W1 j k H →
      (J1.stop j H ∧ Nx H) ∨ (J1.go j H ∧ ∃ Nx1 : Hp → Prop, (∀ H', Nx1 H' → ∃ k', k' < k ∧ W1 (j + 1) k' H') ∧ ∀ x H', J1.yld j H x H' → g1 x (wipe σ2 vs1) H' fun σ3 H5 => wipe σ3 vs1 = wipe σ2 vs1 ∧ tt1 σ3 H5 fun b H6 =>
        if b = true then te σ3 H6 fun y H7 => ∃ acc, H7 D = some (.lst acc) ∧ acc.length < sizeLine ∧ Nx1 (upd H7 D (.lst (acc ++ [y]))) else Nx1 H6)
        else Nx H3) := by
  refine ⟨fun i m H => m = n - i ∧ i ≤ n ∧ Pv i H, ⟨n, by simp, Nat.zero_le _, h0⟩, ?_⟩
  rintro i m H ⟨rfl, hi, p⟩
  have q := hG i H hi p
  by_cases hlt : i < n
  · refine .inr ⟨w.goes i H hlt q, Pv (i + 1), fun H' p' => ⟨n - (i + 1), by omega, rfl, hlt, p'⟩, fun x H' y => hs i x H H' hlt p (w.yields i H x H' hlt q y)⟩
  · have e : i = n := by omega
    subst e
    exact .inl ⟨w.stops H q, hd H p⟩
/-- the inner clause -/
theorem lc2_in {J1 : It} {n1 : Nat} {G1 : Hp → Prop} {Y1 : Nat → Hp → V → Hp → Prop} (w : Walk J1 n1 G1 Y1) {g1 : TG} {tt1 : TT} {te : TE} {vs1 : List Nat} {σ2 : St} {H4 : Hp} {D : Addr} {Nx : Hp → Prop} (Pv : Nat → Hp → Prop) (h0 : Pv 0 H4) (hG : ∀ i H, i ≤ n1 → Pv i H → G1 H)
    (hs : ∀ j x H H', j < n1 → Pv j H → Y1 j H x H' → g1 x (wipe σ2 vs1) H' fun σ3 H5 => wipe σ3 vs1 = wipe σ2 vs1 ∧ tt1 σ3 H5 fun b H6 =>
        if b = true then te σ3 H6 fun y H7 => ∃ acc, H7 D = some (.lst acc) ∧ acc.length < sizeLine ∧ Pv (j + 1) (upd H7 D (.lst (acc ++ [y]))) else Pv (j + 1) H6) (hd : ∀ H, Pv n1 H → Nx H) :
    ∃ W1 : Nat → Nat → Hp → Prop, (∃ m, W1 0 m H4) ∧ ∀ j k H, W1 j k H →
      (J1.stop j H ∧ Nx H) ∨ (J1.go j H ∧ ∃ Nx1 : Hp → Prop, (∀ H', Nx1 H' → ∃ k', k' < k ∧ W1 (j + 1) k' H') ∧ ∀ x H', J1.yld j H x H' → g1 x (wipe σ2 vs1) H' fun σ3 H5 => wipe σ3 vs1 = wipe σ2 vs1 ∧ tt1 σ3 H5 fun b H6 =>
        if b = true then te σ3 H6 fun y H7 => ∃ acc, H7 D = some (.lst acc) ∧ acc.length < sizeLine ∧ Nx1 (upd H7 D (.lst (acc ++ [y]))) else Nx1 H6) := by
  refine ⟨fun i m H => m = n1 - i ∧ i ≤ n1 ∧ Pv i H, ⟨n1, by simp, Nat.zero_le _, h0⟩, ?_⟩
  rintro i m H ⟨rfl, hi, p⟩
  have q := hG i H hi p
  by_cases hlt : i < n1
  · refine .inr ⟨w.goes i H hlt q, Pv (i + 1), fun H' p' => ⟨n1 - (i + 1), by omega, rfl, hlt, p'⟩, fun x H' y => hs i x H H' hlt p (w.yields i H x H' hlt q y)⟩
  · have e : i = n1 := by omega
    subst e
    exact .inl ⟨w.stops H q, hd H p⟩
/-- both clauses without tests -/
theorem lc2_outY (w : Walk J n G Y) {g g1 : TG} {tt1 : TT} {wi1 : TI} {te : TE} {vs vs1 : List Nat} {σ : St} {H1 : Hp} {D : Addr} {Qd : Hp → Prop} (Pv : Nat → Hp → Prop) (h0 : Pv 0 (upd H1 D (.lst []))) (hG : ∀ i H, i ≤ n → Pv i H → G H)
    (hs : ∀ i x H H', i < n → Pv i H → Y i H x H' → g x (wipe σ vs) H' fun σ2 H2 => wipe σ2 vs = wipe σ vs ∧ wi1 σ2 H2 fun J1 H4 => ∃ W1 : Nat → Nat → Hp → Prop, (∃ m, W1 0 m H4) ∧ ∀ j k H, W1 j k H →
      (J1.stop j H ∧ Pv (i + 1) H) ∨ (J1.go j H ∧ ∃ Nx1 : Hp → Prop, (∀ H', Nx1 H' → ∃ k', k' < k ∧ W1 (j + 1) k' H') ∧ ∀ x H', J1.yld j H x H' → g1 x (wipe σ2 vs1) H' fun σ3 H5 => wipe σ3 vs1 = wipe σ2 vs1 ∧ tt1 σ3 H5 fun b H6 =>
        if b = true then te σ3 H6 fun y H7 => ∃ acc, H7 D = some (.lst acc) ∧ acc.length < sizeLine ∧ Nx1 (upd H7 D (.lst (acc ++ [y]))) else Nx1 H6)) (hd : ∀ H, Pv n H → Qd H) :
    ∃ W : Nat → Nat → Hp → Prop, (∃ m, W 0 m (upd H1 D (.lst []))) ∧ ∀ i m H, W i m H →
      (J.stop i H ∧ Qd H) ∨ (J.go i H ∧ ∃ Nx : Hp → Prop, (∀ H', Nx H' → ∃ m', m' < m ∧ W (i + 1) m' H') ∧ ∀ x H', J.yld i H x H' → g x (wipe σ vs) H' fun σ2 H2 => wipe σ2 vs = wipe σ vs ∧ tYes σ2 H2 fun b H3 =>
        if b = true then wi1 σ2 H3 fun J1 H4 => ∃ W1 : Nat → Nat → Hp → Prop, (∃ m, W1 0 m H4) ∧ ∀ j k H, W1 j k H →
      (J1.stop j H ∧ Nx H) ∨ (J1.go j H ∧ ∃ Nx1 : Hp → Prop, (∀ H', Nx1 H' → ∃ k', k' < k ∧ W1 (j + 1) k' H') ∧ ∀ x H', J1.yld j H x H' → g1 x (wipe σ2 vs1) H' fun σ3 H5 => wipe σ3 vs1 = wipe σ2 vs1 ∧ tt1 σ3 H5 fun b H6 =>
        if b = true then te σ3 H6 fun y H7 => ∃ acc, H7 D = some (.lst acc) ∧ acc.length < sizeLine ∧ Nx1 (upd H7 D (.lst (acc ++ [y]))) else Nx1 H6)
        else Nx H3) := lc2_out (tt := tYes) w Pv h0 hG hs hd
theorem lc2_inY {J1 : It} {n1 : Nat} {G1 : Hp → Prop} {Y1 : Nat → Hp → V → Hp → Prop} (w : Walk J1 n1 G1 Y1) {g1 : TG} {te : TE} {vs1 : List Nat} {σ2 : St} {H4 : Hp} {D : Addr} {Nx : Hp → Prop} (Pv : Nat → Hp → Prop) (h0 : Pv 0 H4) (hG : ∀ i H, i ≤ n1 → Pv i H → G1 H)
    (hs : ∀ j x H H', j < n1 → Pv j H → Y1 j H x H' → g1 x (wipe σ2 vs1) H' fun σ3 H5 => wipe σ3 vs1 = wipe σ2 vs1 ∧ te σ3 H5 fun y H7 => ∃ acc, H7 D = some (.lst acc) ∧ acc.length < sizeLine ∧ Pv (j + 1) (upd H7 D (.lst (acc ++ [y])))) (hd : ∀ H, Pv n1 H → Nx H) :
    ∃ W1 : Nat → Nat → Hp → Prop, (∃ m, W1 0 m H4) ∧ ∀ j k H, W1 j k H →
      (J1.stop j H ∧ Nx H) ∨ (J1.go j H ∧ ∃ Nx1 : Hp → Prop, (∀ H', Nx1 H' → ∃ k', k' < k ∧ W1 (j + 1) k' H') ∧ ∀ x H', J1.yld j H x H' → g1 x (wipe σ2 vs1) H' fun σ3 H5 => wipe σ3 vs1 = wipe σ2 vs1 ∧ tYes σ3 H5 fun b H6 =>
        if b = true then te σ3 H6 fun y H7 => ∃ acc, H7 D = some (.lst acc) ∧ acc.length < sizeLine ∧ Nx1 (upd H7 D (.lst (acc ++ [y]))) else Nx1 H6) := lc2_in (tt1 := tYes) w Pv h0 hG hs hd
/-- one clause without a test -/
theorem lc_itY (w : Walk J n G Y) {g : TG} {te : TE} {vs : List Nat} {σ : St} {H1 : Hp} {D : Addr} {Qd : Hp → Prop} (Pv : Nat → Hp → Prop) (h0 : Pv 0 (upd H1 D (.lst []))) (hG : ∀ i H, i ≤ n → Pv i H → G H)
    (hs : ∀ i x H H', i < n → Pv i H → Y i H x H' → g x (wipe σ vs) H' fun σ2 H2 => wipe σ2 vs = wipe σ vs ∧ te σ2 H2 fun y H4 => ∃ acc, H4 D = some (.lst acc) ∧ acc.length < sizeLine ∧ Pv (i + 1) (upd H4 D (.lst (acc ++ [y])))) (hd : ∀ H, Pv n H → Qd H) :
    ∃ W : Nat → Nat → Hp → Prop, (∃ m, W 0 m (upd H1 D (.lst []))) ∧ ∀ i m H, W i m H →
      (J.stop i H ∧ Qd H) ∨ (J.go i H ∧ ∃ Nx : Hp → Prop, (∀ H', Nx H' → ∃ m', m' < m ∧ W (i + 1) m' H') ∧ ∀ x H', J.yld i H x H' → g x (wipe σ vs) H' fun σ2 H2 => wipe σ2 vs = wipe σ vs ∧ tYes σ2 H2 fun b H3 =>
        if b = true then te σ2 H3 fun y H4 => ∃ acc, H4 D = some (.lst acc) ∧ acc.length < sizeLine ∧ Nx (upd H4 D (.lst (acc ++ [y]))) else Nx H3) := lc_it (tt := tYes) w Pv h0 hG hs hd
end
end L2

/-! own rules: slices of a tuple and sums of tuples, whole or empty ones too, by what stands afterwards -/
namespace TE
open PySem PySem.Spec PyProof.Rows L2 Evl
section
variable {X : Cx}
def rSlE : V → Option Int → Option Int → Hp → VK → Prop := fun x lo hi H Q => ∃ a xs, x = .ref a ∧ H a = some (.tup xs) ∧ ∀ p H', Ex H H' → H' p = some (.tup (cutV xs lo hi)) → Q (.ref p) H'
theorem sl_tupE : SlR X rSlE := by
  intro pins s σ H x v vl vu lo hi sl Q I rx hs pl pu h
  obtain ⟨a, xs, rfl, hx, q⟩ := h
  refine sl_tupA pins s σ H _ v vl vu lo hi sl Q I rx hs pl pu ⟨a, xs, rfl, SqT.of hx, fun w => q a H (Ex.refl _) ?_, fun _ p hp => q p _ (Ex.new hp) upd_same⟩
  obtain ⟨w1, w2⟩ := w
  have e : cutV xs lo hi = xs := by
    unfold cutV
    rw [w1, w2, List.drop_zero, Nat.sub_zero, List.take_length]
  rw [e]
  exact hx
def rCatE : R2 := fun x y H Q => ∃ a b xs ys, x = .ref a ∧ y = .ref b ∧ H a = some (.tup xs) ∧ H b = some (.tup ys) ∧ xs.length + ys.length ≤ sizeLine ∧ ∀ p H', Ex H H' → H' p = some (.tup (xs ++ ys)) → Q (.ref p) H'
theorem op_catE : OpR X (binaryOp .Add) rCatE := by
  intro pins s σ H x y v u Q I rx ry h
  obtain ⟨a, b, xs, ys, rfl, rfl, ha, hb, hz, q⟩ := h
  refine op_catA pins s σ H _ _ v u Q I rx ry ⟨a, b, xs, ys, rfl, rfl, SqT.of ha, SqT.of hb, hz, fun e => q b H (Ex.refl _) ?_, fun _ e => q a H (Ex.refl _) ?_, fun _ _ p hp => q p _ (Ex.new hp) upd_same⟩
  · rw [e, List.nil_append]
    exact hb
  · rw [e, List.append_nil]
    exact ha
end
end TE

set_option exponentiation.threshold 400
namespace K1
open PySem PySem.Spec PyProof.Rows L2 Evl HM LX MP
def rowF (m : Nat) (f : Int → Int) : List Int := (List.range m).map fun (i : Nat) => f (i : Int)
theorem rowF_len (m : Nat) (f : Int → Int) : (rowF m f).length = m := by simp [rowF]
theorem rowF_get {m : Nat} {f : Int → Int} {i : Nat} (h : i < m) : ((rowF m f).map V.int)[i]? = some (.int (f (i : Int))) := by
  unfold rowF
  rw [List.map_map, List.getElem?_map, List.getElem?_range h]
  rfl
theorem rowF_sum (m : Nat) (f : Int → Int) : (rowF m f).sum = sumL (List.range m) fun (i : Nat) => f (i : Int) := rfl
def fac (F : Nat → Nat → Int) (i j : Nat) : List Int := ((List.range i).map fun l => (List.range l).map (F l)).flatten ++ (List.range j).map (F i)
theorem fac0 (F : Nat → Nat → Int) (i : Nat) : fac F i 0 = ((List.range i).map fun l => (List.range l).map (F l)).flatten := List.append_nil _
theorem facS (F : Nat → Nat → Int) (i : Nat) : fac F i i = fac F (i + 1) 0 := by
  rw [fac0, List.range_succ, List.map_append, List.flatten_append]
  show _ = _ ++ ((List.range i).map (F i) ++ [])
  rw [List.append_nil]
  rfl
theorem facN (F : Nat → Nat → Int) (i j : Nat) : fac F i (j + 1) = fac F i j ++ [F i j] := by
  unfold fac
  rw [List.range_succ, List.map_append, ← List.append_assoc]
  rfl
theorem facL (F : Nat → Nat → Int) : ∀ i, i ≤ 60 → (fac F i 0).length ≤ 60 * i
  | 0, _ => Nat.le_refl _
  | i + 1, hi => by
    have h1 := facL F i (by omega)
    rw [← facS]
    rw [fac0] at h1
    unfold fac
    rw [List.length_append, List.length_map, List.length_range]
    omega
theorem facLj (F : Nat → Nat → Int) (i j : Nat) (hi : i ≤ 60) (hj : j ≤ 60) : (fac F i j).length ≤ 60 * i + j := by
  have h1 := facL F i hi
  rw [fac0] at h1
  unfold fac
  rw [List.length_append, List.length_map, List.length_range]
  omega
theorem fac_sumL (F : Nat → Nat → Int) : ∀ n : Nat, (fac F n 0).sum = sumL (List.range n) fun i => sumL (List.range i) (F i)
  | 0 => rfl
  | n + 1 => by
    have ih := fac_sumL F n
    rw [fac0] at ih
    rw [← facS]
    unfold fac
    rw [List.sum_append, ih, List.range_succ, sumL_app, sumL_cons, sumL_nil, Int.add_zero]
    rfl
theorem ab_if (x : Int) : ab x = if x < 0 then -x else x := by
  unfold ab
  split <;> omega
section
variable {P : Program} {w : World} {K : PySem.W.Frag} {mg : Str → Option Value} {base : Heap}
def RowAt (H : Hp) (p : Addr) (m : Nat) (f : Int → Int) : Prop := H p = some (.tup ((rowF m f).map V.int)) ∧ 1 ≤ m ∧ m ≤ 60
def spShiftIn : Sp := fun vs H Q _ => ∃ (p : Addr) (m : Nat) (f : Int → Int), vs = [.ref p] ∧ RowAt H p m f ∧ ∀ H', Ex H H' → Q (.int (((sumL (List.range m) fun (i : Nat) => f (i : Int)) - sumL (List.range m) fun (i : Nat) => (i : Int)) / (m : Int))) H'
theorem ok_shift_in (T : Txt K mg) {f : Addr} {fd : FuncData} (D : DefAt K mg "shift_in" sShiftIn ["values"] f fd) : FnOk P w K mg base CX0 1 f fd ["values"] spShiftIn := by
  refine D.F.ok scShiftIn (fun vs H Q E h => ?_) (fun cdv A outer s₀ H vs Q E hr h => ?_)
  · obtain ⟨p, m, f, rfl, _⟩ := h
    rfl
  · obtain ⟨p, m, f, rfl, ⟨hp, m1, m60⟩, kQ⟩ := h
    refine ⟨_, pss_cons (ps_set (i := 1) scShiftIn.nd rfl (.inl rfl) (pe_callB call_len_seq (by rfl) T.z_len PySem.boot_len (pa_cons (pv 0) pa_nil)))
      (pss_one (ps_ret (pe_op op_fdiv (pe_op op_sub (pe_callB (ST.cr_sumT rfl) (by rfl) T.z_sum (by decide +kernel) (pa_cons (pv 0) pa_nil)) (pe_callB (SR.cr_sumR rfl) (by rfl) T.z_sum (by decide +kernel) (pa_cons (pe_callTy cr_range1 (by rfl) T.z_range (by decide +kernel) (pa_cons (pv 1) pa_nil)) pa_nil))) (pv 1)))), ?_⟩
    have ll : ((rowF m f).map V.int).length = m := by rw [List.length_map, rowF_len]
    refine ⟨_, rfl, p, _, rfl, .inr (SqT.of hp), ?_⟩
    rw [ll]
    refine ⟨_, rfl, p, _, rfl, SqT.of hp, _, rfl, _, rfl, fun g hg => ⟨g, m, rfl, upd_same, by omega, _, _, rfl, rfl, _, rfl, _, _, rfl, rfl, ⟨by omega, by omega⟩, ?_⟩⟩
    exact kQ _ (Ex.new hg)
def spFallsIn : Sp := fun vs H Q _ => ∃ (p : Addr) (m : Nat) (f : Int → Int), vs = [.ref p] ∧ RowAt H p m f ∧ ∀ H', Ex H H' → Q (.int (fallsR m f)) H'
theorem ok_falls_in (T : Txt K mg) {f : Addr} {fd : FuncData} (D : DefAt K mg "falls_in" sFallsIn ["values"] f fd) : FnOk P w K mg base CX0 1 f fd ["values"] spFallsIn := by
  refine D.F.ok scFallsIn (fun vs H Q E h => ?_) (fun cdv A outer s₀ H vs Q E hr h => ?_)
  · obtain ⟨p, m, f, rfl, _⟩ := h
    rfl
  · obtain ⟨p, m, f, rfl, ⟨hp, m1, m60⟩, kQ⟩ := h
    refine ⟨_, pss_cons (ps_set (i := 1) scFallsIn.nd rfl (.inr rfl) (pe_callB call_len_seq (by rfl) T.z_len PySem.boot_len (pa_cons (pv 0) pa_nil)))
      (pss_one (ps_ret (pe_callB (cr_sum rfl) (by rfl) T.z_sum (by decide +kernel) (pa_cons (pe_lc2 (own := [("late", 2), ("early", 3)]) (vs1 := [3]) (g := gName 2) (g1 := gName 3) (tt := tYes) (tt1 := tYes) (wi1 := iRng1 (tCons (tVar 2) tNil)) rfl scFallsIn.nd (pi_range1 (by rfl) T.z_range (pa_cons (pv 1) pa_nil))
        (blkOk_by (N := nFallsIn) (sc := defScope sFallsIn) (by decide +kernel)) (by decide) (fun _ _ _ _ _ => (pg_name (i := 2) scFallsIn.nd rfl (.inl rfl))) (fun _ _ _ _ _ => pts_nil) (fun _ _ _ _ _ => (pi_range1 (by rfl) T.z_range (pa_cons (pv 2) pa_nil))) (fun _ _ _ _ _ => (pg_name (i := 3) scFallsIn.nd rfl (.inl rfl))) (fun _ _ _ _ _ => pts_nil) (fun _ _ _ _ _ => (pe_callB call_abs (by rfl) T.z_abs (by decide +kernel) (pa_cons (pe_op op_fdiv (pe_op op_sub (pe_ix (show IxR _ (rIxT K) from ix_tup) (pv 0) (pv 2) (fun _ _ => rfl)) (pe_ix (show IxR _ (rIxT K) from ix_tup) (pv 0) (pv 3) (fun _ _ => rfl))) (pv 1)) pa_nil)))) pa_nil)))), ?_⟩
    have ll : ((rowF m f).map V.int).length = m := by rw [List.length_map, rowF_len]
    refine ⟨_, rfl, p, _, rfl, .inr (SqT.of hp), ?_⟩
    rw [ll]
    obtain ⟨F, hF⟩ : ∃ F : Nat → Nat → Int, F = fun (i j : Nat) => ab ((f (i : Int) - f (j : Int)) / (m : Int)) := ⟨_, rfl⟩
    refine ⟨_, rfl, _, rfl, by omega, by omega, fun D hD => ?_⟩
    refine ⟨fun i k H' => i ≤ m ∧ k = m - i ∧ H' D = some (.lst ((fac F i 0).map V.int)) ∧ Ex H H', ⟨m, Nat.zero_le _, rfl, upd_same, Ex.new hD⟩, fun i k H' hW => ?_⟩
    obtain ⟨hi, rfl, a1, a2⟩ := hW
    by_cases hlt : i < m
    · refine .inr ⟨(show i < ((m : Int)).toNat by omega), fun H2 => H2 D = some (.lst ((fac F (i + 1) 0).map V.int)) ∧ Ex H H2, fun H2 z => ⟨m - (i + 1), by omega, by omega, rfl, z.1, z.2⟩, fun v H2 hy => ?_⟩
      obtain ⟨rfl, rfl⟩ := hy
      rw [show (0 : Int) + (i : Int) = ((i : Nat) : Int) by omega]
      refine ⟨rfl, ?_⟩
      dsimp only [tYes]
      rw [if_pos rfl]
      refine ⟨_, rfl, _, rfl, by omega, by omega, ?_⟩
      refine ⟨fun j k' H6 => j ≤ i ∧ k' = i - j ∧ H6 D = some (.lst ((fac F i j).map V.int)) ∧ Ex H H6, ⟨i, Nat.zero_le _, rfl, a1, a2⟩, fun j k' H6 hW1 => ?_⟩
      obtain ⟨hj, rfl, b1, b2⟩ := hW1
      by_cases hjl : j < i
      · refine .inr ⟨(show j < ((i : Int)).toNat by omega), fun H7 => H7 D = some (.lst ((fac F i (j + 1)).map V.int)) ∧ Ex H H7, fun H7 z => ⟨i - (j + 1), by omega, by omega, rfl, z.1, z.2⟩, fun v H7 hy => ?_⟩
        obtain ⟨rfl, rfl⟩ := hy
        rw [show (0 : Int) + (j : Int) = ((j : Nat) : Int) by omega]
        refine ⟨rfl, ?_⟩
        dsimp only [tYes]
        rw [if_pos rfl]
        have gb6 := b2 _ _ hp
        refine ⟨_, rfl, _, rfl, p, _, _, .int (f (i : Int)), rfl, rfl, SqT.of gb6, atI_nat (rowF_get hlt), _, rfl, _, rfl, p, _, _, .int (f (j : Int)), rfl, rfl, SqT.of gb6, atI_nat (rowF_get (by omega)), _, _, rfl, rfl, _, rfl, _, (m : Int), rfl, rfl, ⟨by omega, by omega⟩, _, rfl, _, b1, ?_, ?_, Ex.mut b2 hD⟩
        · rw [List.length_map]
          have := facLj F i j (by omega) (by omega)
          exact Nat.lt_of_le_of_lt (show _ ≤ 3700 by omega) (by decide)
        · rw [upd_same, facN, List.map_append, hF, ← ab_if]
          rfl
      · refine .inl ⟨(show ((i : Int)).toNat ≤ j by omega), ?_, b2⟩
        have : j = i := by omega
        subst this
        rw [← facS]
        exact b1
    · have hie : i = m := by omega
      subst hie
      refine .inl ⟨(show ((i : Int)).toNat ≤ i by omega), D, fac F i 0, rfl, SqL.of a1, ?_⟩
      rw [fac_sumL, hF]
      exact kQ _ a2
end
end K1

set_option exponentiation.threshold 400
namespace K1
open PySem PySem.Spec PyProof.Rows L2 Evl HM LX MP ZW
theorem row_snoc (m : Nat) (f : Int → Int) : (List.range (m + 1)).map (fun (i : Nat) => f (i : Int)) = (List.range m).map (fun (i : Nat) => f (i : Int)) ++ [f (m : Int)] := by
  rw [List.range_succ, List.map_append]
  rfl
section
variable {P : Program} {w : World} {K : PySem.W.Frag} {mg : Str → Option Value} {base : Heap}
def spCountedIn : Sp := fun vs H Q _ => ∃ (p : Addr) (m : Nat) (f : Int → Int) (a b : Int), vs = [.ref p, .int a, .int b] ∧ RowAt H p m f ∧ ∀ H', Ex H H' → Q (.int (cntR m f a b)) H'
theorem ok_counted_in (T : Txt K mg) {f : Addr} {fd : FuncData} (D : DefAt K mg "counted_in" sCountedIn ["values", "a", "b"] f fd) : FnOk P w K mg base CX0 1 f fd ["values", "a", "b"] spCountedIn := by
  refine D.F.ok scCountedIn (fun vs H Q E h => ?_) (fun cdv A outer s₀ H vs Q E hr h => ?_)
  · obtain ⟨p, m, f, a, b, rfl, _⟩ := h
    rfl
  · obtain ⟨p, m, f, a, b, rfl, ⟨hp, m1, m60⟩, kQ⟩ := h
    refine ⟨_, pss_cons (ps_set (i := 3) scCountedIn.nd rfl (.inr rfl) (pe_callB call_len_seq (by rfl) T.z_len PySem.boot_len (pa_cons (pv 0) pa_nil)))
      (pss_cons (ps_setLc (i := 4) (own := [("rest", 5), ("value", 6)]) (g := gTup K 2 (gCons (gName 5) (gCons (gName 6) gNil))) (tt := tYes) (by rfl) scCountedIn.nd rfl rfl (sw_true rfl rfl rfl (by decide +kernel)) (EnT.pi_enumT (by rfl) T.z_enumerate (pa_cons (pv 0) pa_nil))
        (blkOk_by (N := nCountedIn) (sc := defScope sCountedIn) (by decide +kernel)) (fun _ _ _ _ _ => (pg_tup (by rfl) (pgs_cons (pg_name (i := 5) scCountedIn.nd rfl (.inl rfl)) (pgs_cons (pg_name (i := 6) scCountedIn.nd rfl (.inl rfl)) pgs_nil)))) (fun _ _ _ _ _ => pts_nil)
        (fun _ _ _ _ _ => (pe_op op_add (pe_op op_add (pe_op op_fdiv (pe_op op_sub (pv 1) (pv 5)) (pv 3)) (pe_op op_fdiv (pe_op op_add (pv 2) (pv 6)) (pv 3))) pe_int)))
      (pss_one (ps_ret (pe_callB (cr_sum rfl) (by rfl) T.z_sum (by decide +kernel) (pa_cons (pe_lc (own := [("often", 7)]) (g := gName 7) (tt := tYes) rfl scCountedIn.nd (pi_list (pv 4))
        (blkOk_by (N := nCountedIn) (sc := defScope sCountedIn) (by decide +kernel)) (fun _ _ _ _ _ => (pg_name (i := 7) scCountedIn.nd rfl (.inl rfl))) (fun _ _ _ _ _ => pts_nil)
        (fun _ _ _ _ _ => (pe_callB (call_max2 rfl) (by rfl) T.z_max (by decide +kernel) (pa_cons pe_int (pa_cons (pv 7) pa_nil))))) pa_nil))))), ?_⟩
    have ll : ((rowF m f).map V.int).length = m := by rw [List.length_map, rowF_len]
    refine ⟨_, rfl, p, _, rfl, .inr (SqT.of hp), ?_⟩
    rw [ll]
    obtain ⟨g, hg⟩ : ∃ g : Int → Int, g = fun x => (a - x) / (m : Int) + (b + f x) / (m : Int) + 1 := ⟨_, rfl⟩
    refine ⟨_, rfl, p, _, rfl, SqT.of hp, fun Dl hD => ?_⟩
    refine lc_enumT (K := K) (a := p) (xs := (rowF m f).map V.int) (fun i H' => H' Dl = some (.lst (((List.range i).map fun (x : Nat) => g (x : Int)).map V.int)) ∧ Ex H H') ⟨upd_same, Ex.new hD⟩ (fun i H' hp2 => SqT.of (hp2.2 _ _ hp)) (fun i x Tp H' hx hp2 nT => ?_) (fun H' hp2 => ?_)
    · obtain ⟨w1, w2⟩ := hp2
      have hi : i < m := by
        have := (List.getElem?_eq_some_iff.mp hx).1
        rw [ll] at this
        exact this
      rw [rowF_get hi] at hx
      obtain rfl := Option.some.inj hx
      have eT := Ex.new (o := .tup [.int (i : Nat), .int (f (i : Int))]) nT
      refine ⟨Tp, _, rfl, SqT.of upd_same, rfl, .int (i : Nat), [_], rfl, _, [], rfl, rfl, rfl, ?_⟩
      dsimp only [tYes]
      rw [if_pos rfl]
      refine ⟨_, rfl, _, rfl, _, _, rfl, rfl, _, rfl, _, _, rfl, rfl, ⟨by omega, by omega⟩, _, rfl, _, rfl, _, _, rfl, rfl, _, rfl, _, _, rfl, rfl, ⟨by omega, by omega⟩, _, _, rfl, rfl, _, _, rfl, rfl, _, eT _ _ w1, ?_, ?_, Ex.mut (w2.trans eT) hD⟩
      · rw [List.length_map, List.length_map, List.length_range]
        exact small1000 (by omega)
      · rw [upd_same, row_snoc, List.map_append, hg]
        rfl
    obtain ⟨w1, w2⟩ := hp2
    rw [ll] at w1
    refine ⟨_, rfl, Dl, rfl, ⟨_, SqL.of w1⟩, fun D2 hD2 => ?_⟩
    refine lc_list (K := K) (a := Dl) (xs := ((List.range m).map fun (x : Nat) => g (x : Int)).map V.int) (fun i H2 => H2 D2 = some (.lst (((List.range i).map fun (x : Nat) => max 0 (g (x : Int))).map V.int)) ∧ Ex H' H2) ⟨upd_same, Ex.new hD2⟩ (fun i H2 _ hp2 => SqL.of (hp2.2 _ _ w1)) (fun i x H2 hx hp2 => ?_) (fun H2 hp2 => ?_)
    · obtain ⟨v1, v2⟩ := hp2
      have hi : i < m := by
        have := (List.getElem?_eq_some_iff.mp hx).1
        rw [List.length_map, List.length_map, List.length_range] at this
        exact this
      have hx2 : (some (V.int (g (i : Int)))) = some x := by
        rw [← hx, List.map_map, List.getElem?_map, List.getElem?_range hi]
        rfl
      obtain rfl := Option.some.inj hx2
      refine ⟨rfl, ?_⟩
      dsimp only [tYes]
      rw [if_pos rfl]
      refine ⟨_, rfl, _, _, rfl, _, v1, ?_, ?_, Ex.mut v2 hD2⟩
      · rw [List.length_map, List.length_map, List.length_range]
        exact small1000 (by omega)
      · rw [upd_same, row_snoc (f := fun x => max 0 (g x)), List.map_append]
        have : (if g (i : Int) > 0 then g (i : Int) else 0) = max 0 (g (i : Int)) := by split <;> omega
        rw [this]
        rfl
    obtain ⟨v1, v2⟩ := hp2
    rw [List.length_map, List.length_map, List.length_range] at v1
    refine ⟨D2, _, rfl, SqL.of v1, ?_⟩
    rw [hg]
    exact kQ _ (w2.trans v2)
def spIsRound (K : PySem.W.Frag) : Sp := fun vs H Q _ => ∃ (p : Addr) (m : Nat) (f : Int → Int), vs = [.ref p] ∧ RowAt H p m f ∧ (∀ i : Nat, i < m → -(10 ^ 60) < f (i : Int) ∧ f (i : Int) < 10 ^ 60) ∧ ((List.range m).map fun (i : Nat) => f (i : Int) % (m : Int)).Perm ((List.range m).map fun (i : Nat) => (i : Int)) ∧ ∀ H', Ex H H' → Q (.bl true) H'
theorem ok_is_round (T : Txt K mg) {f : Addr} {fd : FuncData} (D : DefAt K mg "is_round" sIsRound ["value"] f fd) : FnOk P w K mg base CX0 2 f fd ["value"] (spIsRound K) := by
  refine D.F.ok scIsRound (fun vs H Q E h => ?_) (fun cdv A outer s₀ H vs Q E hr h => ?_)
  · obtain ⟨p, m, f, rfl, _⟩ := h
    rfl
  · obtain ⟨p, m, f, rfl, ⟨hp, m1, m60⟩, fb, pm, kQ⟩ := h
    obtain ⟨f1, fd1, D1⟩ := T.d_is_integer
    obtain ⟨tMAX_ROUND, vMAX_ROUND⟩ := T.v_MAX_ROUND
    have hr1 : Room 1 _ := hr.mono (by decide)
    refine ⟨_, pss_cons (ps_if (PW.pt (pw_or (pt_not (pt_val (pe_callB call_isi (by rfl) T.z_isinstance (by decide +kernel) (pa_cons (pv 0) (pa_cons (pe_bltn (v := .ty "tuple") (by rfl) T.z_tuple (by decide +kernel) rfl) pa_nil)))))
          (pw_or1 (pt_not (pt_chain op_le op_le pe_int (pe_callB call_len_seq (by rfl) T.z_len PySem.boot_len (pa_cons (pv 0) pa_nil)) (pe_glob (v := .int 60) rfl vMAX_ROUND ⟨_, rfl⟩)))))) (pss_one (ps_ret pe_bl)) pss_nil)
      (pss_cons (ps_if (pt_not (pt_val (pe_callB (cr_all rfl) (by rfl) T.z_all (by decide +kernel) (pa_cons (pe_lc (own := [("number", 2)]) (g := gName 2) (tt := tYes) rfl scIsRound.nd (pi_tup (pv 0))
        (blkOk_by (N := nIsRound) (sc := defScope sIsRound) (by decide +kernel)) (fun _ _ _ _ _ => (pg_name (i := 2) scIsRound.nd rfl (.inl rfl))) (fun _ _ _ _ _ => pts_nil)
        (fun _ _ _ _ _ => (pe_call (ok_is_integer T D1) hr1 (by rfl) D1.g D1.F.kp D1.b .nil pass0 (pa_cons (pv 2) pa_nil)))) pa_nil)))) (pss_one (ps_ret pe_bl)) pss_nil)
      (pss_cons (ps_set (i := 1) scIsRound.nd rfl (.inr rfl) (pe_callB call_len_seq (by rfl) T.z_len PySem.boot_len (pa_cons (pv 0) pa_nil)))
      (pss_one (ps_ret (pe_cmpR (op_eqD hr.units) (pe_callB (cr_sortedI) (by rfl) T.z_sorted (by decide +kernel) (pa_cons (pe_lc (own := [("number", 2)]) (g := gName 2) (tt := tYes) rfl scIsRound.nd (pi_tup (pv 0))
        (blkOk_by (N := nIsRound) (sc := defScope sIsRound) (by decide +kernel)) (fun _ _ _ _ _ => (pg_name (i := 2) scIsRound.nd rfl (.inl rfl))) (fun _ _ _ _ _ => pts_nil)
        (fun _ _ _ _ _ => (pe_op op_mod (pv 2) (pv 1)))) pa_nil)) (pe_listRg rfl (by rfl) T.z_list (prg_1 (by rfl) T.z_range (pv 1))) (nomark _)))))), ?_⟩
    have ll : ((rowF m f).map V.int).length = m := by rw [List.length_map, rowF_len]
    refine ⟨_, rfl, .ref p, .ty "tuple", .type "tuple", .type "tuple", true, rfl, .ty _, .base (.tup hp), kit_ty (by decide +kernel), true, rfl, iteF ?_⟩
    refine ⟨_, rfl, p, _, rfl, .inr (SqT.of hp), _, _, rfl, rfl, _, rfl, ?_⟩
    rw [ll, decide_eq_true (show (1 : Int) ≤ (m : Int) by omega)]
    refine iteT ⟨_, _, rfl, rfl, _, rfl, ?_⟩
    rw [decide_eq_true (show (m : Int) ≤ 60 by omega)]
    refine iteF ?_
    refine ⟨_, rfl, p, rfl, ⟨_, SqT.of hp⟩, fun Dl hD => ?_⟩
    refine lc_tup (K := K) (a := p) (xs := (rowF m f).map V.int) (fun i H' => H' Dl = some (.lst ((List.replicate i true).map V.bl)) ∧ Ex H H') ⟨upd_same, Ex.new hD⟩ (fun i H' _ hp2 => SqT.of (hp2.2 _ _ hp)) (fun i x H' hx hp2 => ?_) (fun H1 hp2 => ?_)
    · obtain ⟨w1, w2⟩ := hp2
      have hi : i < m := by
        have := (List.getElem?_eq_some_iff.mp hx).1
        rw [ll] at this
        exact this
      rw [rowF_get hi] at hx
      obtain rfl := Option.some.inj hx
      obtain ⟨b1, b2⟩ := fb i hi
      have ib : IntB K H' (.int (f (i : Int))) true := by
        have := IntB.int (K := K) (H := H') (f (i : Int))
        rw [decide_eq_true b1, decide_eq_true b2] at this
        exact this
      refine ⟨rfl, ?_⟩
      dsimp only [tYes]
      rw [if_pos rfl]
      refine ⟨_, rfl, _, true, rfl, ib, fun H3 e3 => ⟨_, e3 _ _ w1, ?_, ?_, Ex.mut (w2.trans e3) hD⟩⟩
      · rw [List.length_map, List.length_replicate]
        exact small1000 (by omega)
      · rw [upd_same, List.replicate_succ', List.map_append]
        rfl
    obtain ⟨w1, w2⟩ := hp2
    rw [ll] at w1
    refine ⟨Dl, _, rfl, SqL.of w1, true, ?_, iteF ?_⟩
    · rw [List.all_eq_true.mpr (fun x hx => by rw [(List.mem_replicate.mp hx).2]; rfl)]
    have hp1 := w2 _ _ hp
    refine ⟨_, rfl, p, _, rfl, .inr (SqT.of hp1), ?_⟩
    rw [ll]
    refine ⟨_, rfl, p, rfl, ⟨_, SqT.of hp1⟩, fun D2 hD2 => ?_⟩
    refine lc_tup (K := K) (a := p) (xs := (rowF m f).map V.int) (fun i H' => H' D2 = some (.lst (((List.range i).map fun (x : Nat) => f (x : Int) % (m : Int)).map V.int)) ∧ Ex H1 H') ⟨upd_same, Ex.new hD2⟩ (fun i H' _ hp2 => SqT.of (hp2.2 _ _ hp1)) (fun i x H' hx hp2 => ?_) (fun H2 hp2 => ?_)
    · obtain ⟨v1, v2⟩ := hp2
      have hi : i < m := by
        have := (List.getElem?_eq_some_iff.mp hx).1
        rw [ll] at this
        exact this
      rw [rowF_get hi] at hx
      obtain rfl := Option.some.inj hx
      refine ⟨rfl, ?_⟩
      dsimp only [tYes]
      rw [if_pos rfl]
      refine ⟨_, rfl, _, rfl, _, _, rfl, rfl, (show (0 : Int) < m by omega), _, v1, ?_, ?_, Ex.mut v2 hD2⟩
      · rw [List.length_map, List.length_map, List.length_range]
        exact small1000 (by omega)
      · rw [upd_same, row_snoc (f := fun x => f x % (m : Int)), List.map_append]
        rfl
    obtain ⟨v1, v2⟩ := hp2
    rw [ll] at v1
    refine ⟨D2, _, rfl, SqL.of v1, fun ns q pns asc hq => ?_⟩
    have xq := Ex.new (o := .lst (ns.map V.int)) hq
    have nse : ns = (List.range m).map fun (i : Nat) => (i : Int) := sorted_eq (pns.trans pm) asc (List.pairwise_map.mpr (List.Pairwise.imp (fun {a b} h => by omega) List.pairwise_lt_range))
    have gq : (upd H2 q (.lst (ns.map V.int))) q = some (.lst (((List.range m).map fun (i : Nat) => (i : Int)).map V.int)) := by rw [upd_same, nse]
    refine ⟨_, rfl, (m : Int), rfl, RgOk.of_le (by omega) (by omega) (by omega) (by omega), fun g hg => ?_⟩
    have xg := Ex.new (o := .lst (rgV 0 (m : Int))) hg
    have eg : rgV 0 (m : Int) = ((List.range m).map fun (i : Nat) => (i : Int)).map V.int := by
      unfold rgV
      rw [show ((m : Int) - 0).toNat = m by omega, List.map_map]
      refine List.map_congr_left fun i _ => ?_
      show V.int (0 + (i : Int)) = V.int (i : Int)
      rw [Int.zero_add]
    have gg : (upd (upd H2 q (.lst (ns.map V.int))) g (.lst (rgV 0 (m : Int)))) g = some (.lst (((List.range m).map fun (i : Nat) => (i : Int)).map V.int)) := by rw [upd_same, eg]
    refine ⟨_, _, .lst (SqL.of (xg _ _ gq)) (dp_ints _), .lst (SqL.of gg) (dp_ints _), shaped_intsL _, shaped_intsL _, ?_⟩
    rw [eqv_intsL]
    exact kQ _ (((w2.trans v2).trans xq).trans xg)
def lcmL (l : List Nat) : Nat := l.foldl Nat.lcm 1
theorem lcm_app (l : List Nat) (x : Nat) : lcmL (l ++ [x]) = Nat.lcm (lcmL l) x := by
  unfold lcmL
  rw [List.foldl_append]
  rfl
theorem lcm_dvd_all : ∀ (l : List Nat) (a : Nat), a ∣ l.foldl Nat.lcm a ∧ ∀ x ∈ l, x ∣ l.foldl Nat.lcm a
  | [], a => ⟨Nat.dvd_refl _, fun x hx => absurd hx (by simp)⟩
  | y :: l, a => by
    obtain ⟨h1, h2⟩ := lcm_dvd_all l (Nat.lcm a y)
    refine ⟨Nat.dvd_trans (Nat.dvd_lcm_left a y) h1, fun x hx => ?_⟩
    rcases List.mem_cons.mp hx with rfl | hx
    · exact Nat.dvd_trans (Nat.dvd_lcm_right a x) h1
    · exact h2 x hx
theorem lcm_bd : ∀ (l : List Nat), (∀ x ∈ l, 1 ≤ x ∧ x ≤ 60) → ∀ a, 1 ≤ a → 1 ≤ l.foldl Nat.lcm a ∧ l.foldl Nat.lcm a ≤ a * 60 ^ l.length
  | [], _, a, ha => ⟨ha, by show a ≤ a * 1; omega⟩
  | y :: l, h, a, ha => by
    obtain ⟨y1, y2⟩ := h y (List.mem_cons_self ..)
    have l1 : 1 ≤ Nat.lcm a y := Nat.lcm_pos (by omega) (by omega)
    have l2 : Nat.lcm a y ≤ a * 60 := Nat.le_trans (Nat.le_of_dvd (Nat.mul_pos (by omega) (by omega)) (Nat.lcm_dvd_mul a y)) (Nat.mul_le_mul_left a y2)
    obtain ⟨h1, h2⟩ := lcm_bd l (fun x hx => h x (List.mem_cons_of_mem _ hx)) (Nat.lcm a y) l1
    refine ⟨h1, Nat.le_trans h2 ?_⟩
    rw [List.length_cons, Nat.pow_succ, Nat.mul_comm (60 ^ l.length) 60, ← Nat.mul_assoc]
    exact Nat.mul_le_mul_right _ l2
def spMultiple : Sp := fun vs H Q _ => ∃ (p : Addr) (l : List Nat), vs = [.ref p] ∧ H p = some (.lst ((l.map fun (x : Nat) => (x : Int)).map V.int)) ∧ l.length ≤ 5 ∧ (∀ x ∈ l, 1 ≤ x ∧ x ≤ 60) ∧ ∀ H', Ex H H' → Q (.int (lcmL l : Int)) H'
theorem ok_multiple (T : Txt K mg) {f : Addr} {fd : FuncData} (D : DefAt K mg "_law_multiple" sLMultiple ["_law_numbers"] f fd) : FnOk P w K mg base CX0 2 f fd ["_law_numbers"] spMultiple := by
  refine D.F.ok scLMultiple (fun vs H Q E h => ?_) (fun cdv A outer s₀ H vs Q E hr h => ?_)
  · obtain ⟨p, l, rfl, _⟩ := h
    rfl
  · obtain ⟨p, l, rfl, hp, l5, lb, kQ⟩ := h
    obtain ⟨f1, fd1, D1⟩ := T.d_l_common
    have hr1 : Room 1 _ := hr.mono (by decide)
    refine ⟨_, pss_cons (ps_set (i := 1) scLMultiple.nd rfl (.inl rfl) pe_int)
      (pss_cons (ps_for PassesOwn.never rfl (pi_list (pv 0)) (pg_name (i := 2) scLMultiple.nd rfl (.inl rfl))
        (pss_one (ps_set (i := 1) scLMultiple.nd rfl (.inl rfl) (pe_op op_mul (pv 1) (pe_op op_fdiv (pv 2) (pe_call (ok_common T D1) hr1 (by rfl) D1.g D1.F.kp D1.b .nil pass0 (pa_cons (pv 1) (pa_cons (pv 2) pa_nil))))))))
      (pss_one (ps_ret (pv 1)))), ?_⟩
    refine ⟨_, rfl, p, rfl, ⟨_, SqL.of hp⟩, for_list (K := K) (a := p) (xs := (l.map fun (x : Nat) => (x : Int)).map V.int) (fun i σ' H' => ∃ y2, σ' = [some (.ref p), some (.int (lcmL (l.take i) : Int)), y2] ∧ Ex H H') ⟨_, rfl, Ex.refl _⟩ (fun i σ' H' _ hW => ?_) (fun i x σ' H' hx hW => ?_) (fun σ' H' hW => ?_)⟩
    · obtain ⟨_, _, ee⟩ := hW
      exact SqL.of (ee _ _ hp)
    · obtain ⟨y2, rfl, ee⟩ := hW
      obtain ⟨n, hn, rfl⟩ : ∃ n, l[i]? = some n ∧ V.int (n : Int) = x := by
        rw [List.map_map, List.getElem?_map] at hx
        obtain ⟨n, h1, h2⟩ := Option.map_eq_some_iff.mp hx
        exact ⟨n, h1, h2⟩
      obtain ⟨n1, n60⟩ := lb n (List.mem_of_getElem? hn)
      obtain ⟨c1, c2⟩ := lcm_bd (l.take i) (fun x hx => lb x (List.mem_of_mem_take hx)) 1 (Nat.le_refl _)
      have c3 : lcmL (l.take i) ≤ 777600000 := by
        refine Nat.le_trans c2 ?_
        rw [Nat.one_mul]
        exact Nat.le_trans (Nat.pow_le_pow_right (by decide) (show (l.take i).length ≤ 5 by rw [List.length_take]; omega)) (by decide)
      have g1 : 1 ≤ Nat.gcd (lcmL (l.take i)) n := Nat.gcd_pos_of_pos_right _ (by omega)
      have g2 : Nat.gcd (lcmL (l.take i)) n ≤ n := Nat.gcd_le_right _ (by omega)
      refine ⟨_, rfl, _, rfl, _, rfl, _, rfl, lcmL (l.take i), n, rfl, fun H2 e2 => ⟨_, _, rfl, rfl, ⟨by omega, by omega⟩, _, _, rfl, rfl, .inl ⟨by omega, by omega⟩, some (.int (n : Int)), ?_, ee.trans e2⟩⟩
      have tk : l.take (i + 1) = l.take i ++ [n] := by
        rw [List.take_add_one, hn]
        rfl
      rw [tk, lcm_app]
      have e : Nat.lcm (lcmL (l.take i)) n = lcmL (l.take i) * (n / Nat.gcd (lcmL (l.take i)) n) := by
        unfold Nat.lcm
        rw [Nat.mul_div_assoc _ (Nat.gcd_dvd_right _ _)]
      rw [e, Int.natCast_mul]
      rfl
    · obtain ⟨y2, rfl, ee⟩ := hW
      rw [List.length_map, List.length_map, List.take_length]
      exact ⟨_, rfl, kQ _ ee⟩
end
end K1

set_option exponentiation.threshold 400
namespace K1
open PySem PySem.Spec PyProof.Rows L2 Evl HM LX MP ZW
abbrev sRInit : Stmt := inClass (topS 16) 0
abbrev sRShift : Stmt := inClass (topS 16) 2
abbrev sRFalls : Stmt := inClass (topS 16) 3
abbrev sRCounted : Stmt := inClass (topS 16) 4
abbrev nRInit : List Str := ["self", "values"]
abbrev nRSelf : List Str := ["self"]
abbrev nRCounted : List Str := ["self", "a", "b"]
theorem scRInit : FnScope nRInit ["self", "values"] (defScope sRInit) := ⟨rfl, rfl, rfl, by decide +kernel, rfl, by decide +kernel, by decide +kernel⟩
theorem scRShift : FnScope nRSelf ["self"] (defScope sRShift) := ⟨rfl, rfl, rfl, by decide +kernel, rfl, by decide +kernel, by decide +kernel⟩
theorem scRFalls : FnScope nRSelf ["self"] (defScope sRFalls) := ⟨rfl, rfl, rfl, by decide +kernel, rfl, by decide +kernel, by decide +kernel⟩
theorem scRCounted : FnScope nRCounted ["self", "a", "b"] (defScope sRCounted) := ⟨rfl, rfl, rfl, by decide +kernel, rfl, by decide +kernel, by decide +kernel⟩
/-! the data of a round map: its row and what was counted once -/
theorem vf_ : ¬ (("_values" : Str) = "_falls") := by decide +kernel
def rf (p : Addr) (v : V) : List (Str × V) := putF "_falls" v (putF "_values" (.ref p) [])
theorem rf_values (p : Addr) (v : V) : (rf p v).lookup ("_values" : Str) = some (.ref p) := by
  unfold rf
  rw [lookup_putF, if_neg vf_, lookup_putF, if_pos rfl]
theorem rf_falls (p : Addr) (v : V) : (rf p v).lookup ("_falls" : Str) = some v := by
  unfold rf
  rw [lookup_putF, if_pos rfl]
theorem rf_no (p : Addr) (v : V) {m : Str} (h1 : ¬ m = "_falls") (h2 : ¬ m = "_values") : (rf p v).lookup m = none := by
  unfold rf
  rw [lookup_putF, if_neg h1, lookup_putF, if_neg h2]
  all_goals rfl
theorem rf_eq (p : Addr) (v : V) : rf p v = ([("_values", V.ref p), ("_falls", v)] : List (Str × V)) := by
  show (if ("_values" : Str) = "_falls" then [(("_values" : Str), v)] else (("_values" : Str), V.ref p) :: putF "_falls" v []) = ([("_values", V.ref p), ("_falls", v)] : List (Str × V))
  rw [if_neg vf_]
  all_goals rfl
theorem rf_put (p : Addr) (v u : V) : putF "_falls" u (rf p v) = rf p u := by
  rw [rf_eq, rf_eq]
  show (if ("_values" : Str) = "_falls" then _ else (("_values" : Str), V.ref p) :: (if ("_falls" : Str) = "_falls" then [(("_falls" : Str), u)] else _)) = ([("_values", V.ref p), ("_falls", u)] : List (Str × V))
  rw [if_neg vf_, if_pos rfl]
/-- what the class leaves -/
structure RTxt (K : PySem.W.Frag) (mg : Str → Option Value) (C : Addr) : Prop where
  cl : Cls K C
  nV : NoAttr K C "_values"
  nF : NoAttr K C "_falls"
  mgC : mg "Round" = some (.ref C)
  init : ∃ f fd, Mk K C f ∧ Fun K "__init__" "Round.__init__" sRInit f fd ∧ Binds K fd ["self", "values"] []
  shift : ∃ p f fd, PropOf K C "shift" p f ∧ Fun K "shift" "Round.shift" sRShift f fd ∧ Binds K fd ["self"] []
  falls : ∃ p f fd, PropOf K C "falls" p f ∧ Fun K "falls" "Round.falls" sRFalls f fd ∧ Binds K fd ["self"] []
  counted : ∃ f fd, Meth K C "counted" f ∧ Fun K "counted" "Round.counted" sRCounted f fd ∧ Binds K fd ["self", "a", "b"] []
section
variable {P : Program} {w : World} {K : PySem.W.Frag} {mg : Str → Option Value} {base : Heap} {C : Addr}
def spRInit (C : Addr) : Sp := fun vs H Q _ => ∃ (x dx p : Addr) (m : Nat) (f : Int → Int), vs = [.ref x, .ref p] ∧ H x = some (.ins C dx []) ∧ RowAt H p m f ∧ (∀ i : Nat, i < m → -(10 ^ 60) < f (i : Int) ∧ f (i : Int) < 10 ^ 60) ∧ ((List.range m).map fun (i : Nat) => f (i : Int) % (m : Int)).Perm ((List.range m).map fun (i : Nat) => (i : Int)) ∧ ∀ H', Keep x H H' → H' x = some (.ins C dx (rf p .non)) → Q .non H'
theorem ok_rinit (T : Txt K mg) (R : RTxt K mg C) {f : Addr} {fd : FuncData} (F : Fun K "__init__" "Round.__init__" sRInit f fd) : FnOk P w K mg base CX0 3 f fd ["self", "values"] (spRInit C) := by
  refine F.ok scRInit (fun vs H Q E h => ?_) (fun cdv A outer s₀ H vs Q E hr h => ?_)
  · obtain ⟨x, dx, p, m, f, rfl, _⟩ := h
    rfl
  · obtain ⟨x, dx, p, m, f, rfl, hx, hp, fb, pm, kQ⟩ := h
    obtain ⟨f1, fd1, D1⟩ := T.d_is_round
    refine ⟨_, pss_cons (ps_if (pt_not (pt_val (pe_call (ok_is_round T D1) hr (by rfl) D1.g D1.F.kp D1.b .nil pass0 (pa_cons (pv 1) pa_nil)))) pss_never pss_nil)
      (pss_cons (ps_fld (pv 0) (pv 1) rfl) (pss_one (ps_fld (pv 0) pe_non rfl))), ?_⟩
    refine ⟨_, rfl, p, m, f, rfl, hp, fb, pm, fun H1 e1 => ⟨true, rfl, iteF ?_⟩⟩
    refine ⟨_, rfl, _, rfl, x, C, dx, [], rfl, e1 _ _ hx, R.cl, R.nV, (by show 0 < 1000; decide), _, rfl, x, C, dx, _, rfl, upd_same, R.cl, R.nF, (by show 1 < 1000; decide), ?_⟩
    refine kQ _ (fun b o nb hb => ?_) upd_same
    rw [upd_ne nb, upd_ne nb]
    exact e1 _ _ hb
def spRShift (C : Addr) : Sp := fun vs H Q _ => ∃ (x dx p : Addr) (v : V) (m : Nat) (f : Int → Int), vs = [.ref x] ∧ H x = some (.ins C dx (rf p v)) ∧ RowAt H p m f ∧ ∀ H', Ex H H' → Q (.int (((sumL (List.range m) fun (i : Nat) => f (i : Int)) - sumL (List.range m) fun (i : Nat) => (i : Int)) / (m : Int))) H'
theorem ok_rshift (T : Txt K mg) (R : RTxt K mg C) {f : Addr} {fd : FuncData} (F : Fun K "shift" "Round.shift" sRShift f fd) : FnOk P w K mg base CX0 2 f fd ["self"] (spRShift C) := by
  refine F.ok scRShift (fun vs H Q E h => ?_) (fun cdv A outer s₀ H vs Q E hr h => ?_)
  · obtain ⟨x, dx, p, v, m, f, rfl, _⟩ := h
    rfl
  · obtain ⟨x, dx, p, v, m, f, rfl, hx, hp, kQ⟩ := h
    obtain ⟨f1, fd1, D1⟩ := T.d_shift_in
    refine ⟨_, pss_one (ps_ret (pe_call (ok_shift_in T D1) hr (by rfl) D1.g D1.F.kp D1.b .nil pass0 (pa_cons (pe_fld (pv 0) rfl) pa_nil))), ?_⟩
    exact ⟨_, rfl, x, C, dx, _, _, rfl, hx, R.cl, R.nV, rf_values _ _, p, m, f, rfl, hp, kQ⟩
def spRFalls (C : Addr) : Sp := fun vs H Q _ => ∃ (x dx p : Addr) (m : Nat) (f : Int → Int), vs = [.ref x] ∧ H x = some (.ins C dx (rf p .non)) ∧ RowAt H p m f ∧ ∀ H', Keep x H H' → H' x = some (.ins C dx (rf p (.int (fallsR m f)))) → Q (.int (fallsR m f)) H'
theorem ok_rfalls (T : Txt K mg) (R : RTxt K mg C) {f : Addr} {fd : FuncData} (F : Fun K "falls" "Round.falls" sRFalls f fd) : FnOk P w K mg base CX0 2 f fd ["self"] (spRFalls C) := by
  refine F.ok scRFalls (fun vs H Q E h => ?_) (fun cdv A outer s₀ H vs Q E hr h => ?_)
  · obtain ⟨x, dx, p, m, f, rfl, _⟩ := h
    rfl
  · obtain ⟨x, dx, p, m, f, rfl, hx, hp, kQ⟩ := h
    obtain ⟨f1, fd1, D1⟩ := T.d_falls_in
    refine ⟨_, pss_cons (ps_if (pt_cmpR op_isN (pe_fld (pv 0) rfl) pe_non (nomark _)) (pss_one (ps_fld (pv 0) (pe_call (ok_falls_in T D1) hr (by rfl) D1.g D1.F.kp D1.b .nil pass0 (pa_cons (pe_fld (pv 0) rfl) pa_nil)) rfl)) pss_nil)
      (pss_one (ps_ret (pe_fld (pv 0) rfl))), ?_⟩
    refine ⟨_, rfl, x, C, dx, _, _, rfl, hx, R.cl, R.nF, rf_falls _ _, rfl, true, by rw [decide_eq_true rfl], iteT ?_⟩
    refine ⟨_, rfl, x, C, dx, _, _, rfl, hx, R.cl, R.nV, rf_values _ _, p, m, f, rfl, hp, fun H1 e1 => ?_⟩
    refine ⟨_, rfl, x, C, dx, _, rfl, e1 _ _ hx, R.cl, R.nF, (by rw [rf_eq]; show 2 < 1000; decide), ?_⟩
    rw [rf_put]
    refine ⟨_, rfl, x, C, dx, _, _, rfl, upd_same, R.cl, R.nF, rf_falls _ _, ?_⟩
    refine kQ _ (fun b o nb hb => ?_) upd_same
    rw [upd_ne nb]
    exact e1 _ _ hb
def spRCounted (C : Addr) : Sp := fun vs H Q _ => ∃ (x dx p : Addr) (v : V) (m : Nat) (f : Int → Int) (a b : Int), vs = [.ref x, .int a, .int b] ∧ H x = some (.ins C dx (rf p v)) ∧ RowAt H p m f ∧ -(10 ^ 60) < a ∧ a < 10 ^ 60 ∧ -(10 ^ 60) < b ∧ b < 10 ^ 60 ∧ ∀ H', Ex H H' → Q (.int (cntR m f a b)) H'
theorem ok_rcounted (T : Txt K mg) (R : RTxt K mg C) {f : Addr} {fd : FuncData} (F : Fun K "counted" "Round.counted" sRCounted f fd) : FnOk P w K mg base CX0 3 f fd ["self", "a", "b"] (spRCounted C) := by
  refine F.ok scRCounted (fun vs H Q E h => ?_) (fun cdv A outer s₀ H vs Q E hr h => ?_)
  · obtain ⟨x, dx, p, v, m, f, a, b, rfl, _⟩ := h
    rfl
  · obtain ⟨x, dx, p, v, m, f, a, b, rfl, hx, hp, a0, a1, b0, b1, kQ⟩ := h
    obtain ⟨f1, fd1, D1⟩ := T.d_counted_in
    obtain ⟨f2, fd2, D2⟩ := T.d_check_integer
    have hr1 : Room 1 _ := hr.mono (by decide)
    refine ⟨_, pss_cons (ps_expr (pe_call (ok_check_integer T D2) hr (by rfl) D2.g D2.F.kp D2.b .nil pass0 (pa_cons (pv 1) pa_nil)))
      (pss_cons (ps_expr (pe_call (ok_check_integer T D2) hr (by rfl) D2.g D2.F.kp D2.b .nil pass0 (pa_cons (pv 2) pa_nil)))
      (pss_one (ps_ret (pe_call (ok_counted_in T D1) hr1 (by rfl) D1.g D1.F.kp D1.b .nil pass0 (pa_cons (pe_fld (pv 0) rfl) (pa_cons (pv 1) (pa_cons (pv 2) pa_nil))))))), ?_⟩
    refine ⟨_, rfl, a, rfl, a0, a1, fun H1 e1 => ⟨_, rfl, b, rfl, b0, b1, fun H2 e2 => ?_⟩⟩
    have e12 := e1.trans e2
    exact ⟨_, rfl, x, C, dx, _, _, rfl, e12 _ _ hx, R.cl, R.nV, rf_values _ _, _, rfl, _, rfl, p, m, f, a, b, rfl, ⟨e12 _ _ hp.1, hp.2⟩, fun H3 e3 => kQ _ (e12.trans e3)⟩
end
end K1

set_option exponentiation.threshold 400
namespace K1
open PySem PySem.Spec PyProof.Rows L2 Evl HM LX
section
variable {P : Program} {w : World} {K : PySem.W.Frag} {mg : Str → Option Value} {base : Heap}
def Eqo (rs : List (Int × Int)) (m k : Nat) : Prop := ∀ j, j < m → K1M.ord (K1N.nAt rs j) (K1N.sAt rs j).natAbs = k
theorem ord_times {k m j : Nat} (hm : 0 < m) (h : Nat.gcd k j = 1) : K1M.ord (k * m) (m * j) = k := by
  unfold K1M.ord
  rw [Nat.mul_comm k m, Nat.gcd_mul_left, h, Nat.mul_one, Nat.mul_div_cancel_left _ hm]
theorem Eqo.snoc {rs : List (Int × Int)} {i k : Nat} {n s : Int} (h : Eqo rs i k) (hl : rs.length = i) (hn : K1M.ord n.toNat s.natAbs = k) : Eqo (rs ++ [(n, s)]) (i + 1) k := fun j hj => by
  by_cases z : j < i
  · have h1 : K1N.nAt (rs ++ [(n, s)]) j = K1N.nAt rs j := K1N.nAt_left (by omega)
    have h2 : K1N.sAt (rs ++ [(n, s)]) j = K1N.sAt rs j := by
      unfold K1N.sAt
      rw [List.getD_eq_getElem?_getD, List.getElem?_append_left (by omega), ← List.getD_eq_getElem?_getD]
    rw [h1, h2]
    exact h j z
  · have : j = i := by omega
    subst this
    unfold K1N.nAt K1N.sAt
    rw [List.getD_eq_getElem?_getD, List.getElem?_append_right (by omega), hl, Nat.sub_self]
    exact hn
def EW (d Dl : Addr) (H : Hp) (most : Int) (k i : Nat) (H' : Hp) : Prop := ∃ xs rs, H' Dl = some (.lst xs) ∧ RingsAt H' most xs rs ∧ xs.length = i ∧ Keep d H H' ∧ Dice H' d ∧ Eqo rs i k
theorem EW.turn {d Dl : Addr} {H H' H2 : Hp} {most n s : Int} {x : V} {k i : Nat} (W : EW d Dl H most k i H') (ndl : d ≠ Dl) (hD0 : H Dl = none) (kp : Keep d H' H2) (hd : Dice H2 d) (r : RingAt H2 most x n s) (ho : K1M.ord n.toNat s.natAbs = k) (hi : i < 1000) :
    ∃ acc, H2 Dl = some (.lst acc) ∧ acc.length < sizeLine ∧ EW d Dl H most k (i + 1) (upd H2 Dl (.lst (acc ++ [x]))) := by
  obtain ⟨xs, rs, a1, a2, a3, a4, a5, a6⟩ := W
  have e1 : H2 Dl = some (.lst xs) := kp _ _ ndl.symm a1
  have nt : ∀ {y : V} {n s : Int}, RingAt H2 most y n s → RingAt (upd H2 Dl (.lst (xs ++ [x]))) most y n s := fun {y n s} q => q.upd fun t ht => by
    obtain ⟨t', rfl, ht', _⟩ := q
    cases ht
    exact ne_of ht' e1 (by intro z; cases z)
  refine ⟨xs, e1, small1000 (by omega), xs ++ [x], rs ++ [(n, s)], upd_same, paired_snoc (R := fun x (r : Int × Int) => RingAt (upd H2 Dl (.lst (xs ++ [_]))) most x r.1 r.2) (y := (n, s)) (nt r) (paired_imp (R := fun x (r : Int × Int) => RingAt H' most x r.1 r.2) (fun y r' q => nt (q.keep kp a5)) a2), ?_, (a4.trans kp).mut hD0, hd.upd ndl, a6.snoc ((paired_len a2).symm.trans a3) ho⟩
  rw [List.length_append, a3]
  rfl
def spRingOfO : Sp := fun vs H Q _ => ∃ (d : Addr) (k t : Int), vs = [.ref d, .int k, .int t] ∧ Dice H d ∧ 2 ≤ k ∧ k ≤ 100 ∧ 1 ≤ t ∧ t ≤ 1000 ∧ ∀ x n s H', RingAt H' (k * t) x n s → K1M.ord n.toNat s.natAbs = k.toNat → Dice H' d → Keep d H H' → Q x H'
theorem ok_ring_ofO (T : Txt K mg) {f : Addr} {fd : FuncData} (D : DefAt K mg "_law_ring_of" sLRingOf ["_law_dice_here", "_law_k", "_law_times"] f fd) : FnOk P w K mg base CX0 3 f fd ["_law_dice_here", "_law_k", "_law_times"] spRingOfO := by
  refine D.F.ok scLRingOf (fun vs H Q E h => ?_) (fun cdv A outer s H vs Q E hr h => ?_)
  · obtain ⟨d, n, t, rfl, _⟩ := h
    rfl
  · obtain ⟨d, k, t, rfl, hd, h1, h2, h3, h4, q⟩ := h
    obtain ⟨f1, fd1, D1⟩ := T.d_l_roll
    obtain ⟨f2, fd2, D2⟩ := T.d_l_common
    obtain ⟨f3, fd3, D3⟩ := T.d_l_one_of
    have hr1 : Room 1 _ := hr.mono (by decide)
    refine ⟨_, pss_cons (ps_set (i := 3) scLRingOf.nd rfl (.inl rfl) (pe_op op_add pe_int (pe_call (ok_roll T D1) hr1 (by rfl) D1.g D1.F.kp D1.b .nil pass0 (pa_cons (pv 0) (pa_cons (pv 2) pa_nil)))))
      (pss_cons (ps_setLc (i := 4) (own := [("_law_one", 5)]) (g := gName 5) (by rfl) scLRingOf.nd rfl rfl (sw_true rfl rfl rfl (by decide +kernel)) (pi_range2 (by rfl) T.z_range (pa_cons pe_int (pa_cons (pv 1) pa_nil)))
        (blkOk_by (N := nLRingOf) (sc := defScope sLRingOf) (by decide +kernel)) (fun _ _ _ _ _ => pg_name (i := 5) scLRingOf.nd rfl (Or.inl rfl))
        (fun _ _ _ _ _ => pts_one (pt_cmpR op_eq (pe_call (ok_common T D2) hr1 (by rfl) D2.g D2.F.kp D2.b .nil pass0 (pa_cons (pv 1) (pa_cons (pv 5) pa_nil))) pe_int (nomark _))) (fun _ _ _ _ _ => pv 5))
      (pss_one (ps_ret (pe_tup (pa_cons (pe_op op_mul (pv 1) (pv 3)) (pa_cons (pe_op op_mul (pv 3) (pe_call (ok_one_of T D3) hr (by rfl) D3.g D3.F.kp D3.b .nil pass0 (pa_cons (pv 0) (pa_cons (pv 4) pa_nil)))) pa_nil)))))), ?_⟩
    refine ⟨.ref d, rfl, .int t, rfl, d, _, rfl, hd, by omega, by omega, fun r H1 r0 r1 hd1 k1 => ?_⟩
    refine ⟨1, r, rfl, rfl, .int k, rfl, 1, k, rfl, by omega, fun Dl hD => ?_⟩
    have ndl : d ≠ Dl := hd1.ne_new hD
    have hD0 : H Dl = none := k1.free ndl.symm hD
    refine lc_range (lo := 1) (n := (k - 1).toNat) (fun i H' => ∃ js : List Int, H' Dl = some (.lst (js.map V.int)) ∧ js.length ≤ i ∧ (∀ j ∈ js, 1 ≤ j ∧ j < k ∧ Nat.gcd k.toNat j.toNat = 1) ∧ (1 ≤ i → 1 ≤ js.length) ∧ Keep d H H' ∧ Dice H' d)
      ⟨[], upd_same, Nat.le_refl _, by simp, by omega, k1.trans (Keep.new hD), hd1.upd (hd1.ne_new hD)⟩ (fun i H' hi hp => ?_) (fun H' hp => ?_)
    · obtain ⟨js, a1, a2, a3, a4, a5, a6⟩ := hp
      refine ⟨rfl, .int k, rfl, .int (1 + (i : Int)), rfl, k.toNat, 1 + i, ?_, fun H2 e2 => ?_⟩
      · show [V.int k, V.int (1 + (i : Int))] = [V.int ((k.toNat : Nat) : Int), V.int (((1 + i : Nat)) : Int)]
        rw [show ((k.toNat : Nat) : Int) = k by omega, show (((1 + i : Nat)) : Int) = 1 + (i : Int) by omega]
      · refine ⟨rfl, _, rfl, ite2 (fun c => ?_) (fun c => ?_)⟩
        · have c1 : Nat.gcd k.toNat (1 + i) = 1 := by
            have := V.int.inj (of_decide_eq_true c)
            omega
          refine ⟨_, rfl, js.map V.int, e2 _ _ a1, ?_, js ++ [1 + (i : Int)], ?_, ?_, ?_, ?_, ?_, ?_⟩
          · rw [List.length_map]
            exact small1000 (by omega)
          · rw [List.map_append]
            exact upd_same
          · rw [List.length_append]
            exact Nat.add_le_add_right a2 1
          · intro j hj
            rcases List.mem_append.mp hj with hj | hj
            · exact a3 j hj
            · have hj := List.mem_singleton.mp hj
              subst hj
              refine ⟨by omega, by omega, ?_⟩
              rw [show (1 + (i : Int)).toNat = 1 + i by omega]
              exact c1
          · intro _
            rw [List.length_append]
            exact Nat.le_add_left _ _
          · exact (a5.trans (Keep.ex e2)).mut hD0
          · exact (a6.ex e2).upd ndl
        · refine ⟨js, e2 _ _ a1, by omega, a3, fun _ => ?_, a5.trans (Keep.ex e2), a6.ex e2⟩
          by_cases z : i = 0
          · subst z
            refine absurd ?_ c
            rw [show k.toNat.gcd (1 + 0) = 1 from Nat.gcd_one_right k.toNat]
            rfl
          · exact a4 (by omega)
    · obtain ⟨js, a1, a2, a3, a4, a5, a6⟩ := hp
      have hl : 1 ≤ js.length := a4 (by omega)
      have hb : 1 ≤ 1 + r ∧ 1 + r ≤ t := by omega
      have hkm : k * (1 + r) ≤ k * t := Int.mul_le_mul_of_nonneg_left hb.2 (by omega)
      have hk2 : 2 ≤ k * (1 + r) := by
        have := Int.mul_le_mul_of_nonneg_left hb.1 (show (0 : Int) ≤ k by omega)
        omega
      refine ⟨.int k, rfl, .int (1 + r), rfl, k, 1 + r, rfl, rfl, .inl (by constructor <;> omega), .int (1 + r), rfl, .ref d, rfl, .ref Dl, rfl, d, Dl, _, rfl, a6, a1, ndl.symm, by rw [List.length_map]; exact hl, by rw [List.length_map]; omega, fun x H2 hx hd2 k2 => ?_⟩
      obtain ⟨j, hj, rfl⟩ := List.mem_map.mp hx
      obtain ⟨j1, j2, j3⟩ := a3 j hj
      refine ⟨1 + r, j, rfl, rfl, .inl (by constructor <;> omega), by show 2 ≤ sizeLine; decide, fun p hp => ?_⟩
      have c1 : 1 ≤ (1 + r) * j := by
        have := Int.mul_le_mul_of_nonneg_left j1 (show (0 : Int) ≤ 1 + r by omega)
        omega
      have c2 : (1 + r) * j < k * (1 + r) := by
        rw [Int.mul_comm k (1 + r)]
        exact Int.mul_lt_mul_of_pos_left j2 (by omega)
      refine q _ _ _ _ ⟨p, rfl, upd_same, hk2, hkm, c1, c2⟩ ?_ (hd2.upd (hd2.ne_new hp)) ((a5.trans k2).trans (Keep.new hp))
      have m1 : (k * (1 + r)).toNat = k.toNat * (1 + r).toNat := Int.toNat_mul (by omega) (by omega)
      have m2 : ((1 + r) * j).natAbs = (1 + r).toNat * j.toNat := by
        rw [Int.natAbs_mul]
        congr 1 <;> omega
      rw [m1, m2]
      exact ord_times (by omega) j3
def spEqualChain : Sp := fun vs H Q _ => ∃ (d : Addr) (g k : Int), vs = [.ref d, .int g, .int k] ∧ Dice H d ∧ 1 ≤ g ∧ g ≤ 100 ∧ 2 ≤ k ∧ k ≤ 30 ∧
  ∀ p xs rs H', H' p = some (.tup xs) → RingsAt H' 60 xs rs → (xs.length : Int) = g → Eqo rs xs.length k.toNat → Dice H' d → Keep d H H' → Q (.ref p) H'
theorem ok_equal_chain (T : Txt K mg) {f : Addr} {fd : FuncData} (D : DefAt K mg "_law_equal_chain" sLEqualChain ["_law_dice_here", "_law_rings", "_law_k"] f fd) : FnOk P w K mg base CX0 4 f fd ["_law_dice_here", "_law_rings", "_law_k"] spEqualChain := by
  refine D.F.ok scLEqualChain (fun vs H Q E h => ?_) (fun cdv A outer s₀ H vs Q E hr h => ?_)
  · obtain ⟨d, g, k, rfl, _⟩ := h
    rfl
  · obtain ⟨d, g, k, rfl, hd, g1, g2, h1, h2, q⟩ := h
    obtain ⟨f1, fd1, D1⟩ := T.d_l_ring_of
    have hr3 : Room 3 _ := hr.mono (by decide)
    refine ⟨_, pss_one (ps_ret (pe_callTy call_tuple_of (by rfl) T.z_tuple (by decide +kernel) (pa_cons (pe_lc (own := [("_law_turn", 3)]) (g := gName 3) (tt := tYes) rfl scLEqualChain.nd (pi_range1 (by rfl) T.z_range (pa_cons (pv 1) pa_nil))
        (blkOk_by (N := nLEqualChain) (sc := defScope sLEqualChain) (by decide +kernel)) (fun _ _ _ _ _ => (pg_name (i := 3) scLEqualChain.nd rfl (.inl rfl))) (fun _ _ _ _ _ => pts_nil)
        (fun _ _ _ _ _ => (pe_call (ok_ring_ofO T D1) hr3 (by rfl) D1.g D1.F.kp D1.b .nil pass0 (pa_cons (pv 0) (pa_cons (pv 2) (pa_cons pe_int pa_nil)))))) pa_nil))), ?_⟩
    refine ⟨_, rfl, g, rfl, by omega, by omega, fun Dl hD => ?_⟩
    have ndl : d ≠ Dl := hd.ne_new hD
    refine lc_range (lo := 0) (n := g.toNat) (EW d Dl H 60 k.toNat) ⟨[], [], upd_same, .nil, rfl, Keep.new hD, hd.upd ndl, fun j hj => absurd hj (Nat.not_lt_zero j)⟩ (fun i H' hi W => ?_) (fun H' W => ?_)
    · have hd' := W.choose_spec.choose_spec.2.2.2.2.1
      refine ⟨rfl, ?_⟩
      dsimp only [tYes]
      rw [if_pos rfl]
      refine ⟨_, rfl, _, rfl, d, k, 2, rfl, hd', by omega, by omega, by decide, by decide, fun x n s H3 hx ho hd3 k3 => ?_⟩
      exact W.turn ndl hD k3 hd3 (hx.most (by omega)) ho (by omega)
    · obtain ⟨xs, rs, a1, a2, a3, a4, a5, a6⟩ := W
      refine ⟨Dl, xs, rfl, .inl ⟨SqL.of a1, fun p hp => q p xs rs _ upd_same (paired_imp (fun y r' z => RingAt.ex (.new hp) z) a2) (by omega) (by rw [a3]; exact a6) (a5.upd (a5.ne_new hp)) (a4.trans (Keep.new hp))⟩⟩
end
end K1

set_option exponentiation.threshold 400
namespace K1
open PySem PySem.Spec PyProof.Rows L2 Evl HM LX ZW ZM
theorem F_next {h : List Nat} (H : IsHeap h) {t : Int} {m : Nat} (hm : m ≤ F h t) (q : dg h m ≤ t) : m + 1 ≤ F h t := by
  have := (F_spec H t).2
  rcases Nat.lt_or_ge m (F h t) with z | z
  · exact z
  · have e : m = F h t := by omega
    rw [← e] at this
    omega
theorem F_stop {h : List Nat} (H : IsHeap h) {t : Int} {m : Nat} (hm : m ≤ F h t) (q : t < dg h m) : F h t = m := by
  rcases Nat.lt_or_ge m (F h t) with z | z
  · have := (F_spec H t).1 m z
    omega
  · omega
theorem iteT7 {b : Bool} {A B : Prop} (h : b = true) (a : A) : if b = true then A else B := by
  rw [if_pos h]
  exact a
section
variable {P : Program} {w : World} {K : PySem.W.Frag} {mg : Str → Option Value} {base : Heap}
def spRich : Sp := fun vs H Q _ => ∃ p rs ps, ∃ tot : Int, vs = [.ref p, .int (ps.length : Int), .int tot] ∧ ps.length ≤ 12 ∧ HeapAt H p (hseq rs ps ps.length) ∧ ∀ H', Ex H H' → Q (.int ((rich1 rs ps tot : Int) - 1)) H'
theorem ok_rich (T : Txt K mg) {f : Addr} {fd : FuncData} (D : DefAt K mg "_law_rich" sLRich ["_law_heap_here", "_law_rings", "_law_total"] f fd) : FnOk P w K mg base CX0 1 f fd ["_law_heap_here", "_law_rings", "_law_total"] spRich := by
  refine D.F.ok scLRich (fun vs H Q E h => ?_) (fun cdv A outer s₀ H vs Q E hr h => ?_)
  · obtain ⟨p, rs, ps, tot, rfl, _⟩ := h
    rfl
  · obtain ⟨p, rs, ps, tot, rfl, hl, hp, q⟩ := h
    refine ⟨_, pss_cons (ps_if (PW.pt (pw_or (pt_cmpR op_gt (pv 2) (pe_op op_sub (pe_op op_mul pe_int (pv 1)) pe_int) (nomark _))
          (pw_or1 (pt_cmpR op_lt (pv 2) pe_int (nomark _))))) (pss_one (ps_ret (pe_callB (call_max2 rfl) (by rfl) T.z_max (by decide +kernel) (pa_cons (pe_un un_neg pe_int) (pa_cons (pe_op op_sub (pv 2) (pv 1)) pa_nil))))) pss_nil)
      (pss_cons (ps_set (i := 3) scLRich.nd rfl (.inl rfl) (pe_un un_neg pe_int))
      (pss_one (ps_while PassesOwn.never (pt_val pe_bl) (pss_cons (ps_set (i := 4) scLRich.nd rfl (.inl rfl) (pe_op op_add (pe_op op_add (pe_op op_sub (pv 1) (pv 2)) (pv 3)) pe_int))
      (pss_cons (ps_if (PW.pt (pw_and (pt_cmpR op_gt (pv 4) pe_int (nomark _))
          (pw_and1 (PW.pt (pw_or (pt_cmpR op_lt (pe_callB call_len_seq (by rfl) T.z_len PySem.boot_len (pa_cons (pv 0) pa_nil)) (pe_op op_add (pv 3) pe_int) (nomark _))
          (pw_or1 (pt_cmpR op_lt (pe_ix ix_tup (pv 0) (pe_op op_add (pv 3) pe_int) (fun _ _ => rfl)) (pv 4) (nomark _)))))))) (pss_one (ps_ret (pv 3))) pss_nil)
      (pss_cons (ps_if (PW.pt (pw_and (pt_cmpR op_le (pv 4) pe_int (nomark _))
          (pw_and1 (pt_cmpR op_gt (pe_op op_add (pv 3) pe_int) (pv 2) (nomark _))))) (pss_one (ps_ret (pv 3))) pss_nil)
      (pss_one (ps_set (i := 3) scLRich.nd rfl (.inl rfl) (pe_op op_add (pv 3) pe_int))))))))), ?_⟩
    have great : 2 * (ps.length : Int) - 2 < tot → rich1 rs ps tot = (tot - ps.length + 1).toNat := rich_great rs ps
    have neg : tot < 0 → rich1 rs ps tot = 0 := rich_neg rs ps
    have vg : ∀ m : Nat, rich1 rs ps tot = m → m = (tot - (ps.length : Int) + 1).toNat → Q (.int (if tot - (ps.length : Int) > -1 then tot - (ps.length : Int) else -1)) H := fun m e1 e2 => by
      have := q _ (Ex.refl _)
      rw [e1, e2] at this
      rw [show (if tot - (ps.length : Int) > -1 then tot - (ps.length : Int) else -1) = ((tot - (ps.length : Int) + 1).toNat : Int) - 1 by split <;> omega]
      exact this
    have IH := (hseq_ok rs ps ps.length)
    have hlen : (hseq rs ps ps.length).length ≤ ps.length := IH.2.1
    replace IH := IH.1
    have er : rich1 rs ps tot = F (hseq rs ps ps.length) (tot - ps.length) := rfl
    generalize hseq rs ps ps.length = h at hp IH er hlen
    generalize htt : tot - (ps.length : Int) = t at er vg
    refine ⟨_, rfl, _, rfl, _, _, rfl, rfl, .inr (by constructor <;> omega), _, _, rfl, rfl, _, _, rfl, rfl, _, rfl, ite2 (fun c => ?_) (fun c => ?_)⟩
    · have c1 := of_decide_eq_true c
      have e := great (by omega)
      refine iteT ⟨1, rfl, _, rfl, _, rfl, _, _, rfl, rfl, _, _, rfl, ?_⟩
      dsimp only
      rw [htt]
      exact vg _ e (by omega)
    · have c1 : ¬ (tot > 2 * (ps.length : Int) - 2) := fun z => c (decide_eq_true z)
      refine ⟨_, rfl, _, _, rfl, rfl, _, rfl, ite2 (fun c2 => ?_) (fun c2 => ?_)⟩
      · have c3 := of_decide_eq_true c2
        have e := neg (by omega)
        refine ⟨1, rfl, _, rfl, _, rfl, _, _, rfl, rfl, _, _, rfl, ?_⟩
        dsimp only
        rw [htt]
        exact vg _ e (by omega)
      · have c3 : ¬ (tot < 0) := fun z => c2 (decide_eq_true z)
        refine ⟨1, rfl, fun n σ' H' => ∃ (m : Nat) (y4 : Option V), n = F h t - m ∧ m ≤ F h t ∧ σ' = [some (.ref p), some (.int (ps.length : Int)), some (.int tot), some (.int ((m : Int) - 1)), y4] ∧ Ex H H', ⟨_, 0, none, rfl, Nat.zero_le _, rfl, Ex.refl _⟩, fun n σ' H' hW => ?_⟩
        obtain ⟨m, y4, rfl, w1, rfl, e⟩ := hW
        have hp1 := e _ _ hp
        have hd : dg h m = (m : Int) - (hAt h m : Int) := rfl
        have gr : (ps.length : Int) - tot + ((m : Int) - 1) + 1 = (m : Int) - t := by omega
        have fin : F h t = m → Q (.int ((m : Int) - 1)) H' := fun z => by
          have := q _ e
          rw [er, z] at this
          exact this
        refine ⟨true, rfl, iteT ⟨fun σ2 H2 => σ2 = [some (.ref p), some (.int (ps.length : Int)), some (.int tot), some (.int (((m + 1 : Nat) : Int) - 1)), some (.int ((m : Int) - t))] ∧ H2 = H' ∧ m + 1 ≤ F h t, fun σ2 H2 hN => ?_, ?_⟩⟩
        · obtain ⟨rfl, rfl, nx⟩ := hN
          exact ⟨F h t - (m + 1), by omega, m + 1, _, rfl, nx, rfl, e⟩
        refine ⟨_, rfl, _, rfl, _, _, rfl, rfl, _, rfl, _, _, rfl, rfl, _, _, rfl, rfl, ?_⟩
        dsimp only
        rw [gr]
        have stq : (m : Int) - 1 + 1 = ((m + 1 : Nat) : Int) - 1 := by omega
        have hz : (hv h).length = h.length := hv_len h
        refine ⟨_, rfl, _, _, rfl, rfl, _, rfl, ite2 (fun d1 => ?_) (fun d1 => ?_)⟩
        · have d2 := of_decide_eq_true d1
          refine ⟨_, rfl, p, _, rfl, .inr (SqT.of hp1), _, rfl, _, _, rfl, rfl, _, _, rfl, rfl, _, rfl, ite2 (fun f1 => ?_) (fun f1 => ?_)⟩
          · have f2 := of_decide_eq_true f1
            have z0 : hAt h m = 0 := hAt_ge (by omega)
            exact iteT ⟨_, rfl, fin (F_stop IH w1 (by omega))⟩
          · have f2 : ¬ (((hv h).length : Int) < (m : Int) - 1 + 2) := fun z => f1 (decide_eq_true z)
            refine ⟨_, rfl, _, rfl, _, _, rfl, rfl, p, _, _, _, rfl, rfl, SqT.of hp1, at_of (show (m : Int) - 1 + 1 = (m : Int) by omega) (hv_get (by omega)), _, rfl, _, _, rfl, rfl, _, rfl, ite2 (fun f3 => ?_) (fun f3 => ?_)⟩
            · have f4 := of_decide_eq_true f3
              exact ⟨_, rfl, fin (F_stop IH w1 (by omega))⟩
            · have f4 : ¬ ((hAt h m : Int) < (m : Int) - t) := fun z => f3 (decide_eq_true z)
              refine ⟨_, rfl, _, _, rfl, rfl, _, rfl, ite2 (fun f5 => ?_) (fun _ => iteF ⟨_, rfl, _, _, rfl, rfl, ?_, rfl, F_next IH w1 (by omega)⟩)⟩
              · have := of_decide_eq_true f5
                omega
              · simp only [List.set]
                rw [stq]
        · have d2 : ¬ (0 < (m : Int) - t) := fun z => d1 (decide_eq_true z)
          refine iteF ⟨_, rfl, _, _, rfl, rfl, _, rfl, iteT7 (decide_eq_true (by omega)) ⟨_, rfl, _, _, rfl, rfl, _, rfl, _, _, rfl, rfl, _, rfl, ite2 (fun f5 => ?_) (fun _ => ⟨_, rfl, _, _, rfl, rfl, ?_, rfl, F_next IH w1 (by omega)⟩)⟩⟩
          · have := of_decide_eq_true f5
            omega
          · simp only [List.set]
            rw [stq]
end
end K1

set_option exponentiation.threshold 400
namespace K1
open PySem PySem.Spec PyProof.Rows L2 Evl HM LX ZW ZM
theorem mvp_take {rs : List (Int × Int)} {ps : List Int} (a : Int) (i : Nat) : ((List.range (i + 1)).map fun j => (ps.getD j 0 + a * K1N.sAt rs j) % (K1N.nAt rs j : Int)) = ((List.range i).map fun j => (ps.getD j 0 + a * K1N.sAt rs j) % (K1N.nAt rs j : Int)) ++ [(ps.getD i 0 + a * K1N.sAt rs i) % (K1N.nAt rs i : Int)] := by
  rw [List.range_succ, List.map_append]
  rfl
section
variable {P : Program} {w : World} {K : PySem.W.Frag} {mg : Str → Option Value} {base : Heap}
def spLH : Sp := fun vs H Q _ => ∃ c x xs rs ps, ∃ tot a b : Int, vs = [.ref c, .int tot, .ref x, .int a, .int b] ∧ H c = some (.tup xs) ∧ RingsAt H 60 xs rs ∧ xs.length ≤ 12 ∧ PlacesT H x ps ∧ ps.length = xs.length ∧ a.natAbs ≤ 1000 ∧ ∀ H', Ex H H' → Q (.int (rich1 rs (mvp rs a ps) (tot + a + b) : Int)) H'
theorem ok_h (T : Txt K mg) {f : Addr} {fd : FuncData} (D : DefAt K mg "_law_h" sLH ["_law_chain_here", "_law_total", "_law_x", "_law_a", "_law_b"] f fd) : FnOk P w K mg base CX0 3 f fd ["_law_chain_here", "_law_total", "_law_x", "_law_a", "_law_b"] spLH := by
  refine D.F.ok scLH (fun vs H Q E h => ?_) (fun cdv A outer s₀ H vs Q E hr h => ?_)
  · obtain ⟨c, x, xs, rs, ps, tot, a, b, rfl, _⟩ := h
    rfl
  · obtain ⟨c, x, xs, rs, ps, tot, a, b, rfl, hc, hR, hl, hx, hlen, h10, q⟩ := h
    obtain ⟨f1, fd1, D1⟩ := T.d_l_rich
    obtain ⟨f2, fd2, D2⟩ := T.d_l_heap
    have hr1 : Room 1 _ := hr.mono (by decide)
    have hr2 : Room 2 _ := hr.mono (by decide)
    refine ⟨_, pss_cons (ps_set (i := 5) scLH.nd rfl (.inl rfl) (pe_callTy call_tuple_of (by rfl) T.z_tuple (by decide +kernel) (pa_cons (pe_lc (own := [("_law_ring_here", 6), ("_law_place", 7)]) (g := gTup K 2 (gCons (gName 6) (gCons (gName 7) gNil))) (tt := tYes) rfl scLH.nd (RZ.pi_zipA (by rfl) T.z_zip (pa_cons (pv 0) (pa_cons (pv 2) pa_nil)))
        (blkOk_by (N := nLH) (sc := defScope sLH) (by decide +kernel)) (fun _ _ _ _ _ => (pg_tup (by rfl) (pgs_cons (pg_name (i := 6) scLH.nd rfl (.inl rfl)) (pgs_cons (pg_name (i := 7) scLH.nd rfl (.inl rfl)) pgs_nil)))) (fun _ _ _ _ _ => pts_nil)
        (fun _ _ _ _ _ => (pe_op op_mod (pe_op op_add (pv 7) (pe_op op_mul (pv 3) (pe_ix (show IxR _ (rIxT K) from ix_tup) (pv 6) pe_int (fun _ _ => rfl)))) (pe_ix (show IxR _ (rIxT K) from ix_tup) (pv 6) pe_int (fun _ _ => rfl))))) pa_nil)))
      (pss_one (ps_ret (pe_op op_add (pe_call (ok_rich T D1) hr1 (by rfl) D1.g D1.F.kp D1.b .nil pass0 (pa_cons (pe_call (ok_lheap T D2) hr2 (by rfl) D2.g D2.F.kp D2.b .nil pass0 (pa_cons (pv 0) (pa_cons (pv 5) pa_nil))) (pa_cons (pe_callB call_len_seq (by rfl) T.z_len PySem.boot_len (pa_cons (pv 0) pa_nil)) (pa_cons (pe_op op_add (pe_op op_add (pv 1) (pv 3)) (pv 4)) pa_nil)))) pe_int))), ?_⟩
    refine ⟨_, rfl, _, rfl, c, x, _, _, rfl, .inr ⟨SqT.of hc, SqT.of hx, fun Dq hD => ?_⟩⟩
    refine lc_zipT (K := K) (a := c) (b := x) (xs := xs) (ys := ps.map V.int) (n := xs.length) (Nat.le_refl _) (by rw [List.length_map]; omega) (.inl (Nat.le_refl _)) (fun i H' => H' Dq = some (.lst (((List.range i).map fun j => (ps.getD j 0 + a * K1N.sAt rs j) % (K1N.nAt rs j : Int)).map V.int)) ∧ Ex H H') ⟨upd_same, Ex.new hD⟩ (fun i H' hp => ⟨SqT.of (hp.2 _ _ hc), SqT.of (hp.2 _ _ hx)⟩) (fun i y z Tp H' hi hy hz hp nT => ?_) (fun H' hp => ?_)
    · obtain rfl := pl_get hz
      obtain ⟨w1, w2⟩ := hp
      have eT := Ex.new (o := .tup [y, V.int (ps.getD i 0)]) nT
      obtain ⟨t, rfl, ht, b1, b2, b3, b4⟩ := rings_nth4 (rings_ex4 (w2.trans eT) hR) hy
      refine ⟨Tp, _, rfl, SqT.of upd_same, rfl, .ref t, [_], rfl, _, [], rfl, rfl, rfl, ?_⟩
      dsimp only [tYes]
      rw [if_pos rfl]
      refine ⟨_, rfl, _, rfl, _, rfl, t, _, 1, _, rfl, rfl, SqT.of ht, rfl, _, _, rfl, rfl, .inl (by constructor <;> omega), _, _, rfl, rfl, _, rfl, t, _, 0, _, rfl, rfl, SqT.of ht, rfl, _, _, rfl, rfl, by omega, ?_⟩
      refine ⟨_, eT _ _ w1, ?_, ?_, Ex.mut (w2.trans eT) hD⟩
      · rw [List.length_map, List.length_map, List.length_range]
        exact small1000 (by omega)
      · rw [upd_same, mvp_take, List.map_append]
        rfl
    · obtain ⟨w1, w2⟩ := hp
      refine ⟨Dq, _, rfl, .inl ⟨SqL.of w1, fun m hm => ?_⟩⟩
      have em := Ex.new (o := .tup (((List.range xs.length).map fun j => (ps.getD j 0 + a * K1N.sAt rs j) % (K1N.nAt rs j : Int)).map V.int)) hm
      have hm1 : PlacesT (upd H' m (.tup (((List.range xs.length).map fun j => (ps.getD j 0 + a * K1N.sAt rs j) % (K1N.nAt rs j : Int)).map V.int))) m (mvp rs a ps) := by
        unfold mvp
        rw [hlen]
        exact upd_same
      have e1 := w2.trans em
      generalize upd H' m (.tup (((List.range xs.length).map fun j => (ps.getD j 0 + a * K1N.sAt rs j) % (K1N.nAt rs j : Int)).map V.int)) = H1 at hm1 e1 ⊢
      have ml : (mvp rs a ps).length = xs.length := by rw [mvp_len, hlen]
      refine ⟨_, rfl, _, rfl, c, m, xs, rs, _, rfl, e1 _ _ hc, rings_ex4 e1 hR, hl, hm1, ml, fun r H2 e2 hh => ?_⟩
      have e12 := e1.trans e2
      refine ⟨_, rfl, c, _, rfl, .inr (SqT.of (e12 _ _ hc)), _, rfl, _, rfl, _, _, rfl, rfl, _, rfl, _, _, rfl, rfl, r, rs, mvp rs a ps, tot + a + b, ?_, by omega, by rw [ml]; exact hh, fun H3 e3 => ⟨_, _, rfl, rfl, ?_⟩⟩
      · rw [ml]
        rfl
      · dsimp only
        rw [show (rich1 rs (mvp rs a ps) (tot + a + b) : Int) - 1 + 1 = (rich1 rs (mvp rs a ps) (tot + a + b) : Int) by omega]
        exact q _ (e12.trans e3)
end
end K1

set_option exponentiation.threshold 400
namespace K1
open PySem PySem.Spec PyProof.Rows L2 Evl HM LX MP ZW
theorem ordJ_bd {H : Hp} {xs : List V} {rs : List (Int × Int)} (h : RingsAt H 60 xs rs) {j : Nat} (hj : j < rs.length) : 2 ≤ ordJ rs j ∧ ordJ rs j ≤ 60 := by
  obtain ⟨o1, o2⟩ := rings_ok h j hj
  obtain ⟨x, hx, t, rfl, ht, m1, m2, m3, m4⟩ := rings_nth h hj
  have a := K1M.ord_ge2 (n := K1N.nAt rs j) (s := (K1N.sAt rs j).natAbs) (by omega) (by omega)
  have b := K1M.ord_le (n := K1N.nAt rs j) (s := (K1N.sAt rs j).natAbs)
  unfold ordJ
  exact ⟨a, by omega⟩
theorem ords_snoc (rs : List (Int × Int)) (i : Nat) : (((List.range (i + 1)).map (ordJ rs)).map fun (x : Nat) => (x : Int)).map V.int = (((List.range i).map (ordJ rs)).map fun (x : Nat) => (x : Int)).map V.int ++ [V.int (ordJ rs i : Int)] := by
  rw [List.range_succ, List.map_append, List.map_append, List.map_append]
  rfl
theorem lcm_round {rs : List (Int × Int)} {g : Nat} : RoundOk rs g (lcmL ((List.range g).map (ordJ rs))) := fun j hj => (lcm_dvd_all _ 1).2 _ (List.mem_map.mpr ⟨j, List.mem_range.mpr hj, rfl⟩)
/-- what stands when the chain and its round are chosen -/
def Chosen (d : Addr) (H : Hp) (σ : L2.St) (H' : Hp) : Prop := ∃ (c : Addr) (xs : List V) (rs : List (Int × Int)) (m : Nat), σ = [some (.ref d), some (.ref c), some (.int (m : Int)), none, none, none, none, none, none, none, none, none, none, none] ∧ H' c = some (.tup xs) ∧ RingsAt H' 60 xs rs ∧ 1 ≤ xs.length ∧ xs.length ≤ 5 ∧ RoundOk rs xs.length m ∧ 2 ≤ m ∧ m ≤ 60 ∧ Dice H' d ∧ Keep d H H'
section
variable {P : Program} {w : World} {K : PySem.W.Frag} {mg : Str → Option Value} {base : Heap} {C : Addr}
def spRight : Sp := fun vs H Q _ => ∃ (d : Addr), vs = [.ref d] ∧ Dice H d ∧ ∀ H', Dice H' d → Keep d H H' → Q (.bl true) H'
theorem ok_right (T : Txt K mg) (R : RTxt K mg C) {f : Addr} {fd : FuncData} (D : DefAt K mg "_law_right" sLRight ["_law_dice_here"] f fd) : FnOk P w K mg base CX0 6 f fd ["_law_dice_here"] spRight := by
  refine D.F.ok scLRight (fun vs H Q E h => ?_) (fun cdv A outer s₀ H vs Q E hr h => ?_)
  · obtain ⟨d, rfl, _⟩ := h
    rfl
  · obtain ⟨d, rfl, hd, kQ⟩ := h
    obtain ⟨g0, gd0, M0, F0, b0⟩ := R.init
    obtain ⟨q1, g1, gd1, p1, F1, b1⟩ := R.shift
    obtain ⟨q2, g2, gd2, p2, F2, b2⟩ := R.falls
    obtain ⟨g3, gd3, m3, F3, b3⟩ := R.counted
    obtain ⟨f1, fd1, D1⟩ := T.d_l_h
    obtain ⟨f2, fd2, D2⟩ := T.d_l_roll
    obtain ⟨f3, fd3, D3⟩ := T.d_l_order
    obtain ⟨f4, fd4, D4⟩ := T.d_is_round
    obtain ⟨f5, fd5, D5⟩ := T.d_l_map
    obtain ⟨f6, fd6, D6⟩ := T.d_l_tuple
    obtain ⟨f7, fd7, D7⟩ := T.d_l_equal_chain
    obtain ⟨f8, fd8, D8⟩ := T.d_l_multiple
    obtain ⟨f9, fd9, D9⟩ := T.d_l_chain
    have hr1 : Room 1 _ := hr.mono (by decide)
    have hr2 : Room 2 _ := hr.mono (by decide)
    have hr3 : Room 3 _ := hr.mono (by decide)
    have hr4 : Room 4 _ := hr.mono (by decide)
    have hu1 := Nat.lt_of_le_of_lt (Nat.add_le_add_left (show 1 ≤ 64 by decide) _) hr.units
    refine ⟨_, pss_cons (ps_set (i := 1) scLRight.nd rfl (.inl rfl) (pe_call (ok_chain T D9) hr4 (by rfl) D9.g D9.F.kp D9.b .nil pass0 (pa_cons (pv 0) (pa_cons (pe_op op_add pe_int (pe_call (ok_roll T D2) hr1 (by rfl) D2.g D2.F.kp D2.b .nil pass0 (pa_cons (pv 0) (pa_cons pe_int pa_nil)))) (pa_cons pe_int pa_nil)))))
      (pss_cons (ps_set (i := 2) scLRight.nd rfl (.inr rfl) (pe_call (ok_multiple T D8) hr2 (by rfl) D8.g D8.F.kp D8.b .nil pass0 (pa_cons (pe_lc (own := [("_law_ring_here", 12)]) (g := gName 12) (tt := tYes) rfl scLRight.nd (pi_tup (pv 1))
        (blkOk_by (N := nLRight) (sc := defScope sLRight) (by decide +kernel)) (fun _ _ _ _ _ => (pg_name (i := 12) scLRight.nd rfl (.inl rfl))) (fun _ _ _ _ _ => pts_nil)
        (fun _ _ _ _ _ => (pe_call (ok_lorder T D3) hr2 (by rfl) D3.g D3.F.kp D3.b .nil pass0 (pa_cons (pv 12) pa_nil)))) pa_nil)))
      (pss_cut (ps_if (pt_cmpR op_gt (pv 2) pe_int (nomark _)) (pss_cons (ps_set (i := 1) scLRight.nd rfl (.inl rfl) (pe_call (ok_equal_chain T D7) hr4 (by rfl) D7.g D7.F.kp D7.b .nil pass0 (pa_cons (pv 0) (pa_cons (pe_op op_add pe_int (pe_call (ok_roll T D2) hr1 (by rfl) D2.g D2.F.kp D2.b .nil pass0 (pa_cons (pv 0) (pa_cons pe_int pa_nil)))) (pa_cons (pe_op op_add pe_int (pe_call (ok_roll T D2) hr1 (by rfl) D2.g D2.F.kp D2.b .nil pass0 (pa_cons (pv 0) (pa_cons pe_int pa_nil)))) pa_nil)))))
      (pss_one (ps_set (i := 2) scLRight.nd rfl (.inr rfl) (pe_call (ok_lorder T D3) hr2 (by rfl) D3.g D3.F.kp D3.b .nil pass0 (pa_cons (pe_ix ix_tup (pv 1) pe_int (fun _ _ => rfl)) pa_nil))))) pss_nil)
      (pss_cons (ps_par (i := 3) (j := 4) (by rfl) scLRight.nd rfl rfl (by decide) rfl rfl (pa_cons (pe_call (ok_tuple T D6) hr2 (by rfl) D6.g D6.F.kp D6.b .nil pass0 (pa_cons (pv 0) (pa_cons (pv 1) pa_nil))) (pa_cons (pe_op op_sub (pe_call (ok_roll T D2) hr1 (by rfl) D2.g D2.F.kp D2.b .nil pass0 (pa_cons (pv 0) (pa_cons pe_int pa_nil))) pe_int) pa_nil)) (by rfl))
      (pss_cons (ps_set (i := 5) scLRight.nd rfl (.inr rfl) (pe_call (ok_lmap T D5) hr1 (by rfl) D5.g D5.F.kp D5.b .nil pass0 (pa_cons (pv 1) (pa_cons (pv 4) (pa_cons (pv 3) (pa_cons pe_int (pa_cons (pe_op op_sub (pv 2) pe_int) pa_nil)))))))
      (pss_cons (ps_set (i := 6) scLRight.nd rfl (.inl rfl) (pe_callTy call_tuple_of (by rfl) T.z_tuple (by decide +kernel) (pa_cons (pe_lc (own := [("_law_i", 13)]) (g := gName 13) (tt := tYes) rfl scLRight.nd (pi_range1 (by rfl) T.z_range (pa_cons (pv 2) pa_nil))
        (blkOk_by (N := nLRight) (sc := defScope sLRight) (by decide +kernel)) (fun _ _ _ _ _ => (pg_name (i := 13) scLRight.nd rfl (.inl rfl))) (fun _ _ _ _ _ => pts_nil)
        (fun _ _ _ _ _ => (pe_dget hu1 (pv 5) (pv 13) (fun _ _ => rfl)))) pa_nil)))
      (pss_cons (ps_if (pt_not (pt_val (pe_call (ok_is_round T D4) hr2 (by rfl) D4.g D4.F.kp D4.b .nil pass0 (pa_cons (pv 6) pa_nil)))) (pss_one (ps_ret pe_bl)) pss_nil)
      (pss_cons (ps_set (i := 7) scLRight.nd rfl (.inl rfl) (pe_make M0 (ok_rinit T R F0) hr4 (by rfl) R.mgC b0 .nil pass0 (pa_cons (pv 6) pa_nil)))
      (pss_cons (ps_set (i := 8) scLRight.nd rfl (.inl rfl) (pe_callB (cr_sum rfl) (by rfl) T.z_sum (by decide +kernel) (pa_cons (pe_lc (own := [("_law_ring_here", 12)]) (g := gName 12) (tt := tYes) rfl scLRight.nd (pi_tup (pv 1))
        (blkOk_by (N := nLRight) (sc := defScope sLRight) (by decide +kernel)) (fun _ _ _ _ _ => (pg_name (i := 12) scLRight.nd rfl (.inl rfl))) (fun _ _ _ _ _ => pts_nil)
        (fun _ _ _ _ _ => (pe_op op_fdiv (pv 2) (pe_call (ok_lorder T D3) hr2 (by rfl) D3.g D3.F.kp D3.b .nil pass0 (pa_cons (pv 12) pa_nil))))) pa_nil)))
      (pss_cons (ps_if (PW.pt (pw_or (pt_cmpR op_ne (pe_prop (pv 7) R.cl p1 (ok_rshift T R F1) hr3 b1 .nil pass0 rfl) (pe_op op_sub (pv 4) (pe_callB call_len_seq (by rfl) T.z_len PySem.boot_len (pa_cons (pv 1) pa_nil))) (nomark _))
          (pw_or1 (pt_cmpR op_gt (pe_prop (pv 7) R.cl p2 (ok_rfalls T R F2) hr3 b2 .nil pass0 rfl) (pv 8) (nomark _))))) (pss_one (ps_ret pe_bl)) pss_nil)
      (pss_cons (ps_for PassesOwn.never rfl (pi_range1 (by rfl) T.z_range (pa_cons pe_int pa_nil)) (pg_name (i := 9) scLRight.nd rfl (.inl rfl))
        (pss_cons (ps_par (i := 10) (j := 11) (by rfl) scLRight.nd rfl rfl (by decide) rfl rfl (pa_cons (pe_op op_sub (pe_call (ok_roll T D2) hr1 (by rfl) D2.g D2.F.kp D2.b .nil pass0 (pa_cons (pv 0) (pa_cons pe_int pa_nil))) pe_int) (pa_cons (pe_op op_sub (pe_call (ok_roll T D2) hr1 (by rfl) D2.g D2.F.kp D2.b .nil pass0 (pa_cons (pv 0) (pa_cons pe_int pa_nil))) pe_int) pa_nil)) (by rfl))
      (pss_one (ps_if (pt_cmpR op_ne (pe_meth (pv 7) R.cl m3 (ok_rcounted T R F3) hr3 b3 .nil pass0 (pa_cons (pv 10) (pa_cons (pv 11) pa_nil))) (pe_call (ok_h T D1) hr3 (by rfl) D1.g D1.F.kp D1.b .nil pass0 (pa_cons (pv 1) (pa_cons (pv 4) (pa_cons (pv 3) (pa_cons (pv 10) (pa_cons (pv 11) pa_nil)))))) (nomark _)) (pss_one (ps_ret pe_bl)) pss_nil))))
      (pss_one (ps_ret pe_bl)))))))))))), ?_⟩
    refine ⟨_, rfl, _, rfl, d, _, rfl, hd, by decide, by decide, fun r2 H2 r20 r21 hd2 k2 => ⟨_, _, rfl, rfl, d, 1 + r2, 6, rfl, hd2, by omega, by omega, by omega, by omega, fun c xs rs H3 hc hR6 hg hd3 k3 => ?_⟩⟩
    have hR : RingsAt H3 60 xs rs := paired_imp (fun _ _ z => z.most (by omega)) hR6
    have rsl : xs.length = rs.length := paired_len hR
    have kA := k2.trans k3
    refine ⟨_, rfl, c, rfl, ⟨_, SqT.of hc⟩, fun Dl hD => ?_⟩
    refine lc_tup (K := K) (a := c) (xs := xs) (fun i H' => H' Dl = some (.lst ((((List.range i).map (ordJ rs)).map fun (x : Nat) => (x : Int)).map V.int)) ∧ Ex H3 H') ⟨upd_same, Ex.new hD⟩ (fun i H' _ hp2 => SqT.of (hp2.2 _ _ hc)) (fun i x H' hx hp2 => ?_) (fun H4 hp2 => ?_)
    · obtain ⟨w1, w2⟩ := hp2
      have ra := rings_nth4 (rings_ex4 w2 hR) hx
      have hi : i < xs.length := (List.getElem?_eq_some_iff.mp hx).1
      refine ⟨rfl, ?_⟩
      dsimp only [tYes]
      rw [if_pos rfl]
      refine ⟨_, rfl, x, _, _, rfl, ra, fun H5 e5 => ⟨_, e5 _ _ w1, ?_, ?_, Ex.mut (w2.trans e5) hD⟩⟩
      · rw [List.length_map, List.length_map, List.length_map, List.length_range]
        exact small1000 (by omega)
      · rw [upd_same, ords_snoc, Int.natAbs_natCast]
        rfl
    obtain ⟨w1, w2⟩ := hp2
    have ob : ∀ x ∈ (List.range xs.length).map (ordJ rs), 1 ≤ x ∧ x ≤ 60 := fun x hx => by
      obtain ⟨j, hj, rfl⟩ := List.mem_map.mp hx
      have := ordJ_bd hR (show j < rs.length by have := List.mem_range.mp hj; omega)
      omega
    refine ⟨Dl, _, rfl, w1, by rw [List.length_map, List.length_range]; omega, ob, fun H5 e5 => ?_⟩
    have e35 := w2.trans e5
    have hd5 := hd3.ex e35
    have hc5 := e35 _ _ hc
    have hR5 := rings_ex4 e35 hR
    have k5 := kA.trans (Keep.ex e35)
    have lp : 1 ≤ lcmL ((List.range xs.length).map (ordJ rs)) := (lcm_bd _ ob 1 (Nat.le_refl _)).1
    have l2 : 2 ≤ lcmL ((List.range xs.length).map (ordJ rs)) := by
      have a := ordJ_bd hR (show 0 < rs.length by omega)
      have b := Nat.le_of_dvd (by omega) (lcm_round (rs := rs) (g := xs.length) 0 (by omega))
      omega
    refine ⟨Chosen d H, ?_, fun σ6 H6 hW => ?_⟩
    · refine ⟨_, rfl, _, _, rfl, rfl, _, rfl, ite2 (fun cc => ?_) (fun cc => ?_)⟩
      · refine ⟨_, rfl, _, rfl, d, _, rfl, hd5, by decide, by decide, fun r3 H6 r30 r31 hd6 k6 => ⟨_, _, rfl, rfl, _, rfl, d, _, rfl, hd6, by decide, by decide, fun r4 H7 r40 r41 hd7 k7 => ⟨_, _, rfl, rfl, d, 1 + r3, 2 + r4, rfl, hd7, by omega, by omega, by omega, by omega, fun c2 xs2 rs2 H8 hc8 hR8 hg8 eo hd8 k8 => ?_⟩⟩⟩
        have l2' : xs2.length = rs2.length := paired_len hR8
        obtain ⟨y, hy, ry⟩ := rings_nth hR8 (show 0 < rs2.length by omega)
        have e0 := eo 0 (by omega)
        refine ⟨_, rfl, c2, _, _, y, rfl, rfl, SqT.of hc8, atI_nat hy, y, _, _, rfl, ry, fun H9 e9 => ?_⟩
        have ro2 : RoundOk rs2 xs2.length (2 + r4).toNat := fun j hj => by
          unfold ordJ
          rw [eo j hj]
          exact Nat.dvd_refl _
        refine ⟨c2, xs2, rs2, (2 + r4).toNat, ?_, e9 _ _ hc8, rings_ex4 e9 hR8, by omega, by omega, ro2, by omega, by omega, hd8.ex e9, (((k5.trans k6).trans k7).trans k8).trans (Keep.ex e9)⟩
        rw [Int.natAbs_natCast, e0]
        rfl
      · have cc : ¬ ((lcmL ((List.range xs.length).map (ordJ rs)) : Int) > 60) := fun z => cc (decide_eq_true z)
        exact ⟨c, xs, rs, _, rfl, hc5, hR5, by omega, by omega, lcm_round, l2, by omega, hd5, k5⟩
    obtain ⟨c, xs, rs, m, rfl, hc, hR, l1, l5, ro, m2, m60, hd6, k6⟩ := hW
    have rsl : xs.length = rs.length := paired_len hR
    refine ⟨_, rfl, _, rfl, d, c, xs, rs, rfl, hd6, hc, hR, by omega, fun a ps H7 hP pl po hd7 k7 => ⟨_, rfl, d, _, rfl, hd7, by decide, by decide, fun t H8 t0 t1 hd8 k8 => ⟨_, _, rfl, rfl, ?_⟩⟩⟩
    obtain ⟨tot, htot⟩ : ∃ tot : Int, tot = t - 2 := ⟨_, rfl⟩
    refine ⟨_, _, rfl, ?_⟩
    show tSeq _ _ _ [some (.ref d), some (.ref c), some (.int (m : Int)), some (.ref a), some (.int (t - 2)), none, none, none, none, none, none, none, none, none] H8
    rw [← htot]
    have k68 := k7.trans k8
    have hc8 := k68.tup hd6 hc
    have hR8 : RingsAt H8 60 xs rs := paired_imp (fun _ _ z => RingAt.keep k68 hd6 z) hR
    have hP8 : PlacesT H8 a ps := k8.tup hd7 hP
    have CA : ClsAt H8 c a xs rs ps tot := ⟨hc8, hR8, l1, by omega, hP8, pl, po, by omega⟩
    have OK := CA.ok
    have roP : RoundOk rs ps.length m := by rw [pl]; exact ro
    refine ⟨_, rfl, _, rfl, _, rfl, _, rfl, _, _, rfl, rfl, c, a, xs, rs, ps, tot, 0, (m : Int) - 1, rfl, CA, by omega, by omega, fun dd H9 e9 hdd => ?_⟩
    obtain ⟨f, hf⟩ : ∃ f, f = fm rs ps tot := ⟨_, rfl⟩
    rw [← hf] at hdd
    have gv : ∀ (H' : Hp) (k : Nat), Ex H9 H' → k < m → DGet H' dd (V.int (0 + (k : Int))) (some (V.int (f (k : Int)))) := fun H' k e hk => by
      have hw : k < (win f 0 ((m : Int) - 1 - 0 + 1).toNat).length := by rw [win_len]; omega
      have := DGet.k (k := Sum.inl (0 + (k : Int))) (e _ _ hdd)
      rw [DK.kvs_get 0 _ hw, List.getD_eq_getElem?_getD, win_get (by rw [win_len] at hw; exact hw)] at this
      rw [Int.zero_add] at this ⊢
      exact this
    refine ⟨_, rfl, _, rfl, by omega, by omega, fun Dl hD => ?_⟩
    refine lc_range (lo := 0) (n := (m : Int).toNat) (fun i H' => H' Dl = some (.lst (((List.range i).map fun (x : Nat) => f (x : Int)).map V.int)) ∧ Ex H9 H') ⟨upd_same, Ex.new hD⟩ (fun i H' hi hp2 => ?_) (fun H10 hp2 => ?_)
    · obtain ⟨v1, v2⟩ := hp2
      have hi : i < m := hi
      refine ⟨rfl, ?_⟩
      dsimp only [tYes]
      rw [if_pos rfl]
      refine ⟨_, rfl, _, rfl, dd, _, rfl, gv H' i v2 hi, _, v1, ?_, ?_, Ex.mut v2 hD⟩
      · rw [List.length_map, List.length_map, List.length_range]
        exact small1000 (by omega)
      · rw [upd_same, row_snoc, List.map_append]
        rfl
    obtain ⟨v1, v2⟩ := hp2
    rw [Int.toNat_natCast] at v1
    refine ⟨Dl, _, rfl, .inl ⟨SqL.of v1, fun row hrow => ?_⟩⟩
    have xr := Ex.new (o := .tup (((List.range m).map fun (x : Nat) => f (x : Int)).map V.int)) hrow
    have gr : (upd H10 row (.tup (((List.range m).map fun (x : Nat) => f (x : Int)).map V.int))) row = some (.tup ((rowF m f).map V.int)) := upd_same
    have e811 := (e9.trans v2).trans xr
    generalize upd H10 row (.tup (((List.range m).map fun (x : Nat) => f (x : Int)).map V.int)) = H11 at *
    have RA : RowAt H11 row m f := ⟨gr, by omega, m60⟩
    have fb : ∀ i : Nat, i < m → -(10 ^ 60) < f (i : Int) ∧ f (i : Int) < 10 ^ 60 := fun i hi => by
      have := fm_bound rs ps tot (i : Int)
      rw [← hf] at this
      constructor <;> omega
    have pm := fm_rests (m := m) (by omega) OK roP tot
    rw [← hf] at pm
    refine ⟨_, rfl, row, m, f, rfl, RA, fb, pm, fun H12 e12 => ⟨true, rfl, iteF ?_⟩⟩
    have RA12 : RowAt H12 row m f := ⟨e12 _ _ gr, by omega, m60⟩
    refine ⟨_, rfl, fun x dx nx ndx nex => ?_⟩
    have nx0 : H12 x = none := nx
    have eX : Ex H12 (upd (upd H12 dx (.own x)) x (.ins C dx [])) := fun b o e => by
      rw [upd_ne (ne_of_none e nx), upd_ne (ne_of_none e ndx)]
      exact e
    refine ⟨x, dx, row, m, f, rfl, upd_same, ⟨eX _ _ RA12.1, RA12.2⟩, fb, pm, fun H13 kx hx => ⟨rfl, ?_⟩⟩
    have e1213 : Ex H12 H13 := fun b o e => kx _ _ (ne_of_none e nx) (eX _ _ e)
    have e813 := (e811.trans e12).trans e1213
    have hc13 := e813 _ _ hc8
    have hR13 := rings_ex4 e813 hR8
    have hr13 := e1213 _ _ RA12.1
    refine ⟨_, rfl, c, rfl, ⟨_, SqT.of hc13⟩, fun D2 hD2 => ?_⟩
    refine lc_tup (K := K) (a := c) (xs := xs) (fun i H' => H' D2 = some (.lst (((List.range i).map fun j => ((m / ordJ rs j : Nat) : Int)).map V.int)) ∧ Ex H13 H') ⟨upd_same, Ex.new hD2⟩ (fun i H' _ hp2 => SqT.of (hp2.2 _ _ hc13)) (fun i y H' hy hp2 => ?_) (fun H14 hp2 => ?_)
    · obtain ⟨w1, w2⟩ := hp2
      have ra := rings_nth4 (rings_ex4 w2 hR13) hy
      have hi : i < xs.length := (List.getElem?_eq_some_iff.mp hy).1
      have ob := ordJ_bd hR13 (show i < rs.length by omega)
      refine ⟨rfl, ?_⟩
      dsimp only [tYes]
      rw [if_pos rfl]
      refine ⟨_, rfl, _, rfl, y, _, _, rfl, ra, fun H5 e5 => ?_⟩
      rw [Int.natAbs_natCast]
      refine ⟨_, _, rfl, rfl, ⟨?_, ?_⟩, _, e5 _ _ w1, ?_, ?_, Ex.mut (w2.trans e5) hD2⟩
      · show (0 : Int) < (ordJ rs i : Int)
        omega
      · show (ordJ rs i : Int) < 1073741824
        omega
      · rw [List.length_map, List.length_map, List.length_range]
        exact small1000 (by omega)
      · rw [upd_same, List.range_succ, List.map_append, List.map_append]
        rfl
    obtain ⟨w1, w2⟩ := hp2
    refine ⟨D2, _, rfl, SqL.of w1, ?_⟩
    have lets : ((List.range xs.length).map fun j => ((m / ordJ rs j : Nat) : Int)).sum = sumL (List.range xs.length) fun j => ((m / ordJ rs j : Nat) : Int) := rfl
    have hx14 := w2 _ _ hx
    have hr14 := w2 _ _ hr13
    have RA14 : RowAt H14 row m f := ⟨hr14, by omega, m60⟩
    have hc14 := w2 _ _ hc13
    have sh := fm_sum (m := m) OK roP tot
    rw [← hf, pl] at sh
    refine ⟨_, rfl, x, dx, _, rfl, hx14, x, dx, row, .non, m, f, rfl, hx14, RA14, fun H15 e15 => ?_⟩
    have hc15 := e15 _ _ hc14
    have hx15 := e15 _ _ hx14
    have RA15 : RowAt H15 row m f := ⟨e15 _ _ hr14, by omega, m60⟩
    have shv : ((sumL (List.range m) fun (i : Nat) => f (i : Int)) - sumL (List.range m) fun (i : Nat) => (i : Int)) / (m : Int) = tot - (xs.length : Int) := by
      rw [sh, show (sumL (List.range m) fun (i : Nat) => (i : Int)) + (m : Int) * (tot - (xs.length : Int)) - (sumL (List.range m) fun (i : Nat) => (i : Int)) = (m : Int) * (tot - (xs.length : Int)) by omega]
      exact Int.mul_ediv_cancel_left _ (by omega)
    rw [shv]
    refine ⟨_, rfl, _, rfl, c, _, rfl, .inr (SqT.of hc15), _, _, rfl, rfl, rfl, _, rfl, ?_⟩
    rw [decide_eq_true rfl]
    refine iteF ?_
    have fl := fm_falls (m := m) (by omega) OK roP tot
    rw [← hf, pl] at fl
    refine ⟨_, rfl, x, dx, _, rfl, hx15, x, dx, row, m, f, rfl, hx15, RA15, fun H16 k16 hx16 => ?_⟩
    refine ⟨_, rfl, _, _, rfl, rfl, _, rfl, ?_⟩
    rw [lets, decide_eq_false (show ¬ (sumL (List.range xs.length) fun j => ((m / ordJ rs j : Nat) : Int)) < fallsR m f by omega)]
    refine iteF ?_
    have e815 := ((e813.trans w2).trans e15)
    have nx : ∀ {b : Addr} {zs : List V}, H15 b = some (.tup zs) → b ≠ x := fun hb => ne_of hb hx15 (by intro z; cases z)
    have hc16 := k16 _ _ (nx hc15) hc15
    have hP15 := e815 _ _ hP8
    have hP16 : PlacesT H16 a ps := k16 _ _ (nx hP15) hP15
    have hR15 := rings_ex4 e815 hR8
    have hR16 : RingsAt H16 60 xs rs := paired_imp (fun _ _ z => by
      obtain ⟨u, rfl, hu, z'⟩ := z
      exact ⟨u, rfl, k16 _ _ (nx hu) hu, z'⟩) hR15
    have RA16 : RowAt H16 row m f := ⟨k16 _ _ (nx RA15.1) RA15.1, by omega, m60⟩
    have hd15 := hd8.ex e815
    have ndx2 : d ≠ x := by
      obtain ⟨_, _, _, hdl⟩ := hd15
      exact ne_of hdl hx15 (by intro z; cases z)
    have hd16 : Dice H16 d := by
      obtain ⟨b1, b2, b3, hdl⟩ := hd15
      exact ⟨b1, b2, b3, k16 _ _ ndx2 hdl⟩
    have kend : Keep d H H16 := fun b o nb hb => by
      have h8 := ((k6.trans k7).trans k8) b o nb hb
      have h11 := (e811.trans e12) _ _ h8
      have h13 := e1213 _ _ h11
      exact k16 _ _ (ne_of_none h11 nx0) ((w2.trans e15) _ _ h13)
    refine ⟨_, rfl, by decide, by decide, ?_⟩
    refine for_range (lo := 0) (n := (6 : Int).toNat) (fun i σ' H' => ∃ (y9 y10 y11 : Option V), σ' = [some (.ref d), some (.ref c), some (.int (m : Int)), some (.ref a), some (.int tot), some (.ref dd), some (.ref row), some (.ref x), some (.int (sumL (List.range xs.length) fun j => ((m / ordJ rs j : Nat) : Int))), y9, y10, y11, none, none] ∧ Dice H' d ∧ Keep d H16 H') ⟨_, _, _, rfl, hd16, Keep.refl _ _⟩ (fun i σ' H' hi hW => ?_) (fun σ' H' hW => ?_)
    · obtain ⟨y9, y10, y11, rfl, hd', k'⟩ := hW
      refine ⟨_, rfl, d, _, rfl, hd', by decide, by decide, fun u H2 u0 u1 hd2 k2 => ⟨_, _, rfl, rfl, _, rfl, d, _, rfl, hd2, by decide, by decide, fun v H3 v0 v1 hd3 k3 => ⟨_, _, rfl, rfl, _, _, rfl, ?_⟩⟩⟩
      have kk := (k'.trans k2).trans k3
      have hx3 := kk _ _ ndx2.symm hx16
      have hr3' := kk.tup hd16 RA16.1
      have hc3 := kk.tup hd16 hc16
      have hP3 : PlacesT H3 a ps := kk.tup hd16 hP16
      have hR3 : RingsAt H3 60 xs rs := paired_imp (fun _ _ z => RingAt.keep kk hd16 z) hR16
      have cnt : cntR m f (u - 6) (v - 6) = (rich1 rs (mvp rs (u - 6) ps) (tot + (u - 6) + (v - 6)) : Int) := by
        rw [hf]
        exact fm_count (by omega) OK roP tot (u - 6) (v - 6)
      refine ⟨_, rfl, x, dx, _, rfl, hx3, rf_no _ _ (by decide +kernel) (by decide +kernel), _, rfl, _, rfl, x, dx, row, _, m, f, u - 6, v - 6, rfl, hx3, ⟨hr3', by omega, m60⟩, by omega, by omega, by omega, by omega, fun H4 e4 => ?_⟩
      refine ⟨_, rfl, _, rfl, _, rfl, _, rfl, _, rfl, c, a, xs, rs, ps, tot, u - 6, v - 6, rfl, e4 _ _ hc3, rings_ex4 e4 hR3, by omega, e4 _ _ hP3, pl, by omega, fun H5 e5 => ?_⟩
      rw [cnt]
      refine ⟨rfl, false, by simp, iteF ?_⟩
      have e35 := e4.trans e5
      exact ⟨_, _, _, rfl, hd3.ex e35, kk.trans (Keep.ex e35)⟩
    · obtain ⟨y9, y10, y11, rfl, hd', k'⟩ := hW
      exact kQ _ hd' (kend.trans k')
end
end K1

set_option exponentiation.threshold 400
namespace K1
open PySem PySem.Spec PyProof.Rows L2 Evl HM LX
theorem sql_keep {K : PySem.W.Frag} {H H1 H2 : Hp} {p a : Addr} {xs : List V} (h0 : H p = none) (e : Ex H H1) (k : Keep p H1 H2) (h : SqL K H a xs) : SqL K H2 a xs := by
  rcases h with (h | ⟨o, h⟩) | h
  · exact .inl (.inl (k _ _ (ne_of_none h h0) (e _ _ h)))
  · exact .inl (.inr ⟨o, k _ _ (ne_of_none h h0) (e _ _ h)⟩)
  · exact .inr h
section
variable {P : Program} {w : World} {K : PySem.W.Frag} {mg : Str → Option Value} {base : Heap}
def spLaw (K : PySem.W.Frag) : Sp := fun vs H Q _ => ∃ (a : Addr) (ns : List Int), vs = [.ref a] ∧ SqL K H a (ns.map V.int) ∧ ns.length ≤ 63 ∧ ∀ H', Q (.bl true) H'
theorem ok_law {C : Addr} (T : Txt K mg) (R : RTxt K mg C) {f : Addr} {fd : FuncData} (F : Fun K "law" "law" sLaw f fd) : FnOk P w K mg base CX0 7 f fd ["_law_script"] (spLaw K) := by
  refine F.ok scLaw (fun vs H Q E h => ?_) (fun cdv A outer s₀ H vs Q E hr h => ?_)
  · obtain ⟨a, ns, rfl, _⟩ := h
    rfl
  · obtain ⟨a, ns, rfl, hS, hlen, q⟩ := h
    obtain ⟨f1, fd1, D1⟩ := T.d_l_right
    obtain ⟨f2, fd2, D2⟩ := T.d_l_dice
    have hr1 : Room 1 _ := hr.mono (by decide)
    have hr6 : Room 6 _ := hr.mono (by decide)
    refine ⟨_, pss_cons (ps_for PassesOwn.never rfl (pi_range1 (by rfl) T.z_range (pa_cons (pe_callB (call_max2 rfl) (by rfl) T.z_max (by decide +kernel) (pa_cons pe_int (pa_cons (pe_callB (call_min2 rfl) (by rfl) T.z_min (by decide +kernel) (pa_cons pe_int (pa_cons (pe_callB call_len_seq (by rfl) T.z_len PySem.boot_len (pa_cons (pv 0) pa_nil)) pa_nil))) pa_nil))) pa_nil)) (pg_name (i := 1) scLaw.nd rfl (.inl rfl))
        (pss_one (ps_if (pt_not (pt_val (pe_call (ok_right T R D1) hr6 (by rfl) D1.g D1.F.kp D1.b .nil pass0 (pa_cons (pe_call (ok_dice T D2) hr1 (by rfl) D2.g D2.F.kp D2.b .nil pass0 (pa_cons (pv 0) (pa_cons (pv 1) pa_nil))) pa_nil)))) (pss_one (ps_ret pe_bl)) pss_nil)))
      (pss_one (ps_ret pe_bl)), ?_⟩
    refine ⟨_, rfl, a, _, rfl, .inl hS, _, _, rfl, _, _, rfl, _, rfl, ?_, ?_, for_range (lo := 0) (n := Int.toNat _) (fun i σ' H' => ∃ y1, σ' = [some (.ref a), y1] ∧ SqL K H' a (ns.map V.int)) ⟨_, rfl, hS⟩ (fun i σ' H' _ hp => ?_) (fun σ' H' hp => ?_)⟩
    · first | omega | (split <;> omega) | (split <;> split <;> omega)
    · rw [List.length_map]
      first | omega | (split <;> omega) | (split <;> split <;> omega)
    · obtain ⟨y1, rfl, hS'⟩ := hp
      refine ⟨_, rfl, _, rfl, a, ns, i, ?_, hS', fun d H1 hp0 e1 hd1 => ?_⟩
      · rw [Int.zero_add]
        rfl
      refine ⟨d, rfl, hd1, fun H2 hd2 k2 => ⟨true, rfl, iteF ?_⟩⟩
      exact ⟨_, rfl, sql_keep hp0 e1 k2 hS'⟩
    · obtain ⟨y1, rfl, hS'⟩ := hp
      exact q _
end
end K1

namespace K1
open PySem PySem.Spec PyProof.Rows L2
/-- what a def of the text leaves -/
theorem mk_def {K : PySem.W.Frag} {h : Heap} {mg : Str → Option Value} {x : Str} {st : Stmt} {ps : List Str} {f : Addr} {oc : Value} {od an : Option Addr} {osl : Array (Option Value)} {kV doc pm cdv ct : Value} (X : K.In h) (G : h.Ns mainGlobals mg)
    (a : PySem.W.nsIn K mainGlobals x = some (some (.ref f))) (l : K.lookup f = some ⟨oc, od, .func (PySem.W.fnOf x x (defArgs st) (defBody st) (defScope st) .none kV doc pm an cdv ct), osl⟩) (c : PySem.W.codeIn K cdv x = true) (k : PySem.W.keepIn K (.ref f) = true)
    (b : ∀ (kV doc pm : Value) (an : Option Addr) (cdv ct : Value) (us : List Value), us.length = ps.length → bindArgs (PySem.W.fnOf x x (defArgs st) (defBody st) (defScope st) .none kV doc pm an cdv ct) ⟨us, []⟩ = pure (ps.zip us)) :
    ∃ f fd, DefAt K mg x st ps f fd := ⟨f, _, ⟨fun_mk (st := st) l c k, PySem.W.mg_of X G a, (fun_mk (st := st) l c k).binds b⟩⟩
theorem all_mk {P : Program} {w : World} {K : PySem.W.Frag} {h : Heap} {mg : Str → Option Value} {fa : Addr} (X : K.In h) (G : h.Ns mainGlobals mg) (hfa : mg "law" = some (.ref fa)) (vBOUND : ∃ t, mg "BOUND" = some (.int (10 ^ 60) t))
    {tMAX_ROUND : Tok} (gMAX_ROUND : PySem.W.nsIn K mainGlobals "MAX_ROUND" = some (some (.int 60 tMAX_ROUND)))
    (z_abs : PySem.W.nsIn K mainGlobals "abs" = some none) (z_all : PySem.W.nsIn K mainGlobals "all" = some none) (z_bool : PySem.W.nsIn K mainGlobals "bool" = some none) (z_dict : PySem.W.nsIn K mainGlobals "dict" = some none) (z_enumerate : PySem.W.nsIn K mainGlobals "enumerate" = some none) (z_int : PySem.W.nsIn K mainGlobals "int" = some none) (z_isinstance : PySem.W.nsIn K mainGlobals "isinstance" = some none) (z_len : PySem.W.nsIn K mainGlobals "len" = some none) (z_list : PySem.W.nsIn K mainGlobals "list" = some none) (z_max : PySem.W.nsIn K mainGlobals "max" = some none) (z_min : PySem.W.nsIn K mainGlobals "min" = some none) (z_range : PySem.W.nsIn K mainGlobals "range" = some none) (z_sorted : PySem.W.nsIn K mainGlobals "sorted" = some none) (z_sum : PySem.W.nsIn K mainGlobals "sum" = some none) (z_tuple : PySem.W.nsIn K mainGlobals "tuple" = some none) (z_zip : PySem.W.nsIn K mainGlobals "zip" = some none)
    {f0 : Addr} {oc0 : Value} {od0 an0 : Option Addr} {sl0 : Array (Option Value)} {kV0 dc0 pm0 cd0 ct0 : Value}
    (a0 : PySem.W.nsIn K mainGlobals "is_integer" = some (some (.ref f0))) (l0 : K.lookup f0 = some ⟨oc0, od0, .func (PySem.W.fnOf "is_integer" "is_integer" (defArgs sIsInteger) (defBody sIsInteger) (defScope sIsInteger) .none kV0 dc0 pm0 an0 cd0 ct0), sl0⟩) (c0 : PySem.W.codeIn K cd0 "is_integer" = true) (k0 : PySem.W.keepIn K (.ref f0) = true)
    {f1 : Addr} {oc1 : Value} {od1 an1 : Option Addr} {sl1 : Array (Option Value)} {kV1 dc1 pm1 cd1 ct1 : Value}
    (a1 : PySem.W.nsIn K mainGlobals "check_integer" = some (some (.ref f1))) (l1 : K.lookup f1 = some ⟨oc1, od1, .func (PySem.W.fnOf "check_integer" "check_integer" (defArgs sCheckInteger) (defBody sCheckInteger) (defScope sCheckInteger) .none kV1 dc1 pm1 an1 cd1 ct1), sl1⟩) (c1 : PySem.W.codeIn K cd1 "check_integer" = true) (k1 : PySem.W.keepIn K (.ref f1) = true)
    {f2 : Addr} {oc2 : Value} {od2 an2 : Option Addr} {sl2 : Array (Option Value)} {kV2 dc2 pm2 cd2 ct2 : Value}
    (a2 : PySem.W.nsIn K mainGlobals "is_round" = some (some (.ref f2))) (l2 : K.lookup f2 = some ⟨oc2, od2, .func (PySem.W.fnOf "is_round" "is_round" (defArgs sIsRound) (defBody sIsRound) (defScope sIsRound) .none kV2 dc2 pm2 an2 cd2 ct2), sl2⟩) (c2 : PySem.W.codeIn K cd2 "is_round" = true) (k2 : PySem.W.keepIn K (.ref f2) = true)
    {f3 : Addr} {oc3 : Value} {od3 an3 : Option Addr} {sl3 : Array (Option Value)} {kV3 dc3 pm3 cd3 ct3 : Value}
    (a3 : PySem.W.nsIn K mainGlobals "shift_in" = some (some (.ref f3))) (l3 : K.lookup f3 = some ⟨oc3, od3, .func (PySem.W.fnOf "shift_in" "shift_in" (defArgs sShiftIn) (defBody sShiftIn) (defScope sShiftIn) .none kV3 dc3 pm3 an3 cd3 ct3), sl3⟩) (c3 : PySem.W.codeIn K cd3 "shift_in" = true) (k3 : PySem.W.keepIn K (.ref f3) = true)
    {f4 : Addr} {oc4 : Value} {od4 an4 : Option Addr} {sl4 : Array (Option Value)} {kV4 dc4 pm4 cd4 ct4 : Value}
    (a4 : PySem.W.nsIn K mainGlobals "falls_in" = some (some (.ref f4))) (l4 : K.lookup f4 = some ⟨oc4, od4, .func (PySem.W.fnOf "falls_in" "falls_in" (defArgs sFallsIn) (defBody sFallsIn) (defScope sFallsIn) .none kV4 dc4 pm4 an4 cd4 ct4), sl4⟩) (c4 : PySem.W.codeIn K cd4 "falls_in" = true) (k4 : PySem.W.keepIn K (.ref f4) = true)
    {f5 : Addr} {oc5 : Value} {od5 an5 : Option Addr} {sl5 : Array (Option Value)} {kV5 dc5 pm5 cd5 ct5 : Value}
    (a5 : PySem.W.nsIn K mainGlobals "counted_in" = some (some (.ref f5))) (l5 : K.lookup f5 = some ⟨oc5, od5, .func (PySem.W.fnOf "counted_in" "counted_in" (defArgs sCountedIn) (defBody sCountedIn) (defScope sCountedIn) .none kV5 dc5 pm5 an5 cd5 ct5), sl5⟩) (c5 : PySem.W.codeIn K cd5 "counted_in" = true) (k5 : PySem.W.keepIn K (.ref f5) = true)
    {f6 : Addr} {oc6 : Value} {od6 an6 : Option Addr} {sl6 : Array (Option Value)} {kV6 dc6 pm6 cd6 ct6 : Value}
    (a6 : PySem.W.nsIn K mainGlobals "_law_dice" = some (some (.ref f6))) (l6 : K.lookup f6 = some ⟨oc6, od6, .func (PySem.W.fnOf "_law_dice" "_law_dice" (defArgs sLDice) (defBody sLDice) (defScope sLDice) .none kV6 dc6 pm6 an6 cd6 ct6), sl6⟩) (c6 : PySem.W.codeIn K cd6 "_law_dice" = true) (k6 : PySem.W.keepIn K (.ref f6) = true)
    {f7 : Addr} {oc7 : Value} {od7 an7 : Option Addr} {sl7 : Array (Option Value)} {kV7 dc7 pm7 cd7 ct7 : Value}
    (a7 : PySem.W.nsIn K mainGlobals "_law_roll" = some (some (.ref f7))) (l7 : K.lookup f7 = some ⟨oc7, od7, .func (PySem.W.fnOf "_law_roll" "_law_roll" (defArgs sLRoll) (defBody sLRoll) (defScope sLRoll) .none kV7 dc7 pm7 an7 cd7 ct7), sl7⟩) (c7 : PySem.W.codeIn K cd7 "_law_roll" = true) (k7 : PySem.W.keepIn K (.ref f7) = true)
    {f8 : Addr} {oc8 : Value} {od8 an8 : Option Addr} {sl8 : Array (Option Value)} {kV8 dc8 pm8 cd8 ct8 : Value}
    (a8 : PySem.W.nsIn K mainGlobals "_law_one_of" = some (some (.ref f8))) (l8 : K.lookup f8 = some ⟨oc8, od8, .func (PySem.W.fnOf "_law_one_of" "_law_one_of" (defArgs sLOneOf) (defBody sLOneOf) (defScope sLOneOf) .none kV8 dc8 pm8 an8 cd8 ct8), sl8⟩) (c8 : PySem.W.codeIn K cd8 "_law_one_of" = true) (k8 : PySem.W.keepIn K (.ref f8) = true)
    {f9 : Addr} {oc9 : Value} {od9 an9 : Option Addr} {sl9 : Array (Option Value)} {kV9 dc9 pm9 cd9 ct9 : Value}
    (a9 : PySem.W.nsIn K mainGlobals "_law_common" = some (some (.ref f9))) (l9 : K.lookup f9 = some ⟨oc9, od9, .func (PySem.W.fnOf "_law_common" "_law_common" (defArgs sLCommon) (defBody sLCommon) (defScope sLCommon) .none kV9 dc9 pm9 an9 cd9 ct9), sl9⟩) (c9 : PySem.W.codeIn K cd9 "_law_common" = true) (k9 : PySem.W.keepIn K (.ref f9) = true)
    {f10 : Addr} {oc10 : Value} {od10 an10 : Option Addr} {sl10 : Array (Option Value)} {kV10 dc10 pm10 cd10 ct10 : Value}
    (a10 : PySem.W.nsIn K mainGlobals "_law_order" = some (some (.ref f10))) (l10 : K.lookup f10 = some ⟨oc10, od10, .func (PySem.W.fnOf "_law_order" "_law_order" (defArgs sLOrder) (defBody sLOrder) (defScope sLOrder) .none kV10 dc10 pm10 an10 cd10 ct10), sl10⟩) (c10 : PySem.W.codeIn K cd10 "_law_order" = true) (k10 : PySem.W.keepIn K (.ref f10) = true)
    {f11 : Addr} {oc11 : Value} {od11 an11 : Option Addr} {sl11 : Array (Option Value)} {kV11 dc11 pm11 cd11 ct11 : Value}
    (a11 : PySem.W.nsIn K mainGlobals "_law_ring" = some (some (.ref f11))) (l11 : K.lookup f11 = some ⟨oc11, od11, .func (PySem.W.fnOf "_law_ring" "_law_ring" (defArgs sLRing) (defBody sLRing) (defScope sLRing) .none kV11 dc11 pm11 an11 cd11 ct11), sl11⟩) (c11 : PySem.W.codeIn K cd11 "_law_ring" = true) (k11 : PySem.W.keepIn K (.ref f11) = true)
    {f12 : Addr} {oc12 : Value} {od12 an12 : Option Addr} {sl12 : Array (Option Value)} {kV12 dc12 pm12 cd12 ct12 : Value}
    (a12 : PySem.W.nsIn K mainGlobals "_law_ring_of" = some (some (.ref f12))) (l12 : K.lookup f12 = some ⟨oc12, od12, .func (PySem.W.fnOf "_law_ring_of" "_law_ring_of" (defArgs sLRingOf) (defBody sLRingOf) (defScope sLRingOf) .none kV12 dc12 pm12 an12 cd12 ct12), sl12⟩) (c12 : PySem.W.codeIn K cd12 "_law_ring_of" = true) (k12 : PySem.W.keepIn K (.ref f12) = true)
    {f13 : Addr} {oc13 : Value} {od13 an13 : Option Addr} {sl13 : Array (Option Value)} {kV13 dc13 pm13 cd13 ct13 : Value}
    (a13 : PySem.W.nsIn K mainGlobals "_law_chain" = some (some (.ref f13))) (l13 : K.lookup f13 = some ⟨oc13, od13, .func (PySem.W.fnOf "_law_chain" "_law_chain" (defArgs sLChain) (defBody sLChain) (defScope sLChain) .none kV13 dc13 pm13 an13 cd13 ct13), sl13⟩) (c13 : PySem.W.codeIn K cd13 "_law_chain" = true) (k13 : PySem.W.keepIn K (.ref f13) = true)
    {f14 : Addr} {oc14 : Value} {od14 an14 : Option Addr} {sl14 : Array (Option Value)} {kV14 dc14 pm14 cd14 ct14 : Value}
    (a14 : PySem.W.nsIn K mainGlobals "_law_equal_chain" = some (some (.ref f14))) (l14 : K.lookup f14 = some ⟨oc14, od14, .func (PySem.W.fnOf "_law_equal_chain" "_law_equal_chain" (defArgs sLEqualChain) (defBody sLEqualChain) (defScope sLEqualChain) .none kV14 dc14 pm14 an14 cd14 ct14), sl14⟩) (c14 : PySem.W.codeIn K cd14 "_law_equal_chain" = true) (k14 : PySem.W.keepIn K (.ref f14) = true)
    {f15 : Addr} {oc15 : Value} {od15 an15 : Option Addr} {sl15 : Array (Option Value)} {kV15 dc15 pm15 cd15 ct15 : Value}
    (a15 : PySem.W.nsIn K mainGlobals "_law_tuple" = some (some (.ref f15))) (l15 : K.lookup f15 = some ⟨oc15, od15, .func (PySem.W.fnOf "_law_tuple" "_law_tuple" (defArgs sLTuple) (defBody sLTuple) (defScope sLTuple) .none kV15 dc15 pm15 an15 cd15 ct15), sl15⟩) (c15 : PySem.W.codeIn K cd15 "_law_tuple" = true) (k15 : PySem.W.keepIn K (.ref f15) = true)
    {f16 : Addr} {oc16 : Value} {od16 an16 : Option Addr} {sl16 : Array (Option Value)} {kV16 dc16 pm16 cd16 ct16 : Value}
    (a16 : PySem.W.nsIn K mainGlobals "_law_grown" = some (some (.ref f16))) (l16 : K.lookup f16 = some ⟨oc16, od16, .func (PySem.W.fnOf "_law_grown" "_law_grown" (defArgs sLGrown) (defBody sLGrown) (defScope sLGrown) .none kV16 dc16 pm16 an16 cd16 ct16), sl16⟩) (c16 : PySem.W.codeIn K cd16 "_law_grown" = true) (k16 : PySem.W.keepIn K (.ref f16) = true)
    {f17 : Addr} {oc17 : Value} {od17 an17 : Option Addr} {sl17 : Array (Option Value)} {kV17 dc17 pm17 cd17 ct17 : Value}
    (a17 : PySem.W.nsIn K mainGlobals "_law_heap" = some (some (.ref f17))) (l17 : K.lookup f17 = some ⟨oc17, od17, .func (PySem.W.fnOf "_law_heap" "_law_heap" (defArgs sLHeap) (defBody sLHeap) (defScope sLHeap) .none kV17 dc17 pm17 an17 cd17 ct17), sl17⟩) (c17 : PySem.W.codeIn K cd17 "_law_heap" = true) (k17 : PySem.W.keepIn K (.ref f17) = true)
    {f18 : Addr} {oc18 : Value} {od18 an18 : Option Addr} {sl18 : Array (Option Value)} {kV18 dc18 pm18 cd18 ct18 : Value}
    (a18 : PySem.W.nsIn K mainGlobals "_law_rich" = some (some (.ref f18))) (l18 : K.lookup f18 = some ⟨oc18, od18, .func (PySem.W.fnOf "_law_rich" "_law_rich" (defArgs sLRich) (defBody sLRich) (defScope sLRich) .none kV18 dc18 pm18 an18 cd18 ct18), sl18⟩) (c18 : PySem.W.codeIn K cd18 "_law_rich" = true) (k18 : PySem.W.keepIn K (.ref f18) = true)
    {f19 : Addr} {oc19 : Value} {od19 an19 : Option Addr} {sl19 : Array (Option Value)} {kV19 dc19 pm19 cd19 ct19 : Value}
    (a19 : PySem.W.nsIn K mainGlobals "_law_h" = some (some (.ref f19))) (l19 : K.lookup f19 = some ⟨oc19, od19, .func (PySem.W.fnOf "_law_h" "_law_h" (defArgs sLH) (defBody sLH) (defScope sLH) .none kV19 dc19 pm19 an19 cd19 ct19), sl19⟩) (c19 : PySem.W.codeIn K cd19 "_law_h" = true) (k19 : PySem.W.keepIn K (.ref f19) = true)
    {f20 : Addr} {oc20 : Value} {od20 an20 : Option Addr} {sl20 : Array (Option Value)} {kV20 dc20 pm20 cd20 ct20 : Value}
    (a20 : PySem.W.nsIn K mainGlobals "_law_map" = some (some (.ref f20))) (l20 : K.lookup f20 = some ⟨oc20, od20, .func (PySem.W.fnOf "_law_map" "_law_map" (defArgs sLMap) (defBody sLMap) (defScope sLMap) .none kV20 dc20 pm20 an20 cd20 ct20), sl20⟩) (c20 : PySem.W.codeIn K cd20 "_law_map" = true) (k20 : PySem.W.keepIn K (.ref f20) = true)
    {f21 : Addr} {oc21 : Value} {od21 an21 : Option Addr} {sl21 : Array (Option Value)} {kV21 dc21 pm21 cd21 ct21 : Value}
    (a21 : PySem.W.nsIn K mainGlobals "_law_multiple" = some (some (.ref f21))) (l21 : K.lookup f21 = some ⟨oc21, od21, .func (PySem.W.fnOf "_law_multiple" "_law_multiple" (defArgs sLMultiple) (defBody sLMultiple) (defScope sLMultiple) .none kV21 dc21 pm21 an21 cd21 ct21), sl21⟩) (c21 : PySem.W.codeIn K cd21 "_law_multiple" = true) (k21 : PySem.W.keepIn K (.ref f21) = true)
    {f22 : Addr} {oc22 : Value} {od22 an22 : Option Addr} {sl22 : Array (Option Value)} {kV22 dc22 pm22 cd22 ct22 : Value}
    (a22 : PySem.W.nsIn K mainGlobals "_law_right" = some (some (.ref f22))) (l22 : K.lookup f22 = some ⟨oc22, od22, .func (PySem.W.fnOf "_law_right" "_law_right" (defArgs sLRight) (defBody sLRight) (defScope sLRight) .none kV22 dc22 pm22 an22 cd22 ct22), sl22⟩) (c22 : PySem.W.codeIn K cd22 "_law_right" = true) (k22 : PySem.W.keepIn K (.ref f22) = true)
    {f23 : Addr} {oc23 : Value} {od23 an23 : Option Addr} {sl23 : Array (Option Value)} {kV23 dc23 pm23 cd23 ct23 : Value}
    (a23 : PySem.W.nsIn K mainGlobals "law" = some (some (.ref f23))) (l23 : K.lookup f23 = some ⟨oc23, od23, .func (PySem.W.fnOf "law" "law" (defArgs sLaw) (defBody sLaw) (defScope sLaw) .none kV23 dc23 pm23 an23 cd23 ct23), sl23⟩) (c23 : PySem.W.codeIn K cd23 "law" = true) (k23 : PySem.W.keepIn K (.ref f23) = true)
    {RC : Addr} (R_a : PySem.W.nsIn K mainGlobals "Round" = some (some (.ref RC))) (R_pg : PySem.W.plainGet K RC Str.empty = true) (R_hd : PySem.W.hasDictIn K RC = true) (R_po : PySem.W.plainOver K RC = true) (R_sa : PySem.W.findIn K (.ref RC) "__setattr__" = some (some (.builtin "object.__setattr__"))) (R_mk : PySem.W.makesIn K RC = true) (R_kC : PySem.W.keepIn K (.ref RC) = true) (R_n0 : PySem.W.findIn K (.ref RC) "_values" = some none) (R_n1 : PySem.W.findIn K (.ref RC) "_falls" = some none)
    {Rf0 : Addr} {Roc0 : Value} {Rod0 Ran0 : Option Addr} {Rsl0 : Array (Option Value)} {RkV0 Rdc0 Rpm0 Rcd0 Rct0 : Value} (R_m0 : PySem.W.findIn K (.ref RC) "__init__" = some (some (.ref Rf0))) (R_i0 : PySem.W.isFn K (.ref Rf0) = true) (R_l0 : K.lookup Rf0 = some ⟨Roc0, Rod0, .func (PySem.W.fnOf "__init__" "Round.__init__" (defArgs sRInit) (defBody sRInit) (defScope sRInit) .none RkV0 Rdc0 Rpm0 Ran0 Rcd0 Rct0), Rsl0⟩) (R_c0 : PySem.W.codeIn K Rcd0 "Round.__init__" = true) (R_k0 : PySem.W.keepIn K (.ref Rf0) = true)
    {Rf1 Rp1 : Addr} {Roc1 : Value} {Rod1 Ran1 : Option Addr} {Rsl1 : Array (Option Value)} {RkV1 Rdc1 Rpm1 Rcd1 Rct1 : Value} {Rr1 : List Value} (R_pa1 : PySem.W.findIn K (.ref RC) "shift" = some (some (.ref Rp1))) (R_pg1 : PySem.W.specialIn K (.ref Rp1) "__get__" = some (some (.builtin "property.__get__"))) (R_pt1 : PySem.W.takesIn K (.ref Rp1) = some true) (R_pr1 : PySem.W.recIn K Rp1 "property" = some (.ref Rf1 :: Rr1)) (R_l1 : K.lookup Rf1 = some ⟨Roc1, Rod1, .func (PySem.W.fnOf "shift" "Round.shift" (defArgs sRShift) (defBody sRShift) (defScope sRShift) .none RkV1 Rdc1 Rpm1 Ran1 Rcd1 Rct1), Rsl1⟩) (R_c1 : PySem.W.codeIn K Rcd1 "Round.shift" = true) (R_k1 : PySem.W.keepIn K (.ref Rf1) = true)
    {Rf2 Rp2 : Addr} {Roc2 : Value} {Rod2 Ran2 : Option Addr} {Rsl2 : Array (Option Value)} {RkV2 Rdc2 Rpm2 Rcd2 Rct2 : Value} {Rr2 : List Value} (R_pa2 : PySem.W.findIn K (.ref RC) "falls" = some (some (.ref Rp2))) (R_pg2 : PySem.W.specialIn K (.ref Rp2) "__get__" = some (some (.builtin "property.__get__"))) (R_pt2 : PySem.W.takesIn K (.ref Rp2) = some true) (R_pr2 : PySem.W.recIn K Rp2 "property" = some (.ref Rf2 :: Rr2)) (R_l2 : K.lookup Rf2 = some ⟨Roc2, Rod2, .func (PySem.W.fnOf "falls" "Round.falls" (defArgs sRFalls) (defBody sRFalls) (defScope sRFalls) .none RkV2 Rdc2 Rpm2 Ran2 Rcd2 Rct2), Rsl2⟩) (R_c2 : PySem.W.codeIn K Rcd2 "Round.falls" = true) (R_k2 : PySem.W.keepIn K (.ref Rf2) = true)
    {Rf3 : Addr} {Roc3 : Value} {Rod3 Ran3 : Option Addr} {Rsl3 : Array (Option Value)} {RkV3 Rdc3 Rpm3 Rcd3 Rct3 : Value} (R_m3 : PySem.W.findIn K (.ref RC) "counted" = some (some (.ref Rf3))) (R_i3 : PySem.W.isFn K (.ref Rf3) = true) (R_l3 : K.lookup Rf3 = some ⟨Roc3, Rod3, .func (PySem.W.fnOf "counted" "Round.counted" (defArgs sRCounted) (defBody sRCounted) (defScope sRCounted) .none RkV3 Rdc3 Rpm3 Ran3 Rcd3 Rct3), Rsl3⟩) (R_c3 : PySem.W.codeIn K Rcd3 "Round.counted" = true) (R_k3 : PySem.W.keepIn K (.ref Rf3) = true) :
    ∃ fd : FuncData, (∀ (s : Shared) (v : Value), BindsTo s fd ⟨[v], []⟩ [("_law_script", v)]) ∧ ∀ base : Heap, K.In base → base.Ns mainGlobals mg → FnOk P w K mg base CX0 7 fa fd ["_law_script"] (spLaw K) := by
  have e := hfa.symm.trans (PySem.W.mg_of X G a23)
  cases e
  have RF0 := fun_mk (st := sRInit) R_l0 R_c0 R_k0
  have Rb0 := RF0.binds (ps := ["self", "values"]) fun _ _ _ _ _ _ us hl => match us, hl with | [_, _], _ => rfl
  have RF1 := fun_mk (st := sRShift) R_l1 R_c1 R_k1
  have Rb1 := RF1.binds (ps := ["self"]) fun _ _ _ _ _ _ us hl => match us, hl with | [_], _ => rfl
  have RF2 := fun_mk (st := sRFalls) R_l2 R_c2 R_k2
  have Rb2 := RF2.binds (ps := ["self"]) fun _ _ _ _ _ _ us hl => match us, hl with | [_], _ => rfl
  have RF3 := fun_mk (st := sRCounted) R_l3 R_c3 R_k3
  have Rb3 := RF3.binds (ps := ["self", "a", "b"]) fun _ _ _ _ _ _ us hl => match us, hl with | [_, _, _], _ => rfl
  have R : RTxt K mg RC := ⟨⟨R_pg, R_hd, R_po, R_sa⟩, R_n0, R_n1, PySem.W.mg_of X G R_a, ⟨_, _, ⟨R_mk, R_m0, R_i0, R_kC⟩, RF0, Rb0⟩, ⟨_, _, _, ⟨R_pa1, R_pg1, R_pt1, ⟨_, R_pr1⟩⟩, RF1, Rb1⟩, ⟨_, _, _, ⟨R_pa2, R_pg2, R_pt2, ⟨_, R_pr2⟩⟩, RF2, Rb2⟩, ⟨_, _, ⟨R_m3, R_i3, R_k3⟩, RF3, Rb3⟩⟩
  have T : Txt K mg :=
    { z_abs := PySem.W.mg_none_of X G z_abs, z_all := PySem.W.mg_none_of X G z_all, z_bool := PySem.W.mg_none_of X G z_bool, z_dict := PySem.W.mg_none_of X G z_dict, z_enumerate := PySem.W.mg_none_of X G z_enumerate, z_int := PySem.W.mg_none_of X G z_int, z_isinstance := PySem.W.mg_none_of X G z_isinstance, z_len := PySem.W.mg_none_of X G z_len, z_list := PySem.W.mg_none_of X G z_list, z_max := PySem.W.mg_none_of X G z_max, z_min := PySem.W.mg_none_of X G z_min, z_range := PySem.W.mg_none_of X G z_range, z_sorted := PySem.W.mg_none_of X G z_sorted, z_sum := PySem.W.mg_none_of X G z_sum, z_tuple := PySem.W.mg_none_of X G z_tuple, z_zip := PySem.W.mg_none_of X G z_zip, v_BOUND := vBOUND, v_MAX_ROUND := ⟨tMAX_ROUND, PySem.W.mg_of X G gMAX_ROUND⟩,
      d_is_integer := mk_def (ps := ["value"]) X G a0 l0 c0 k0 fun _ _ _ _ _ _ us hl => match us, hl with | [_], _ => rfl,
      d_check_integer := mk_def (ps := ["value"]) X G a1 l1 c1 k1 fun _ _ _ _ _ _ us hl => match us, hl with | [_], _ => rfl,
      d_is_round := mk_def (ps := ["value"]) X G a2 l2 c2 k2 fun _ _ _ _ _ _ us hl => match us, hl with | [_], _ => rfl,
      d_shift_in := mk_def (ps := ["values"]) X G a3 l3 c3 k3 fun _ _ _ _ _ _ us hl => match us, hl with | [_], _ => rfl,
      d_falls_in := mk_def (ps := ["values"]) X G a4 l4 c4 k4 fun _ _ _ _ _ _ us hl => match us, hl with | [_], _ => rfl,
      d_counted_in := mk_def (ps := ["values", "a", "b"]) X G a5 l5 c5 k5 fun _ _ _ _ _ _ us hl => match us, hl with | [_, _, _], _ => rfl,
      d_l_dice := mk_def (ps := ["_law_script", "_law_at"]) X G a6 l6 c6 k6 fun _ _ _ _ _ _ us hl => match us, hl with | [_, _], _ => rfl,
      d_l_roll := mk_def (ps := ["_law_dice_here", "_law_total"]) X G a7 l7 c7 k7 fun _ _ _ _ _ _ us hl => match us, hl with | [_, _], _ => rfl,
      d_l_one_of := mk_def (ps := ["_law_dice_here", "_law_items"]) X G a8 l8 c8 k8 fun _ _ _ _ _ _ us hl => match us, hl with | [_, _], _ => rfl,
      d_l_common := mk_def (ps := ["_law_one", "_law_other"]) X G a9 l9 c9 k9 fun _ _ _ _ _ _ us hl => match us, hl with | [_, _], _ => rfl,
      d_l_order := mk_def (ps := ["_law_ring_here"]) X G a10 l10 c10 k10 fun _ _ _ _ _ _ us hl => match us, hl with | [_], _ => rfl,
      d_l_ring := mk_def (ps := ["_law_dice_here", "_law_most"]) X G a11 l11 c11 k11 fun _ _ _ _ _ _ us hl => match us, hl with | [_, _], _ => rfl,
      d_l_ring_of := mk_def (ps := ["_law_dice_here", "_law_k", "_law_times"]) X G a12 l12 c12 k12 fun _ _ _ _ _ _ us hl => match us, hl with | [_, _, _], _ => rfl,
      d_l_chain := mk_def (ps := ["_law_dice_here", "_law_rings", "_law_most"]) X G a13 l13 c13 k13 fun _ _ _ _ _ _ us hl => match us, hl with | [_, _, _], _ => rfl,
      d_l_equal_chain := mk_def (ps := ["_law_dice_here", "_law_rings", "_law_k"]) X G a14 l14 c14 k14 fun _ _ _ _ _ _ us hl => match us, hl with | [_, _, _], _ => rfl,
      d_l_tuple := mk_def (ps := ["_law_dice_here", "_law_chain_here"]) X G a15 l15 c15 k15 fun _ _ _ _ _ _ us hl => match us, hl with | [_, _], _ => rfl,
      d_l_grown := mk_def (ps := ["_law_heap_here", "_law_ring_here", "_law_x"]) X G a16 l16 c16 k16 fun _ _ _ _ _ _ us hl => match us, hl with | [_, _, _], _ => rfl,
      d_l_heap := mk_def (ps := ["_law_chain_here", "_law_x"]) X G a17 l17 c17 k17 fun _ _ _ _ _ _ us hl => match us, hl with | [_, _], _ => rfl,
      d_l_rich := mk_def (ps := ["_law_heap_here", "_law_rings", "_law_total"]) X G a18 l18 c18 k18 fun _ _ _ _ _ _ us hl => match us, hl with | [_, _, _], _ => rfl,
      d_l_h := mk_def (ps := ["_law_chain_here", "_law_total", "_law_x", "_law_a", "_law_b"]) X G a19 l19 c19 k19 fun _ _ _ _ _ _ us hl => match us, hl with | [_, _, _, _, _], _ => rfl,
      d_l_map := mk_def (ps := ["_law_chain_here", "_law_total", "_law_x", "_law_first", "_law_last"]) X G a20 l20 c20 k20 fun _ _ _ _ _ _ us hl => match us, hl with | [_, _, _, _, _], _ => rfl,
      d_l_multiple := mk_def (ps := ["_law_numbers"]) X G a21 l21 c21 k21 fun _ _ _ _ _ _ us hl => match us, hl with | [_], _ => rfl,
      d_l_right := mk_def (ps := ["_law_dice_here"]) X G a22 l22 c22 k22 fun _ _ _ _ _ _ us hl => match us, hl with | [_], _ => rfl }
  have F := fun_mk (st := sLaw) l23 c23 k23
  exact ⟨PySem.W.fnOf "law" "law" (defArgs sLaw) (defBody sLaw) (defScope sLaw) .none kV23 dc23 pm23 an23 cd23 ct23, fun s v => .of_eq rfl, fun base _ _ => ok_law T R F⟩
/-- the end of the law's row, what the loose names hold told -/
theorem walk_x {l : PySem.W.OpenLaw} {k : Nat} {q : Program} {loose : List Str} {lv : List (Str × PySem.W.WData)} {YP : World → Heap → Prop} {d : DefRec} {K : Params → PySem.W.Frag}
    (hn : l.most = some 63) (hdf : d.params.defaults = []) (hr : Room k callerA) (hY : ∀ (w : World) (h : Heap), YP w h → (K w.params).In h)
    (F : ∀ (w : World) (mg : Str → Option Value) (fa : Addr) (h : Heap), (K w.params).In h → h.Ns mainGlobals mg → PySem.W.XL q lv mg h → mg d.name = some (.ref fa) →
      ∃ fd : FuncData, (∀ (s : Shared) (u : Value), BindsTo s fd ⟨[u], []⟩ [("_law_script", u)]) ∧
        ∀ base : Heap, (K w.params).In base → base.Ns mainGlobals mg → FnOk l.prog w (K w.params) mg base CX0 k fa fd ["_law_script"] (spLaw (K w.params))) :
    PySem.W.WalkO q loose (PySem.W.XL q lv) YP l.row.toRowW d [] (fun f vs => PySem.call f vs) := by
  refine Att.attach_call hn hdf fun w s₀ s₁ mg mb fa o pm cd doc a vs ns G Y ho hd hcd hmg hobj hints hlen hg => ?_
  obtain ⟨fd, hb, hF⟩ := F w mg fa _ (hY w _ Y) G.T.g G.X hmg
  exact law_call (hY w _ Y) G.T.g G.T.b G.T.builtins G.T.nolimit hg hobj hints (Nat.le_trans hlen (by decide)) hr hF hb (fun H _ hS => ⟨a, ns, rfl, hS, hlen, fun _ => rfl⟩) fun H e s' z => z
end K1

open PySem PySem.W PyProof.Rows
set_option maxHeartbeats 0 in
theorem PySem.Challenge.cw_ringstairs_k33_maps_of_classes_are_round_holds : PySem.Challenge.rw_ringstairs_k33_maps_of_classes_are_round.Holds := by
  w_on; o_law; k_head; (case hw => w_witness2)
  k_fill
  refine K1.walk_x (k := 7) rfl rfl ⟨rfl, by decide, by decide⟩ (fun w h Y => PySem.W.kIn_of Y) ?F
  case F =>
    intro w mg fa h KX G XF hmg
    have vBOUND : ∃ t, mg "BOUND" = some (.int (10 ^ 60) t) := by
      obtain ⟨v, e1, e2⟩ := XF.2.val _ (List.mem_cons_self ..)
      cases e2
      exact ⟨_, e1⟩
    refine' K1.all_mk KX G hmg vBOUND ?gMAX_ROUND ?z_abs ?z_all ?z_bool ?z_dict ?z_enumerate ?z_int ?z_isinstance ?z_len ?z_list ?z_max ?z_min ?z_range ?z_sorted ?z_sum ?z_tuple ?z_zip ?a0 ?l0 ?c0 ?k0 ?a1 ?l1 ?c1 ?k1 ?a2 ?l2 ?c2 ?k2 ?a3 ?l3 ?c3 ?k3 ?a4 ?l4 ?c4 ?k4 ?a5 ?l5 ?c5 ?k5 ?a6 ?l6 ?c6 ?k6 ?a7 ?l7 ?c7 ?k7 ?a8 ?l8 ?c8 ?k8 ?a9 ?l9 ?c9 ?k9 ?a10 ?l10 ?c10 ?k10 ?a11 ?l11 ?c11 ?k11 ?a12 ?l12 ?c12 ?k12 ?a13 ?l13 ?c13 ?k13 ?a14 ?l14 ?c14 ?k14 ?a15 ?l15 ?c15 ?k15 ?a16 ?l16 ?c16 ?k16 ?a17 ?l17 ?c17 ?k17 ?a18 ?l18 ?c18 ?k18 ?a19 ?l19 ?c19 ?k19 ?a20 ?l20 ?c20 ?k20 ?a21 ?l21 ?c21 ?k21 ?a22 ?l22 ?c22 ?k22 ?a23 ?l23 ?c23 ?k23 ?R_a ?R_pg ?R_hd ?R_po ?R_sa ?R_mk ?R_kC ?R_n0 ?R_n1 ?R_m0 ?R_i0 ?R_l0 ?R_c0 ?R_k0 ?R_pa1 ?R_pg1 ?R_pt1 ?R_pr1 ?R_l1 ?R_c1 ?R_k1 ?R_pa2 ?R_pg2 ?R_pt2 ?R_pr2 ?R_l2 ?R_c2 ?R_k2 ?R_m3 ?R_i3 ?R_l3 ?R_c3 ?R_k3
    (case gMAX_ROUND => k_is); (case z_abs => k_is); (case z_all => k_is); (case z_bool => k_is); (case z_dict => k_is); (case z_enumerate => k_is); (case z_int => k_is); (case z_isinstance => k_is)
    (case z_len => k_is); (case z_list => k_is); (case z_max => k_is); (case z_min => k_is); (case z_range => k_is); (case z_sorted => k_is); (case z_sum => k_is); (case z_tuple => k_is)
    (case z_zip => k_is); (case a0 => k_is); (case l0 => k_is); (case c0 => k_is); (case k0 => k_is); (case a1 => k_is); (case l1 => k_is); (case c1 => k_is)
    (case k1 => k_is); (case a2 => k_is); (case l2 => k_is); (case c2 => k_is); (case k2 => k_is); (case a3 => k_is); (case l3 => k_is); (case c3 => k_is)
    (case k3 => k_is); (case a4 => k_is); (case l4 => k_is); (case c4 => k_is); (case k4 => k_is); (case a5 => k_is); (case l5 => k_is); (case c5 => k_is)
    (case k5 => k_is); (case a6 => k_is); (case l6 => k_is); (case c6 => k_is); (case k6 => k_is); (case a7 => k_is); (case l7 => k_is); (case c7 => k_is)
    (case k7 => k_is); (case a8 => k_is); (case l8 => k_is); (case c8 => k_is); (case k8 => k_is); (case a9 => k_is); (case l9 => k_is); (case c9 => k_is)
    (case k9 => k_is); (case a10 => k_is); (case l10 => k_is); (case c10 => k_is); (case k10 => k_is); (case a11 => k_is); (case l11 => k_is); (case c11 => k_is)
    (case k11 => k_is); (case a12 => k_is); (case l12 => k_is); (case c12 => k_is); (case k12 => k_is); (case a13 => k_is); (case l13 => k_is); (case c13 => k_is)
    (case k13 => k_is); (case a14 => k_is); (case l14 => k_is); (case c14 => k_is); (case k14 => k_is); (case a15 => k_is); (case l15 => k_is); (case c15 => k_is)
    (case k15 => k_is); (case a16 => k_is); (case l16 => k_is); (case c16 => k_is); (case k16 => k_is); (case a17 => k_is); (case l17 => k_is); (case c17 => k_is)
    (case k17 => k_is); (case a18 => k_is); (case l18 => k_is); (case c18 => k_is); (case k18 => k_is); (case a19 => k_is); (case l19 => k_is); (case c19 => k_is)
    (case k19 => k_is); (case a20 => k_is); (case l20 => k_is); (case c20 => k_is); (case k20 => k_is); (case a21 => k_is); (case l21 => k_is); (case c21 => k_is)
    (case k21 => k_is); (case a22 => k_is); (case l22 => k_is); (case c22 => k_is); (case k22 => k_is); (case a23 => k_is); (case l23 => k_is); (case c23 => k_is)
    (case k23 => k_is)
    (case R_a => k_is)
    (case R_pg => k_is)
    (case R_hd => k_is)
    (case R_po => k_is)
    (case R_sa => k_is)
    (case R_mk => k_is)
    (case R_kC => k_is)
    (case R_n0 => k_is)
    (case R_n1 => k_is)
    (case R_m0 => k_is)
    (case R_i0 => k_is)
    (case R_l0 => k_is)
    (case R_c0 => k_is)
    (case R_k0 => k_is)
    (case R_pa1 => k_is)
    (case R_pg1 => k_is)
    (case R_pt1 => k_is)
    (case R_pr1 => k_is)
    (case R_l1 => k_is)
    (case R_c1 => k_is)
    (case R_k1 => k_is)
    (case R_pa2 => k_is)
    (case R_pg2 => k_is)
    (case R_pt2 => k_is)
    (case R_pr2 => k_is)
    (case R_l2 => k_is)
    (case R_c2 => k_is)
    (case R_k2 => k_is)
    (case R_m3 => k_is)
    (case R_i3 => k_is)
    (case R_l3 => k_is)
    (case R_c3 => k_is)
    (case R_k3 => k_is)

